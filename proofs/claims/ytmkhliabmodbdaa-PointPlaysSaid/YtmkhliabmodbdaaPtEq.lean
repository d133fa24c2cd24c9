/-
  Two points compared by == and !=.
-/
import Derived.Test.YtmkhliabmodbdaaPtSave
import Derived.DeepKeys
namespace Go.Proofs.Ytmkhliabmodbdaa
open Go.RowKit

def FitZ (x : Int) : Prop := -9223372036854775808 ≤ x ∧ x ≤ 9223372036854775807
def FitP (p : Pt) : Prop := FitZ p.e ∧ FitZ p.c ∧ FitZ p.n ∧ FitZ p.f
theorem Good4.fit {p : Pt} (h : Good4 p) : FitP p := by
  obtain ⟨h1, h2, h3, h4⟩ := h
  unfold FitP FitZ
  omega
theorem fit_zero : FitP zPt := by unfold FitP FitZ zPt; decide
theorem cells_int : Try.prog.cellsOf 3 = 1 := by kernel_rfl
theorem cells_pt : Try.prog.cellsOf PNT = 4 := by kernel_rfl
theorem key_pt : Try.prog.keyTypeAt 4 PNT = true := by kernel_rfl
theorem wf_i64 (a : Int) (h : FitZ a) : (Lit.int .i64 a).wf = true := by
  unfold FitZ at h
  simp [Lit.wf, IntKind.min, IntKind.max, IntKind.signed, IntKind.bits]; omega
theorem pt_lits (p : Pt) (h : FitP p) : Try.prog.keyLits 4 PNT (ptA p).toList = some [.int .i64 p.e, .int .i64 p.c, .int .i64 p.n, .int .i64 p.f] := by
  obtain ⟨h1, h2, h3, h4⟩ := h
  have wa := wf_i64 _ h1
  have wb := wf_i64 _ h2
  have wc := wf_i64 _ h3
  have wd := wf_i64 _ h4
  simp [ptA, Program.keyLits, Try.underlying35, Try.underlying3, cells_int, cells_pt, List.range, List.range.loop, wa, wb, wc, wd]
theorem pt_ext {p q : Pt} : p = q ↔ p.e = q.e ∧ p.c = q.c ∧ p.n = q.n ∧ p.f = q.f := by
  obtain ⟨a1, a2, a3, a4⟩ := p
  obtain ⟨b1, b2, b3, b4⟩ := q
  simp
theorem eql_pt (p q : Pt) (hp : FitP p) (hq : FitP q) (W : World) : (binOp .eql PNT (.agg (ptA p)) (.agg (ptA q))).run Try.prog W = .ok (.bool (decide (p = q))) W := by
  obtain ⟨r, hr, hiff⟩ := run_equalIn_deep (P := Try.prog) 9996 4 PNT key_pt W 4 4 (.agg (ptA p)) (.agg (ptA q)) _ _ (by simp [Value.formed, Try.underlying35, cells_pt, ptA]) (by simp [Value.formed, Try.underlying35, cells_pt, ptA]) (pt_lits p hp) (pt_lits q hq)
  have e : r = decide (p = q) := by
    rw [Bool.eq_iff_iff, hiff, decide_eq_true_iff, pt_ext]; simp
  subst e
  rw [run_eql_struct, hr]; rfl
theorem neq_pt (p q : Pt) (hp : FitP p) (hq : FitP q) (W : World) : (binOp .neq PNT (.agg (ptA p)) (.agg (ptA q))).run Try.prog W = .ok (.bool (!decide (p = q))) W := by
  obtain ⟨r, hr, hiff⟩ := run_equalIn_deep (P := Try.prog) 9996 4 PNT key_pt W 4 4 (.agg (ptA p)) (.agg (ptA q)) _ _ (by simp [Value.formed, Try.underlying35, cells_pt, ptA]) (by simp [Value.formed, Try.underlying35, cells_pt, ptA]) (pt_lits p hp) (pt_lits q hq)
  have e : r = decide (p = q) := by
    rw [Bool.eq_iff_iff, hiff, decide_eq_true_iff, pt_ext]; simp
  subst e
  rw [run_neq_struct, hr]; rfl
theorem CodeO.keep {C : Nat} {w w' : World} {L : Dl} {d d' : Dm} {code : Int} {e : Ending} {g : Nat} {cs : Array Value} (h : CodeO C w L d' code e w') (hD : Dk C w L d) (hg : Blo w g PNT cs) : Blo w' g PNT cs := by
  obtain ⟨_, _, _, h3, _⟩ := h
  exact h3.blo hg (hD.apart hg (by decide) (by decide) (by decide))
end Go.Proofs.Ytmkhliabmodbdaa
