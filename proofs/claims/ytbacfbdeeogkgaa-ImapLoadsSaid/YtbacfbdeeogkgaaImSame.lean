/-
  Eight map entries: held against themselves; written and read back; come in by value.
-/
import Derived.Test.YtbacfbdeeogkgaaEnRead
import Derived.DeepKeys
import Derived.StillTailTactics
import Derived.Lib.SmallJoins
import Derived.ProofKit
import Derived.OpenShut
import Derived.ChangeArms
namespace Go.Proofs.Ytbacfbdeeogkgaa
open Go.RowKit

def FitZ (x : Int) : Prop := -9223372036854775808 ≤ x ∧ x ≤ 9223372036854775807
theorem wf_i64 (a : Int) (h : FitZ a) : (Lit.int .i64 a).wf = true := by
  unfold FitZ at h
  simp [Lit.wf, IntKind.min, IntKind.max, IntKind.signed, IntKind.bits]; omega
theorem fit_wf {a : Int} (h : (Lit.int .i64 a).wf = true) : FitZ a := by
  simp [Lit.wf, IntKind.min, IntKind.max, IntKind.signed, IntKind.bits] at h
  unfold FitZ; omega
theorem cells_int : Try.prog.cellsOf 3 = 1 := by kernel_rfl
theorem cells_men : Try.prog.cellsOf MEN = 2 := by kernel_rfl
theorem cells_a8 : Try.prog.cellsOf A8T = 16 := by kernel_rfl
theorem key_a8 : Try.prog.keyTypeAt 4 A8T = true := by kernel_rfl
def Fit8 (A V : Nat → Int) : Prop := ∀ i, i < 8 → FitZ (A i) ∧ FitZ (V i)
def lits16 (A V : Nat → Int) : List Lit := [.int .i64 (A 0), .int .i64 (V 0), .int .i64 (A 1), .int .i64 (V 1), .int .i64 (A 2), .int .i64 (V 2), .int .i64 (A 3), .int .i64 (V 3), .int .i64 (A 4), .int .i64 (V 4), .int .i64 (A 5), .int .i64 (V 5), .int .i64 (A 6), .int .i64 (V 6), .int .i64 (A 7), .int .i64 (V 7)]
set_option maxHeartbeats 2000000 in
theorem a8_lits (A V : Nat → Int) (h : Fit8 A V) : Try.prog.keyLits 4 A8T (cells16 A V).toList = some (lits16 A V) := by
  have wa := fun i hi => wf_i64 _ (h i hi).1
  have wv := fun i hi => wf_i64 _ (h i hi).2
  have a0 := wa 0 (by decide)
  have a1 := wa 1 (by decide)
  have a2 := wa 2 (by decide)
  have a3 := wa 3 (by decide)
  have a4 := wa 4 (by decide)
  have a5 := wa 5 (by decide)
  have a6 := wa 6 (by decide)
  have a7 := wa 7 (by decide)
  have v0 := wv 0 (by decide)
  have v1 := wv 1 (by decide)
  have v2 := wv 2 (by decide)
  have v3 := wv 3 (by decide)
  have v4 := wv 4 (by decide)
  have v5 := wv 5 (by decide)
  have v6 := wv 6 (by decide)
  have v7 := wv 7 (by decide)
  simp [cells16, lits16, Program.keyLits, Try.underlying56, Try.underlying55, Try.underlying3, cells_int, cells_men, cells_a8, List.range, List.range.loop, a0, a1, a2, a3, a4, a5, a6, a7, v0, v1, v2, v3, v4, v5, v6, v7]
theorem equal_a8 (A V : Nat → Int) (h : Fit8 A V) (W : World) : (Op.equalIn 10000 A8T (.agg (cells16 A V)) (.agg (cells16 A V))).run Try.prog W = .ok true W := by
  obtain ⟨r, hr, hiff⟩ := run_equalIn_deep (P := Try.prog) 9996 4 A8T key_a8 W 4 4 (.agg (cells16 A V)) (.agg (cells16 A V)) _ _ (by simp [Value.formed, Try.underlying56, cells_a8, cells16]) (by simp [Value.formed, Try.underlying56, cells_a8, cells16]) (a8_lits A V h) (a8_lits A V h)
  have e : r = true := hiff.2 rfl
  rw [e] at hr
  exact hr
theorem encK_get (A V : Nat → Int) (i j : Nat) (hj : j < 8) : ∀ k, i < k → (encK A V k).getD (i * 8 + j) 0 = (encM (A i).toNat (V i).toNat).getD j 0
  | 0, h => by omega
  | k + 1, h => by
    have hl := encK_len A V k
    rw [encK, List.getD_eq_getElem?_getD, List.getD_eq_getElem?_getD]
    by_cases e : i = k
    · subst e
      rw [List.getElem?_append_right (by omega), hl, Nat.add_sub_cancel_left]
    · rw [List.getElem?_append_left (by omega), ← List.getD_eq_getElem?_getD, ← List.getD_eq_getElem?_getD]
      exact encK_get A V i j hj k (by omega)
theorem rdA_enc (A V : Nat → Int) (i : Nat) (hi : i < 8) (h : GoodM (A i) (V i)) : rdA (encK A V 8) i = A i ∧ rdV (encK A V 8) i = V i := by
  obtain ⟨h1, h2, h3, h4⟩ := h
  have g0 := encK_get A V i 0 (by decide) 8 hi
  have g1 := encK_get A V i 1 (by decide) 8 hi
  have g2 := encK_get A V i 2 (by decide) 8 hi
  have g3 := encK_get A V i 3 (by decide) 8 hi
  have g4 := encK_get A V i 4 (by decide) 8 hi
  have g5 := encK_get A V i 5 (by decide) 8 hi
  simp only [encM, List.getD_cons_zero, List.getD_cons_succ, Nat.add_zero] at g0 g1 g2 g3 g4 g5
  unfold rdA rdV b4 b2
  rw [g0, g1, g2, g3, g4, show i * 8 + 4 + 1 = i * 8 + 5 by omega, g5]
  constructor <;> omega
theorem cells16_ext {A V A' V' : Nat → Int} (h : ∀ i, i < 8 → A i = A' i ∧ V i = V' i) : cells16 A V = cells16 A' V' := by
  unfold cells16
  rw [(h 0 (by decide)).1, (h 0 (by decide)).2, (h 1 (by decide)).1, (h 1 (by decide)).2, (h 2 (by decide)).1, (h 2 (by decide)).2, (h 3 (by decide)).1, (h 3 (by decide)).2, (h 4 (by decide)).1, (h 4 (by decide)).2, (h 5 (by decide)).1, (h 5 (by decide)).2, (h 6 (by decide)).1, (h 6 (by decide)).2, (h 7 (by decide)).1, (h 7 (by decide)).2]
theorem encK_ext {A V A' V' : Nat → Int} : ∀ k, (∀ i, i < k → A i = A' i ∧ V i = V' i) → encK A V k = encK A' V' k
  | 0, _ => rfl
  | k + 1, h => by rw [encK, encK, encK_ext k (fun i hi => h i (by omega)), (h k (by omega)).1, (h k (by omega)).2]
theorem okM_enc (A V : Nat → Int) (h : AllG A V 8) : OkM (encK A V 8) ∧ cells16 (rdA (encK A V 8)) (rdV (encK A V 8)) = cells16 A V := by
  have e := fun i hi => rdA_enc A V i hi (h i hi)
  refine ⟨⟨fun i hi => ?_, encK_ext 8 e⟩, cells16_ext e⟩
  rw [(e i hi).1, (e i hi).2]
  exact h i hi
end Go.Proofs.Ytbacfbdeeogkgaa
