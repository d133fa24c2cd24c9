/-
  The inode map takes one entry in.
-/
import Derived.Test.YtbacfbdeeogkgaaImPut
import Derived.Test.YtbacfbdeeogkgaaImRdMap
namespace Go.Proofs.Ytbacfbdeeogkgaa
open Go.RowKit Go.Maps

theorem key_men : Try.prog.keyTypeAt 3 MEN = true := by kernel_rfl
theorem men_lits (a v : Int) (ha : FitZ a) (hv : FitZ v) : Try.prog.keyLits 3 MEN [.int .i64 a, .int .i64 v] = some [.int .i64 a, .int .i64 v] := by
  have h1 := wf_i64 _ ha
  have h2 := wf_i64 _ hv
  simp [Program.keyLits, Try.underlying55, Try.underlying3, cells_int, cells_men, List.range, List.range.loop, h1, h2]
theorem eql_menz (a v : Int) (ha : FitZ a) (hv : FitZ v) : ∀ W, (binOp .eql MEN (.agg #[.int .i64 a, .int .i64 v]) (.agg #[.int .i64 0, .int .i64 0])).run Try.prog W = .ok (.bool (decide (a = 0 ∧ v = 0))) W := fun W => by
  obtain ⟨r, hr, hiff⟩ := run_equalIn_deep (P := Try.prog) 9997 3 MEN key_men W 3 3 (.agg #[.int .i64 a, .int .i64 v]) (.agg #[.int .i64 0, .int .i64 0]) _ _ (by simp [Value.formed, Try.underlying55, cells_men]) (by simp [Value.formed, Try.underlying55, cells_men]) (men_lits a v ha hv) (men_lits 0 0 ⟨by decide, by decide⟩ ⟨by decide, by decide⟩)
  have h : (Op.equalIn Op.maxDepth MEN (.agg #[.int .i64 a, .int .i64 v]) (.agg #[.int .i64 0, .int .i64 0])).run Try.prog W = .ok r W := hr
  have e : r = decide (a = 0 ∧ v = 0) := by
    cases r with
    | true => have := hiff.1 rfl; simp at this; simp [this.1, this.2]
    | false =>
      by_cases hz : a = 0 ∧ v = 0
      · have := hiff.2 (by rw [hz.1, hz.2]); cases this
      · simp [hz]
  simp [binOp, Op.equal, h, e]
section
variable {w w' : World} {bm gs gd n N p C : Nat} {A V : Nat → Int} {B : Nat → Bool}
def LdO (C : Nat) (w : World) (bm gs gd n N : Nat) (A V : Nat → Int) (B : Nat → Bool) (p : Nat) (a v : Int) (e : Ending) (w' : World) : Prop :=
  e = .returned (.bool true) ∧ Im w' bm gs gd n N (upd A p a) (upd V p v) (upd B p (a != 0)) ∧ Below C w w' ∧ Fr1 gs w w'
set_option maxRecDepth 100000 in
set_option maxHeartbeats 1000000 in
theorem load_in (a v : Int) (h : Im w bm gs gd n N A V B) (hp : p < n) (h1 : 1 ≤ p) (hn : n ≤ 200) (hC : C ≤ gs) (hCw : C ≤ w.heap.size) :
    Calls Try.prog 20 #[.pointer (some ⟨bm, 0, none⟩), .int .i64 (p : Int), .agg #[.int .i64 a, .int .i64 v]] w (LdO C w bm gs gd n N A V B p a v) := by
  have hb0 : Below w.heap.size w (w.alloc (.cells #[.int .i64 a, .int .i64 v] 55)) := (Below.refl _ _).alloc (Nat.le_refl _) _
  have H1 := h.later hb0
  have HB0 := Lib.hid hb0
  have H := Lib.hid H1
  have HX := Lib.hid (blo_laid w 55 #[.int .i64 a, .int .i64 v])
  have hsl := HX.out.cell 0
  have hsl1 := HX.out.cell 1
  simp at hsl hsl1
  obtain ⟨c0, c1, c2⟩ := H1.cell hp
  have t0 := H1.top.cell 0
  simp at t0
  have f0 := H1.frozen (p * 3)
  have f1 := H1.frozen (p * 3 + 1)
  have f2 := H1.frozen (p * 3 + 2)
  have i0 : ¬ (p : Int) < 1 := by omega
  have i1 : (0 : Int) ≤ (p : Int) := by omega
  have i2 : (p : Int) < (n : Int) := by omega
  have i3 : ¬ (n : Int) ≤ (p : Int) := by omega
  clear h hb0 H1
  go_enter Try.func20, Try.ntmps20
  go_wp2_with fail
  go_region
  go_wp2_with fail
  go_ret
  exact ⟨rfl, put_fin (H.out.later (Below.refl _ _).drew) hp a v (a != 0), below_fin ((HB0.out.mono hCw).drew) hC p a v _, fr1_fin (fr1_below HB0.out.drew) p a v _⟩
set_option maxRecDepth 100000 in
set_option maxHeartbeats 1000000 in
theorem load_out (a v : Int) (h : Im w bm gs gd n N A V B) (hp : p < 1 ∨ n ≤ p) (hp2 : p ≤ 1000000) (hn : n ≤ 200) (ha : FitZ a) (hv : FitZ v) :
    Calls Try.prog 20 #[.pointer (some ⟨bm, 0, none⟩), .int .i64 (p : Int), .agg #[.int .i64 a, .int .i64 v]] w fun e w' => e = .returned (.bool (decide (a = 0 ∧ v = 0))) ∧ Below w.heap.size w w' := by
  have hb0 : Below w.heap.size w (w.alloc (.cells #[.int .i64 a, .int .i64 v] 55)) := (Below.refl _ _).alloc (Nat.le_refl _) _
  have H1 := h.later hb0
  have HB0 := Lib.hid hb0
  have HX := Lib.hid (blo_laid w 55 #[.int .i64 a, .int .i64 v])
  have hsl := HX.out.cell 0
  have hsl1 := HX.out.cell 1
  simp at hsl hsl1
  have t0 := H1.top.cell 0
  simp at t0
  have heq := eql_menz a v ha hv
  generalize decide (a = 0 ∧ v = 0) = r at *
  clear h hb0 H1
  rcases hp with h0 | h0
  · have i0 : (p : Int) < 1 := by omega
    clear h0
    go_enter Try.func20, Try.ntmps20
    go_wp2_with fail
    go_ret
    exact ⟨rfl, HB0.out⟩
  · by_cases h1 : p < 1
    · have i0 : (p : Int) < 1 := by omega
      clear h0 h1
      go_enter Try.func20, Try.ntmps20
      go_wp2_with fail
      go_ret
      exact ⟨rfl, HB0.out⟩
    · have i0 : ¬ (p : Int) < 1 := by omega
      have i3 : (n : Int) ≤ (p : Int) := by omega
      clear h0 h1
      go_enter Try.func20, Try.ntmps20
      go_wp2_with fail
      go_ret
      exact ⟨rfl, HB0.out⟩
end
end Go.Proofs.Ytbacfbdeeogkgaa
