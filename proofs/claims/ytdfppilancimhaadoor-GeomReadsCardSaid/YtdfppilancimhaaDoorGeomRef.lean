/-
  The walks of the law's own helpers: a geometry as the document has it, and how many segments it has.
-/
import Derived.Test.YtdfppilancimhaaDoorGeomLeft
namespace Go.Proofs.YtdfppilancimhaaDoor
open Go.RowKit

set_option maxHeartbeats 400000 in
theorem ref_any (b s i : Int) (w : World) :
    Calls Tryd.prog 8 #[.agg #[.int .i64 b, .int .i64 s, .int .i64 i]] w fun e w' => e = .returned (.agg #[.int .i64 b, .int .i64 s, .int .i64 i]) ∧ Below w.heap.size w w' := by
  go_enter Tryd.func8, Tryd.ntmps8
  go_wp2
  exact bodyPost_ret (v := .agg #[.int .i64 b, .int .i64 s, .int .i64 i]) (by simp [results, Tryd.results8, go_sem]) rfl ⟨rfl, ((Below.refl _ _).alloc (Nat.le_refl _) _).alloc (by simp) _⟩
/-- The numbers are within a geometry's bounds. -/
def InBounds (b s i : Int) : Prop := 64 ≤ b ∧ b ≤ 4096 ∧ 8 ≤ s ∧ s ≤ 64 ∧ 4 ≤ i ∧ i ≤ 200
theorem good_iff (b s i : Int) : Good b s i ↔ InBounds b s i ∧ 6 ≤ (b - 3) / s := by
  unfold Good InBounds
  constructor
  · intro ⟨h1, h2, h3, h4, h5, h6, h7⟩; exact ⟨⟨h1, h2, h3, h4, h5, h6⟩, h7⟩
  · intro ⟨⟨h1, h2, h3, h4, h5, h6⟩, h7⟩; exact ⟨h1, h2, h3, h4, h5, h6, h7⟩
theorem count_step (b s : Int) (n : Nat) (hs : 0 < s) : 3 + ((n : Int) + 1) * s ≤ b ↔ (n : Int) + 1 ≤ (b - 3) / s := by
  rw [Int.le_ediv_iff_mul_le hs]
  omega
set_option maxRecDepth 20000 in
set_option maxHeartbeats 600000 in
theorem refSegs_in (b s i : Int) (w : World) (h : InBounds b s i) :
    Calls Tryd.prog 7 #[.agg #[.int .i64 b, .int .i64 s, .int .i64 i]] w fun e w' => e = .returned (.int .i64 (nsegs b s i)) ∧ Below w.heap.size w w' := by
  have HI := Lib.hid h
  obtain ⟨h1, h2, h3, h4, h5, h6⟩ := h
  have hq := div_bd b s h1 h2 h3
  have HB := Lib.hid (sup_below w (.cells #[.int .i64 b, .int .i64 s, .int .i64 i] 26))
  have hN : ∀ q, q = (b - 3) / s → nsegs b s i = if q < 6 then 0 else q := by
    intro q hq
    by_cases hg : Good b s i
    · rw [nsegs_good hg, if_neg (by have := hg.2.2.2.2.2.2; omega), hq]
    · rw [nsegs_bad hg, if_pos]
      apply Int.not_le.1
      intro e
      exact hg ((good_iff b s i).2 ⟨HI.out, by omega⟩)
  have HN := Lib.hid (hN _ rfl)
  have hstep := fun n => count_step b s n (by omega)
  have HS := Lib.hid hstep
  obtain ⟨q, hqe⟩ : ∃ q, q = (b - 3) / s := ⟨_, rfl⟩
  rw [← hqe] at hq HN
  have HQ := Lib.hid hqe
  clear hN hstep hqe
  go_enter Tryd.func7, Tryd.ntmps7
  go_wp2_with fail
  go_loop [3] (fun t => ∃ n : Nat, t = .int .i64 n ∧ (n : Int) ≤ q) (fun t => 600 - (intOf t).toNat)
  case atStart => exact ⟨0, rfl, by omega⟩
  case round =>
    obtain ⟨n, rfl, hn⟩ := hrel
    have hm : 0 ≤ ((n : Int) + 1) * s ∧ ((n : Int) + 1) * s ≤ 600 * 64 := by
      refine ⟨Int.mul_nonneg (by omega) (by omega), ?_⟩
      exact Int.mul_le_mul (by omega) h4 (by omega) (by omega)
    have hst := HS.out n
    by_cases hlt : (n : Int) + 1 ≤ q
    · have hc : 3 + ((n : Int) + 1) * s ≤ b := hst.2 (by rw [← HQ.out]; exact hlt)
      clear hst
      go_wp2
      go_round
      case rel => exact ⟨n + 1, by go_num, by omega⟩
      case measure => simp [intOf]; omega
    · have hc : ¬ (3 + ((n : Int) + 1) * s ≤ b) := fun e => hlt (by have := hst.1 e; rw [← HQ.out] at this; exact this)
      have hnq : (n : Int) = q := by omega
      have hne : nsegs b s i = if (n : Int) < 6 then 0 else (n : Int) := by rw [hnq]; exact HN.out
      have HNE := Lib.hid hne
      clear hst hlt hnq hne
      by_cases h6n : (n : Int) < 6
      · have e0 : Hid (nsegs b s i = 0) := by have := HNE.out; rw [if_pos h6n] at this; exact this
        go_wp2
        go_ret
        exact ⟨by rw [e0.out]; rfl, HB.out⟩
      · have e0 : Hid (nsegs b s i = (n : Int)) := by have := HNE.out; rw [if_neg h6n] at this; exact this
        go_wp2
        go_ret
        exact ⟨by rw [e0.out]; rfl, HB.out⟩
set_option maxHeartbeats 600000 in
theorem refSegs_out (b s i : Int) (w : World) (h : ¬ InBounds b s i) :
    Calls Tryd.prog 7 #[.agg #[.int .i64 b, .int .i64 s, .int .i64 i]] w fun e w' => e = .returned (.int .i64 0) ∧ Below w.heap.size w w' := by
  have HB := Lib.hid (sup_below w (.cells #[.int .i64 b, .int .i64 s, .int .i64 i] 26))
  have key : b < 64 ∨ (64 ≤ b ∧ 4096 < b) ∨ (64 ≤ b ∧ b ≤ 4096 ∧ s < 8) ∨ (64 ≤ b ∧ b ≤ 4096 ∧ 8 ≤ s ∧ 64 < s) ∨ (64 ≤ b ∧ b ≤ 4096 ∧ 8 ≤ s ∧ s ≤ 64 ∧ i < 4) ∨ (64 ≤ b ∧ b ≤ 4096 ∧ 8 ≤ s ∧ s ≤ 64 ∧ 4 ≤ i ∧ 200 < i) := by
    unfold InBounds at h
    omega
  clear h
  rcases key with h1 | ⟨h1, h2⟩ | ⟨h1, h2, h3⟩ | ⟨h1, h2, h3, h4⟩ | ⟨h1, h2, h3, h4, h5⟩ | ⟨h1, h2, h3, h4, h5, h6⟩
  all_goals
    go_enter Tryd.func7, Tryd.ntmps7
    go_wp2
    go_ret
    exact ⟨rfl, HB.out⟩
theorem refSegs_any (b s i : Int) (w : World) :
    Calls Tryd.prog 7 #[.agg #[.int .i64 b, .int .i64 s, .int .i64 i]] w fun e w' => e = .returned (.int .i64 (nsegs b s i)) ∧ Below w.heap.size w w' := by
  by_cases h : InBounds b s i
  · exact refSegs_in b s i w h
  · have : nsegs b s i = 0 := nsegs_bad fun e => h ((good_iff b s i).1 e).1
    rw [this]
    exact refSegs_out b s i w h

end Go.Proofs.YtdfppilancimhaaDoor
