/-
  The walks of geometries: the check, how many segments, where each begins, where a block is.
-/
import Derived.Test.YtdfppilancimhaaDoorRows
import Derived.WalkKit
import Derived.WalkSpells
import Derived.WalkLawsBesides
import Derived.IntWalk
import Derived.Lib.Hide
import Derived.Below
import Derived.Deep.QuietTactic
import Derived.BigQuiet
import Derived.Deep.RegionHeld
import Derived.StillTailTactics
namespace Go.Proofs.YtdfppilancimhaaDoor
open Go.RowKit

/-- Are three numbers a geometry? -/
def Good (b s i : Int) : Prop := 64 ≤ b ∧ b ≤ 4096 ∧ 8 ≤ s ∧ s ≤ 64 ∧ 4 ≤ i ∧ i ≤ 200 ∧ 6 ≤ (b - 3) / s
abbrev sup (b s i : Int) : Value := .agg #[.int .i64 b, .int .i64 s, .int .i64 i]
theorem div_bd (b s : Int) (h1 : 64 ≤ b) (h2 : b ≤ 4096) (h3 : 8 ≤ s) : 0 ≤ (b - 3) / s ∧ (b - 3) / s ≤ 511 ∧ (b - 3) / s * s ≤ b - 3 := by
  have h4 := Int.ediv_nonneg (show 0 ≤ b - 3 by omega) (show 0 ≤ s by omega)
  have h5 := Int.ediv_mul_le (b - 3) (show s ≠ 0 by omega)
  refine ⟨h4, ?_, h5⟩
  have h6 : (b - 3) / s * 8 ≤ (b - 3) / s * s := Int.mul_le_mul_of_nonneg_left h3 h4
  omega
set_option maxHeartbeats 400000 in
theorem segs_any (b s i : Int) (w : World) (h1 : 64 ≤ b) (h2 : b ≤ 4096) (h3 : 8 ≤ s) (h4 : s ≤ 64) :
    Calls Tryd.prog 20 #[.agg #[.int .i64 b, .int .i64 s, .int .i64 i]] w fun e w' => e = .returned (.int .i64 ((b - 3) / s)) ∧ Below w.heap.size w w' := by
  have hs0 : (s == 0) = false := by simpa using (by omega : ¬ s = 0)
  go_enter Tryd.func20, Tryd.ntmps20
  go_wp2
  go_ret
  exact ⟨rfl, (Below.refl _ _).alloc (Nat.le_refl _) _⟩
set_option maxHeartbeats 400000 in
theorem check_good (b s i : Int) (w : World) (h : Good b s i) :
    Calls Tryd.prog 11 #[.agg #[.int .i64 b, .int .i64 s, .int .i64 i]] w fun e w' => e = .returned (.int .i64 0) ∧ Below w.heap.size w w' := by
  obtain ⟨h1, h2, h3, h4, h5, h6, h7⟩ := h
  have hq := div_bd b s h1 h2 h3
  go_enter Tryd.func11, Tryd.ntmps11
  go_wp2_with fail
  refine (segs_any b s i _ h1 h2 h3 h4).mono ?_
  rintro e w1 ⟨rfl, hb1⟩
  have hb : Below w.heap.size w w1 := ((Below.refl _ _).alloc (Nat.le_refl _) _).trans (hb1.mono (by simp))
  go_wp2
  go_ret
  exact ⟨rfl, hb⟩
set_option maxHeartbeats 400000 in
theorem check_bad (b s i : Int) (w : World) (h : ¬ Good b s i) :
    Calls Tryd.prog 11 #[.agg #[.int .i64 b, .int .i64 s, .int .i64 i]] w fun e w' => e = .returned (.int .i64 22) ∧ Below w.heap.size w w' := by
  have hb0 : ∀ o, Below w.heap.size w (w.alloc o) := fun o => (Below.refl _ _).alloc (Nat.le_refl _) _
  have HB := Lib.hid hb0
  clear hb0
  by_cases h1 : 64 ≤ b
  · by_cases h2 : b ≤ 4096
    · by_cases h3 : 8 ≤ s
      · by_cases h4 : s ≤ 64
        · by_cases h5 : 4 ≤ i
          · by_cases h6 : i ≤ 200
            · have h7 : (b - 3) / s < 6 := by
                apply Int.not_le.1
                intro e
                exact h ⟨h1, h2, h3, h4, h5, h6, e⟩
              have hq := div_bd b s h1 h2 h3
              clear h
              go_enter Tryd.func11, Tryd.ntmps11
              go_wp2_with fail
              refine (segs_any b s i _ h1 h2 h3 h4).mono ?_
              rintro e w1 ⟨rfl, hb1⟩
              have hb : Below w.heap.size w w1 := (HB.out _).trans (hb1.mono (by simp))
              go_wp2
              go_ret
              exact ⟨rfl, hb⟩
            · clear h
              go_enter Tryd.func11, Tryd.ntmps11
              go_wp2
              go_ret
              exact ⟨rfl, HB.out _⟩
          · clear h
            go_enter Tryd.func11, Tryd.ntmps11
            go_wp2
            go_ret
            exact ⟨rfl, HB.out _⟩
        · clear h
          go_enter Tryd.func11, Tryd.ntmps11
          go_wp2
          go_ret
          exact ⟨rfl, HB.out _⟩
      · clear h
        go_enter Tryd.func11, Tryd.ntmps11
        go_wp2
        go_ret
        exact ⟨rfl, HB.out _⟩
    · clear h
      go_enter Tryd.func11, Tryd.ntmps11
      go_wp2
      go_ret
      exact ⟨rfl, HB.out _⟩
  · clear h
    go_enter Tryd.func11, Tryd.ntmps11
    go_wp2
    go_ret
    exact ⟨rfl, HB.out _⟩
open Classical in
/-- How many segments. -/
noncomputable def nsegs (b s i : Int) : Int := if Good b s i then (b - 3) / s else 0
theorem nsegs_good {b s i : Int} (h : Good b s i) : nsegs b s i = (b - 3) / s := if_pos h
theorem nsegs_bad {b s i : Int} (h : ¬ Good b s i) : nsegs b s i = 0 := if_neg h
theorem nsegs_bd (b s i : Int) : 0 ≤ nsegs b s i ∧ nsegs b s i ≤ 511 := by
  by_cases h : Good b s i
  · rw [nsegs_good h]
    have := div_bd b s h.1 h.2.1 h.2.2.1
    omega
  · rw [nsegs_bad h]; omega
set_option maxHeartbeats 400000 in
theorem Segs_any (b s i : Int) (w : World) :
    Calls Tryd.prog 10 #[.agg #[.int .i64 b, .int .i64 s, .int .i64 i]] w fun e w' => e = .returned (.int .i64 (nsegs b s i)) ∧ Below w.heap.size w w' := by
  have HB : Hid (∀ o, Below w.heap.size w (w.alloc o)) := fun o => (Below.refl _ _).alloc (Nat.le_refl _) _
  by_cases h : Good b s i
  · rw [nsegs_good h]
    have H := Lib.hid h
    clear h
    go_enter Tryd.func10, Tryd.ntmps10
    go_wp2_with fail
    refine (check_good b s i _ H.out).mono ?_
    rintro e w1 ⟨rfl, hb1⟩
    have hb : Below w.heap.size w w1 := (HB.out _).trans (hb1.mono (by simp))
    have hc0 : w1.cell? ⟨w.heap.size, 0, none⟩ = some (.int .i64 b) := by rw [hb1.cell (by simp)]; simp
    have hc1 : w1.cell? ⟨w.heap.size, 1, none⟩ = some (.int .i64 s) := by rw [hb1.cell (by simp)]; simp
    have hc2 : w1.cell? ⟨w.heap.size, 2, none⟩ = some (.int .i64 i) := by rw [hb1.cell (by simp)]; simp
    have HBB := Lib.hid hb
    clear hb hb1
    go_wp2_with fail
    refine (segs_any b s i _ H.out.1 H.out.2.1 H.out.2.2.1 H.out.2.2.2.1).mono ?_
    rintro e w2 ⟨rfl, hb2⟩
    have hb3 : Below w.heap.size w w2 := HBB.out.trans (hb2.mono HBB.out.size)
    go_wp2
    go_ret
    exact ⟨rfl, hb3⟩
  · rw [nsegs_bad h]
    have H := Lib.hid h
    clear h
    go_enter Tryd.func10, Tryd.ntmps10
    go_wp2_with fail
    refine (check_bad b s i _ H.out).mono ?_
    rintro e w1 ⟨rfl, hb1⟩
    have hb : Below w.heap.size w w1 := (HB.out _).trans (hb1.mono (by simp))
    go_wp2
    go_ret
    exact ⟨rfl, hb⟩
end Go.Proofs.YtdfppilancimhaaDoor
