/-
  The walks of geometries (stage 3), for a seat that holds summaries too.
-/
import Derived.Test.YtlkgaefabahkoaaDoorRows
import Derived.WalkKit
import Derived.WalkSpells
import Derived.WalkLawsBesides
import Derived.IntWalk
import Derived.Lib.Hide
import Derived.Below
import Derived.Deep.QuietTactic
import Derived.BigQuiet
import Derived.Deep.RegionHeld
import Derived.StillTailTactics
namespace Go.Proofs.YtlkgaefabahkoaaDoor
open Go.RowKit


/-- Are three numbers a geometry? -/
def GoodG (b s i : Int) : Prop := 64 ≤ b ∧ b ≤ 4096 ∧ 8 ≤ s ∧ s ≤ 64 ∧ 4 ≤ i ∧ i ≤ 200 ∧ 6 ≤ (b - 3) / s
abbrev sup (b s i : Int) : Value := .agg #[.int .i64 b, .int .i64 s, .int .i64 i]
theorem div_bd (b s : Int) (h1 : 64 ≤ b) (h2 : b ≤ 4096) (h3 : 8 ≤ s) : 0 ≤ (b - 3) / s ∧ (b - 3) / s ≤ 511 ∧ (b - 3) / s * s ≤ b - 3 := by
  have h4 := Int.ediv_nonneg (show 0 ≤ b - 3 by omega) (show 0 ≤ s by omega)
  have h5 := Int.ediv_mul_le (b - 3) (show s ≠ 0 by omega)
  refine ⟨h4, ?_, h5⟩
  have h6 : (b - 3) / s * 8 ≤ (b - 3) / s * s := Int.mul_le_mul_of_nonneg_left h3 h4
  omega
set_option maxHeartbeats 400000 in
theorem segs_any (b s i : Int) (w : World) (h1 : 64 ≤ b) (h2 : b ≤ 4096) (h3 : 8 ≤ s) (h4 : s ≤ 64) :
    Calls Tryd.prog 91 #[.agg #[.int .i64 b, .int .i64 s, .int .i64 i]] w fun e w' => e = .returned (.int .i64 ((b - 3) / s)) ∧ Below w.heap.size w w' := by
  have hs0 : (s == 0) = false := by simpa using (by omega : ¬ s = 0)
  go_enter Tryd.func91, Tryd.ntmps91
  go_wp2
  go_ret
  exact ⟨rfl, (Below.refl _ _).alloc (Nat.le_refl _) _⟩
set_option maxHeartbeats 400000 in
theorem check_good (b s i : Int) (w : World) (h : GoodG b s i) :
    Calls Tryd.prog 64 #[.agg #[.int .i64 b, .int .i64 s, .int .i64 i]] w fun e w' => e = .returned (.int .i64 0) ∧ Below w.heap.size w w' := by
  obtain ⟨h1, h2, h3, h4, h5, h6, h7⟩ := h
  have hq := div_bd b s h1 h2 h3
  go_enter Tryd.func64, Tryd.ntmps64
  go_wp2_with fail
  refine (segs_any b s i _ h1 h2 h3 h4).mono ?_
  rintro e w1 ⟨rfl, hb1⟩
  have hb : Below w.heap.size w w1 := ((Below.refl _ _).alloc (Nat.le_refl _) _).trans (hb1.mono (by simp))
  go_wp2
  go_ret
  exact ⟨rfl, hb⟩
set_option maxHeartbeats 400000 in
theorem check_bad (b s i : Int) (w : World) (h : ¬ GoodG b s i) :
    Calls Tryd.prog 64 #[.agg #[.int .i64 b, .int .i64 s, .int .i64 i]] w fun e w' => e = .returned (.int .i64 22) ∧ Below w.heap.size w w' := by
  have hb0 : ∀ o, Below w.heap.size w (w.alloc o) := fun o => (Below.refl _ _).alloc (Nat.le_refl _) _
  have HB := Lib.hid hb0
  clear hb0
  by_cases h1 : 64 ≤ b
  · by_cases h2 : b ≤ 4096
    · by_cases h3 : 8 ≤ s
      · by_cases h4 : s ≤ 64
        · by_cases h5 : 4 ≤ i
          · by_cases h6 : i ≤ 200
            · have h7 : (b - 3) / s < 6 := by
                apply Int.not_le.1
                intro e
                exact h ⟨h1, h2, h3, h4, h5, h6, e⟩
              have hq := div_bd b s h1 h2 h3
              clear h
              go_enter Tryd.func64, Tryd.ntmps64
              go_wp2_with fail
              refine (segs_any b s i _ h1 h2 h3 h4).mono ?_
              rintro e w1 ⟨rfl, hb1⟩
              have hb : Below w.heap.size w w1 := (HB.out _).trans (hb1.mono (by simp))
              go_wp2
              go_ret
              exact ⟨rfl, hb⟩
            · clear h
              go_enter Tryd.func64, Tryd.ntmps64
              go_wp2
              go_ret
              exact ⟨rfl, HB.out _⟩
          · clear h
            go_enter Tryd.func64, Tryd.ntmps64
            go_wp2
            go_ret
            exact ⟨rfl, HB.out _⟩
        · clear h
          go_enter Tryd.func64, Tryd.ntmps64
          go_wp2
          go_ret
          exact ⟨rfl, HB.out _⟩
      · clear h
        go_enter Tryd.func64, Tryd.ntmps64
        go_wp2
        go_ret
        exact ⟨rfl, HB.out _⟩
    · clear h
      go_enter Tryd.func64, Tryd.ntmps64
      go_wp2
      go_ret
      exact ⟨rfl, HB.out _⟩
  · clear h
    go_enter Tryd.func64, Tryd.ntmps64
    go_wp2
    go_ret
    exact ⟨rfl, HB.out _⟩
open Classical in
/-- How many segments. -/
noncomputable def nsegs (b s i : Int) : Int := if GoodG b s i then (b - 3) / s else 0
theorem nsegs_good {b s i : Int} (h : GoodG b s i) : nsegs b s i = (b - 3) / s := if_pos h
theorem nsegs_bad {b s i : Int} (h : ¬ GoodG b s i) : nsegs b s i = 0 := if_neg h
theorem nsegs_bd (b s i : Int) : 0 ≤ nsegs b s i ∧ nsegs b s i ≤ 511 := by
  by_cases h : GoodG b s i
  · rw [nsegs_good h]
    have := div_bd b s h.1 h.2.1 h.2.2.1
    omega
  · rw [nsegs_bad h]; omega
set_option maxHeartbeats 400000 in
theorem Segs_any (b s i : Int) (w : World) :
    Calls Tryd.prog 63 #[.agg #[.int .i64 b, .int .i64 s, .int .i64 i]] w fun e w' => e = .returned (.int .i64 (nsegs b s i)) ∧ Below w.heap.size w w' := by
  have HB : Hid (∀ o, Below w.heap.size w (w.alloc o)) := fun o => (Below.refl _ _).alloc (Nat.le_refl _) _
  by_cases h : GoodG b s i
  · rw [nsegs_good h]
    have H := Lib.hid h
    clear h
    go_enter Tryd.func63, Tryd.ntmps63
    go_wp2_with fail
    refine (check_good b s i _ H.out).mono ?_
    rintro e w1 ⟨rfl, hb1⟩
    have hb : Below w.heap.size w w1 := (HB.out _).trans (hb1.mono (by simp))
    have hc0 : w1.cell? ⟨w.heap.size, 0, none⟩ = some (.int .i64 b) := by rw [hb1.cell (by simp)]; simp
    have hc1 : w1.cell? ⟨w.heap.size, 1, none⟩ = some (.int .i64 s) := by rw [hb1.cell (by simp)]; simp
    have hc2 : w1.cell? ⟨w.heap.size, 2, none⟩ = some (.int .i64 i) := by rw [hb1.cell (by simp)]; simp
    have HBB := Lib.hid hb
    clear hb hb1
    go_wp2_with fail
    refine (segs_any b s i _ H.out.1 H.out.2.1 H.out.2.2.1 H.out.2.2.2.1).mono ?_
    rintro e w2 ⟨rfl, hb2⟩
    have hb3 : Below w.heap.size w w2 := HBB.out.trans (hb2.mono HBB.out.size)
    go_wp2
    go_ret
    exact ⟨rfl, hb3⟩
  · rw [nsegs_bad h]
    have H := Lib.hid h
    clear h
    go_enter Tryd.func63, Tryd.ntmps63
    go_wp2_with fail
    refine (check_bad b s i _ H.out).mono ?_
    rintro e w1 ⟨rfl, hb1⟩
    have hb : Below w.heap.size w w1 := (HB.out _).trans (hb1.mono (by simp))
    go_wp2
    go_ret
    exact ⟨rfl, hb⟩


theorem mul_bd (seg s : Int) (h0 : 0 ≤ seg) (h1 : seg ≤ 511) (h3 : 0 ≤ s) (h4 : s ≤ 64) : 0 ≤ seg * s ∧ seg * s ≤ 32704 := by
  refine ⟨Int.mul_nonneg h0 h3, ?_⟩
  have := Int.mul_le_mul h1 h4 h3 (by omega)
  omega
/-- The three cells of a geometry that was laid. -/
def Cells3 (w : World) (g : Nat) (b s i : Int) : Prop := w.cell? ⟨g, 0, none⟩ = some (.int .i64 b) ∧ w.cell? ⟨g, 1, none⟩ = some (.int .i64 s) ∧ w.cell? ⟨g, 2, none⟩ = some (.int .i64 i)
theorem Cells3.below {w w' : World} {g B : Nat} {b s i : Int} (h : Cells3 w g b s i) (hb : Below B w w') (hg : g < B) : Cells3 w' g b s i :=
  ⟨(hb.cell (p := ⟨g, 0, none⟩) hg).trans h.1, (hb.cell (p := ⟨g, 1, none⟩) hg).trans h.2.1, (hb.cell (p := ⟨g, 2, none⟩) hg).trans h.2.2⟩
theorem Cells3.drew {w : World} {g : Nat} {b s i : Int} (h : Cells3 w g b s i) : Cells3 w.drew g b s i := h
theorem cells3_laid (w : World) (b s i : Int) (t : TypeId) : Cells3 (w.alloc (.cells #[.int .i64 b, .int .i64 s, .int .i64 i] t)) w.heap.size b s i := ⟨by simp, by simp, by simp⟩
theorem sup_belowG (w : World) (o : Obj) : Below w.heap.size w (w.alloc o) := (Below.refl _ _).alloc (Nat.le_refl _) _
set_option maxHeartbeats 400000 in
theorem first_neg (b s i seg : Int) (w : World) (h : seg < 0) :
    Calls Tryd.prog 30 #[.agg #[.int .i64 b, .int .i64 s, .int .i64 i], .int .i64 seg] w fun e w' => e = .returned (.tuple #[.int .i64 0, .int .i64 22]) ∧ Below w.heap.size w w' := by
  have HB := Lib.hid (sup_belowG w)
  go_enter Tryd.func30, Tryd.ntmps30
  go_wp2
  go_ret2
  exact ⟨rfl, HB.out _⟩
set_option maxHeartbeats 400000 in
theorem first_over (b s i seg : Int) (w : World) (h0 : 0 ≤ seg) (h : nsegs b s i ≤ seg) :
    Calls Tryd.prog 30 #[.agg #[.int .i64 b, .int .i64 s, .int .i64 i], .int .i64 seg] w fun e w' => e = .returned (.tuple #[.int .i64 0, .int .i64 22]) ∧ Below w.heap.size w w' := by
  have HB := Lib.hid (sup_belowG w)
  go_enter Tryd.func30, Tryd.ntmps30
  go_wp2_with fail
  refine (Segs_any b s i _).mono ?_
  rintro e w1 ⟨rfl, hb1⟩
  have hb : Below w.heap.size w w1 := (HB.out _).trans (hb1.mono (by simp))
  generalize nsegs b s i = n at h ⊢
  go_wp2
  go_ret2
  exact ⟨rfl, hb⟩
set_option maxHeartbeats 400000 in
theorem first_ok (b s i seg : Int) (w : World) (h0 : 0 ≤ seg) (h : seg < nsegs b s i) :
    Calls Tryd.prog 30 #[.agg #[.int .i64 b, .int .i64 s, .int .i64 i], .int .i64 seg] w fun e w' => e = .returned (.tuple #[.int .i64 (3 + seg * s), .int .i64 0]) ∧ Below w.heap.size w w' := by
  have HB := Lib.hid (sup_belowG w)
  have hG : GoodG b s i := by
    by_cases hg : GoodG b s i
    · exact hg
    · rw [nsegs_bad hg] at h; omega
  have hn := nsegs_bd b s i
  have hm := mul_bd seg s h0 (by omega) (by have := hG.2.2.1; omega) hG.2.2.2.1
  clear hG
  go_enter Tryd.func30, Tryd.ntmps30
  go_wp2_with fail
  refine (Segs_any b s i _).mono ?_
  rintro e w1 ⟨rfl, hb1⟩
  have hb : Below w.heap.size w w1 := (HB.out _).trans (hb1.mono (by simp))
  have hc1 : w1.cell? ⟨w.heap.size, 1, none⟩ = some (.int .i64 s) := by rw [hb1.cell (by simp)]; simp
  generalize nsegs b s i = n at h hn ⊢
  have HBB := Lib.hid hb
  clear hb hb1
  go_wp2
  go_ret2
  exact ⟨rfl, HBB.out⟩
set_option maxHeartbeats 400000 in
theorem of_low (b s i addr : Int) (w : World) (h : addr < 3) :
    Calls Tryd.prog 29 #[.agg #[.int .i64 b, .int .i64 s, .int .i64 i], .int .i64 addr] w fun e w' => e = .returned (.tuple #[.int .i64 0, .int .i64 0, .int .i64 22]) ∧ Below w.heap.size w w' := by
  have HB := Lib.hid (sup_belowG w)
  go_enter Tryd.func29, Tryd.ntmps29
  go_wp2_with fail
  go_quiet (fail)
  go_wp2
  go_ret3
  exact ⟨rfl, below_drewN (HB.out _) _⟩
set_option maxHeartbeats 800000 in
theorem of_over (b s i addr : Int) (w : World) (h0 : 3 ≤ addr) (h : 3 + nsegs b s i * s ≤ addr) :
    Calls Tryd.prog 29 #[.agg #[.int .i64 b, .int .i64 s, .int .i64 i], .int .i64 addr] w fun e w' => e = .returned (.tuple #[.int .i64 0, .int .i64 0, .int .i64 22]) ∧ Below w.heap.size w w' := by
  have HB := Lib.hid (sup_belowG w)
  have hm : 0 ≤ nsegs b s i * s ∧ nsegs b s i * s ≤ 32704 := by
    by_cases hg : GoodG b s i
    · have hn := nsegs_bd b s i
      exact mul_bd _ s hn.1 hn.2 (by have := hg.2.2.1; omega) hg.2.2.2.1
    · rw [nsegs_bad hg, Int.zero_mul]; omega
  go_enter Tryd.func29, Tryd.ntmps29
  go_wp2_with fail
  have hd : decide (addr < 3) = false := by simpa using h0
  have HC0 := Lib.hid (cells3_laid w b s i 70)
  have HBn := Lib.hid fun W => Segs_any b s i W
  generalize nsegs b s i = n at h hm HBn
  have e1 : IntKind.i64.wrap (n * s) = n * s := IntWalk.i64_in _ (by omega)
  have e2 : IntKind.i64.wrap (3 + n * s) = 3 + n * s := IntWalk.i64_in _ (by omega)
  go_region_held (fun W => W.cell? ⟨w.heap.size, 0, none⟩ = some (.int .i64 b) ∧ W.cell? ⟨w.heap.size, 1, none⟩ = some (.int .i64 s) ∧ W.cell? ⟨w.heap.size, 2, none⟩ = some (.int .i64 i))
    (first | exact HC1.out | exact HC0.out)
    (first | (go_at_call 63; refine (HBn.out _).mono ?_; rintro e w1 ⟨rfl, hb1⟩; have HC1 : Hid (Cells3 w1 w.heap.size b s i) := HC0.out.drew.below hb1 (by simp); have HB1 : Hid (Below w.heap.size w w1) := ((HB.out _).drew).trans (hb1.mono (by simp)); clear hb1))
  go_wp2
  go_ret3
  exact ⟨rfl, HB1.out⟩
set_option maxHeartbeats 800000 in
theorem of_ok (b s i addr : Int) (w : World) (h0 : 3 ≤ addr) (h : addr < 3 + nsegs b s i * s) :
    Calls Tryd.prog 29 #[.agg #[.int .i64 b, .int .i64 s, .int .i64 i], .int .i64 addr] w fun e w' => e = .returned (.tuple #[.int .i64 ((addr - 3) / s), .int .i64 ((addr - 3) % s), .int .i64 0]) ∧ Below w.heap.size w w' := by
  have HB := Lib.hid (sup_belowG w)
  have hm : 0 ≤ nsegs b s i * s ∧ nsegs b s i * s ≤ 32704 := by
    by_cases hg : GoodG b s i
    · have hn := nsegs_bd b s i
      exact mul_bd _ s hn.1 hn.2 (by have := hg.2.2.1; omega) hg.2.2.2.1
    · rw [nsegs_bad hg, Int.zero_mul]; omega
  have hs : 8 ≤ s ∧ s ≤ 64 := by
    by_cases hg : GoodG b s i
    · exact ⟨hg.2.2.1, hg.2.2.2.1⟩
    · rw [nsegs_bad hg, Int.zero_mul] at h; omega
  have hs0 : (s == 0) = false := by simpa using (by omega : ¬ s = 0)
  have hq1 := Int.emod_nonneg (addr - 3) (show s ≠ 0 by omega)
  have hq2 := Int.emod_lt_of_pos (addr - 3) (show 0 < s by omega)
  have hq3 := Int.ediv_nonneg (show 0 ≤ addr - 3 by omega) (show 0 ≤ s by omega)
  have hq4 : (addr - 3) / s ≤ addr - 3 := Int.ediv_le_self s (by omega)
  go_enter Tryd.func29, Tryd.ntmps29
  go_wp2_with fail
  have hd : decide (addr < 3) = false := by simpa using h0
  have HC0 := Lib.hid (cells3_laid w b s i 70)
  have HBn := Lib.hid fun W => Segs_any b s i W
  generalize nsegs b s i = n at h hm HBn
  have e1 : IntKind.i64.wrap (n * s) = n * s := IntWalk.i64_in _ (by omega)
  have e2 : IntKind.i64.wrap (3 + n * s) = 3 + n * s := IntWalk.i64_in _ (by omega)
  go_region_held (fun W => W.cell? ⟨w.heap.size, 0, none⟩ = some (.int .i64 b) ∧ W.cell? ⟨w.heap.size, 1, none⟩ = some (.int .i64 s) ∧ W.cell? ⟨w.heap.size, 2, none⟩ = some (.int .i64 i))
    (first | exact HC1.out | exact HC0.out)
    (first | (go_at_call 63; refine (HBn.out _).mono ?_; rintro e w1 ⟨rfl, hb1⟩; have HC1 : Hid (Cells3 w1 w.heap.size b s i) := HC0.out.drew.below hb1 (by simp); have HB1 : Hid (Below w.heap.size w w1) := ((HB.out _).drew).trans (hb1.mono (by simp)); clear hb1))
  have hc1 := HC1.out.2.1
  go_wp2_with fail
  go_quiet (fail)
  go_wp2
  go_ret3
  exact ⟨rfl, below_drewN HB1.out _⟩


/-- A block is one of a segment's. -/
def InSeg (b s i addr : Int) : Prop := 3 ≤ addr ∧ addr < 3 + nsegs b s i * s
theorem InSeg.good {b s i addr : Int} (h : InSeg b s i addr) : GoodG b s i := by
  by_cases hg : GoodG b s i
  · exact hg
  · have := h.2
    rw [nsegs_bad hg, Int.zero_mul] at this
    have := h.1
    omega
theorem of_in (b s i addr : Int) (w : World) (h : InSeg b s i addr) :
    Calls Tryd.prog 29 #[.agg #[.int .i64 b, .int .i64 s, .int .i64 i], .int .i64 addr] w fun e w' => e = .returned (.tuple #[.int .i64 ((addr - 3) / s), .int .i64 ((addr - 3) % s), .int .i64 0]) ∧ Below w.heap.size w w' :=
  of_ok b s i addr w h.1 h.2
theorem of_out (b s i addr : Int) (w : World) (h : ¬ InSeg b s i addr) :
    Calls Tryd.prog 29 #[.agg #[.int .i64 b, .int .i64 s, .int .i64 i], .int .i64 addr] w fun e w' => e = .returned (.tuple #[.int .i64 0, .int .i64 0, .int .i64 22]) ∧ Below w.heap.size w w' := by
  by_cases h0 : addr < 3
  · exact of_low b s i addr w h0
  · exact of_over b s i addr w (by omega) (Int.not_lt.1 fun e => h ⟨by omega, e⟩)
set_option maxHeartbeats 400000 in
theorem left_in (b s i addr : Int) (w : World) (h : InSeg b s i addr) :
    Calls Tryd.prog 28 #[.agg #[.int .i64 b, .int .i64 s, .int .i64 i], .int .i64 addr] w fun e w' => e = .returned (.tuple #[.int .i64 (s - (addr - 3) % s), .int .i64 0]) ∧ Below w.heap.size w w' := by
  have HB := Lib.hid (sup_belowG w)
  have HI := Lib.hid h
  have hs : 8 ≤ s ∧ s ≤ 64 := ⟨h.good.2.2.1, h.good.2.2.2.1⟩
  have hq1 := Int.emod_nonneg (addr - 3) (show s ≠ 0 by omega)
  have hq2 := Int.emod_lt_of_pos (addr - 3) (show 0 < s by omega)
  have HC0 := Lib.hid (cells3_laid w b s i 70)
  clear h
  go_enter Tryd.func28, Tryd.ntmps28
  go_wp2_with fail
  refine (of_in b s i addr _ HI.out).mono ?_
  rintro e w1 ⟨rfl, hb1⟩
  have hb : Below w.heap.size w w1 := (HB.out _).trans (hb1.mono (by simp))
  have hc1 := (HC0.out.below hb1 (by simp)).2.1
  have HBB := Lib.hid hb
  clear hb hb1
  go_wp2
  go_ret2
  exact ⟨rfl, HBB.out⟩
set_option maxHeartbeats 400000 in
theorem left_out (b s i addr : Int) (w : World) (h : ¬ InSeg b s i addr) :
    Calls Tryd.prog 28 #[.agg #[.int .i64 b, .int .i64 s, .int .i64 i], .int .i64 addr] w fun e w' => e = .returned (.tuple #[.int .i64 0, .int .i64 22]) ∧ Below w.heap.size w w' := by
  have HB := Lib.hid (sup_belowG w)
  have HI := Lib.hid h
  clear h
  go_enter Tryd.func28, Tryd.ntmps28
  go_wp2_with fail
  refine (of_out b s i addr _ HI.out).mono ?_
  rintro e w1 ⟨rfl, hb1⟩
  have hb : Below w.heap.size w w1 := (HB.out _).trans (hb1.mono (by simp))
  have HBB := Lib.hid hb
  clear hb hb1
  go_wp2
  go_ret2
  exact ⟨rfl, HBB.out⟩
end Go.Proofs.YtlkgaefabahkoaaDoor
