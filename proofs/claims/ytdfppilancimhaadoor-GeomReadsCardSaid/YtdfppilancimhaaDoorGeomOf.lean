/-
  The walks of geometries, second part: a segment's first block; a block's segment and place; what is left of it.
-/
import Derived.Test.YtdfppilancimhaaDoorGeomWalks
namespace Go.Proofs.YtdfppilancimhaaDoor
open Go.RowKit

theorem mul_bd (seg s : Int) (h0 : 0 ≤ seg) (h1 : seg ≤ 511) (h3 : 0 ≤ s) (h4 : s ≤ 64) : 0 ≤ seg * s ∧ seg * s ≤ 32704 := by
  refine ⟨Int.mul_nonneg h0 h3, ?_⟩
  have := Int.mul_le_mul h1 h4 h3 (by omega)
  omega
/-- The three cells of a geometry that was laid. -/
def Cells3 (w : World) (g : Nat) (b s i : Int) : Prop := w.cell? ⟨g, 0, none⟩ = some (.int .i64 b) ∧ w.cell? ⟨g, 1, none⟩ = some (.int .i64 s) ∧ w.cell? ⟨g, 2, none⟩ = some (.int .i64 i)
theorem Cells3.below {w w' : World} {g B : Nat} {b s i : Int} (h : Cells3 w g b s i) (hb : Below B w w') (hg : g < B) : Cells3 w' g b s i :=
  ⟨(hb.cell (p := ⟨g, 0, none⟩) hg).trans h.1, (hb.cell (p := ⟨g, 1, none⟩) hg).trans h.2.1, (hb.cell (p := ⟨g, 2, none⟩) hg).trans h.2.2⟩
theorem Cells3.drew {w : World} {g : Nat} {b s i : Int} (h : Cells3 w g b s i) : Cells3 w.drew g b s i := h
theorem cells3_laid (w : World) (b s i : Int) (t : TypeId) : Cells3 (w.alloc (.cells #[.int .i64 b, .int .i64 s, .int .i64 i] t)) w.heap.size b s i := ⟨by simp, by simp, by simp⟩
theorem sup_below (w : World) (o : Obj) : Below w.heap.size w (w.alloc o) := (Below.refl _ _).alloc (Nat.le_refl _) _
set_option maxHeartbeats 400000 in
theorem first_neg (b s i seg : Int) (w : World) (h : seg < 0) :
    Calls Tryd.prog 13 #[.agg #[.int .i64 b, .int .i64 s, .int .i64 i], .int .i64 seg] w fun e w' => e = .returned (.tuple #[.int .i64 0, .int .i64 22]) ∧ Below w.heap.size w w' := by
  have HB := Lib.hid (sup_below w)
  go_enter Tryd.func13, Tryd.ntmps13
  go_wp2
  go_ret2
  exact ⟨rfl, HB.out _⟩
set_option maxHeartbeats 400000 in
theorem first_over (b s i seg : Int) (w : World) (h0 : 0 ≤ seg) (h : nsegs b s i ≤ seg) :
    Calls Tryd.prog 13 #[.agg #[.int .i64 b, .int .i64 s, .int .i64 i], .int .i64 seg] w fun e w' => e = .returned (.tuple #[.int .i64 0, .int .i64 22]) ∧ Below w.heap.size w w' := by
  have HB := Lib.hid (sup_below w)
  go_enter Tryd.func13, Tryd.ntmps13
  go_wp2_with fail
  refine (Segs_any b s i _).mono ?_
  rintro e w1 ⟨rfl, hb1⟩
  have hb : Below w.heap.size w w1 := (HB.out _).trans (hb1.mono (by simp))
  generalize nsegs b s i = n at h ⊢
  go_wp2
  go_ret2
  exact ⟨rfl, hb⟩
set_option maxHeartbeats 400000 in
theorem first_ok (b s i seg : Int) (w : World) (h0 : 0 ≤ seg) (h : seg < nsegs b s i) :
    Calls Tryd.prog 13 #[.agg #[.int .i64 b, .int .i64 s, .int .i64 i], .int .i64 seg] w fun e w' => e = .returned (.tuple #[.int .i64 (3 + seg * s), .int .i64 0]) ∧ Below w.heap.size w w' := by
  have HB := Lib.hid (sup_below w)
  have hG : Good b s i := by
    by_cases hg : Good b s i
    · exact hg
    · rw [nsegs_bad hg] at h; omega
  have hn := nsegs_bd b s i
  have hm := mul_bd seg s h0 (by omega) (by have := hG.2.2.1; omega) hG.2.2.2.1
  clear hG
  go_enter Tryd.func13, Tryd.ntmps13
  go_wp2_with fail
  refine (Segs_any b s i _).mono ?_
  rintro e w1 ⟨rfl, hb1⟩
  have hb : Below w.heap.size w w1 := (HB.out _).trans (hb1.mono (by simp))
  have hc1 : w1.cell? ⟨w.heap.size, 1, none⟩ = some (.int .i64 s) := by rw [hb1.cell (by simp)]; simp
  generalize nsegs b s i = n at h hn ⊢
  have HBB := Lib.hid hb
  clear hb hb1
  go_wp2
  go_ret2
  exact ⟨rfl, HBB.out⟩
set_option maxHeartbeats 400000 in
theorem of_low (b s i addr : Int) (w : World) (h : addr < 3) :
    Calls Tryd.prog 14 #[.agg #[.int .i64 b, .int .i64 s, .int .i64 i], .int .i64 addr] w fun e w' => e = .returned (.tuple #[.int .i64 0, .int .i64 0, .int .i64 22]) ∧ Below w.heap.size w w' := by
  have HB := Lib.hid (sup_below w)
  go_enter Tryd.func14, Tryd.ntmps14
  go_wp2_with fail
  go_quiet (fail)
  go_wp2
  go_ret3
  exact ⟨rfl, below_drewN (HB.out _) _⟩
set_option maxHeartbeats 800000 in
theorem of_over (b s i addr : Int) (w : World) (h0 : 3 ≤ addr) (h : 3 + nsegs b s i * s ≤ addr) :
    Calls Tryd.prog 14 #[.agg #[.int .i64 b, .int .i64 s, .int .i64 i], .int .i64 addr] w fun e w' => e = .returned (.tuple #[.int .i64 0, .int .i64 0, .int .i64 22]) ∧ Below w.heap.size w w' := by
  have HB := Lib.hid (sup_below w)
  have hm : 0 ≤ nsegs b s i * s ∧ nsegs b s i * s ≤ 32704 := by
    by_cases hg : Good b s i
    · have hn := nsegs_bd b s i
      exact mul_bd _ s hn.1 hn.2 (by have := hg.2.2.1; omega) hg.2.2.2.1
    · rw [nsegs_bad hg, Int.zero_mul]; omega
  go_enter Tryd.func14, Tryd.ntmps14
  go_wp2_with fail
  have hd : decide (addr < 3) = false := by simpa using h0
  have HC0 := Lib.hid (cells3_laid w b s i 23)
  have HBn := Lib.hid fun W => Segs_any b s i W
  generalize nsegs b s i = n at h hm HBn
  have e1 : IntKind.i64.wrap (n * s) = n * s := IntWalk.i64_in _ (by omega)
  have e2 : IntKind.i64.wrap (3 + n * s) = 3 + n * s := IntWalk.i64_in _ (by omega)
  go_region_held (fun W => W.cell? ⟨w.heap.size, 0, none⟩ = some (.int .i64 b) ∧ W.cell? ⟨w.heap.size, 1, none⟩ = some (.int .i64 s) ∧ W.cell? ⟨w.heap.size, 2, none⟩ = some (.int .i64 i))
    (first | exact HC1.out | exact HC0.out)
    (first | (go_at_call 10; refine (HBn.out _).mono ?_; rintro e w1 ⟨rfl, hb1⟩; have HC1 : Hid (Cells3 w1 w.heap.size b s i) := HC0.out.drew.below hb1 (by simp); have HB1 : Hid (Below w.heap.size w w1) := ((HB.out _).drew).trans (hb1.mono (by simp)); clear hb1))
  go_wp2
  go_ret3
  exact ⟨rfl, HB1.out⟩
set_option maxHeartbeats 800000 in
theorem of_ok (b s i addr : Int) (w : World) (h0 : 3 ≤ addr) (h : addr < 3 + nsegs b s i * s) :
    Calls Tryd.prog 14 #[.agg #[.int .i64 b, .int .i64 s, .int .i64 i], .int .i64 addr] w fun e w' => e = .returned (.tuple #[.int .i64 ((addr - 3) / s), .int .i64 ((addr - 3) % s), .int .i64 0]) ∧ Below w.heap.size w w' := by
  have HB := Lib.hid (sup_below w)
  have hm : 0 ≤ nsegs b s i * s ∧ nsegs b s i * s ≤ 32704 := by
    by_cases hg : Good b s i
    · have hn := nsegs_bd b s i
      exact mul_bd _ s hn.1 hn.2 (by have := hg.2.2.1; omega) hg.2.2.2.1
    · rw [nsegs_bad hg, Int.zero_mul]; omega
  have hs : 8 ≤ s ∧ s ≤ 64 := by
    by_cases hg : Good b s i
    · exact ⟨hg.2.2.1, hg.2.2.2.1⟩
    · rw [nsegs_bad hg, Int.zero_mul] at h; omega
  have hs0 : (s == 0) = false := by simpa using (by omega : ¬ s = 0)
  have hq1 := Int.emod_nonneg (addr - 3) (show s ≠ 0 by omega)
  have hq2 := Int.emod_lt_of_pos (addr - 3) (show 0 < s by omega)
  have hq3 := Int.ediv_nonneg (show 0 ≤ addr - 3 by omega) (show 0 ≤ s by omega)
  have hq4 : (addr - 3) / s ≤ addr - 3 := Int.ediv_le_self s (by omega)
  go_enter Tryd.func14, Tryd.ntmps14
  go_wp2_with fail
  have hd : decide (addr < 3) = false := by simpa using h0
  have HC0 := Lib.hid (cells3_laid w b s i 23)
  have HBn := Lib.hid fun W => Segs_any b s i W
  generalize nsegs b s i = n at h hm HBn
  have e1 : IntKind.i64.wrap (n * s) = n * s := IntWalk.i64_in _ (by omega)
  have e2 : IntKind.i64.wrap (3 + n * s) = 3 + n * s := IntWalk.i64_in _ (by omega)
  go_region_held (fun W => W.cell? ⟨w.heap.size, 0, none⟩ = some (.int .i64 b) ∧ W.cell? ⟨w.heap.size, 1, none⟩ = some (.int .i64 s) ∧ W.cell? ⟨w.heap.size, 2, none⟩ = some (.int .i64 i))
    (first | exact HC1.out | exact HC0.out)
    (first | (go_at_call 10; refine (HBn.out _).mono ?_; rintro e w1 ⟨rfl, hb1⟩; have HC1 : Hid (Cells3 w1 w.heap.size b s i) := HC0.out.drew.below hb1 (by simp); have HB1 : Hid (Below w.heap.size w w1) := ((HB.out _).drew).trans (hb1.mono (by simp)); clear hb1))
  have hc1 := HC1.out.2.1
  go_wp2_with fail
  go_quiet (fail)
  go_wp2
  go_ret3
  exact ⟨rfl, below_drewN HB1.out _⟩
end Go.Proofs.YtdfppilancimhaaDoor
