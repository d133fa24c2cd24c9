/-
  The walks of geometries, third part: what is left of a block's segment; the document's examples.
-/
import Derived.Test.YtdfppilancimhaaDoorGeomOf
namespace Go.Proofs.YtdfppilancimhaaDoor
open Go.RowKit

/-- A block is one of a segment's. -/
def InSeg (b s i addr : Int) : Prop := 3 ≤ addr ∧ addr < 3 + nsegs b s i * s
theorem InSeg.good {b s i addr : Int} (h : InSeg b s i addr) : Good b s i := by
  by_cases hg : Good b s i
  · exact hg
  · have := h.2
    rw [nsegs_bad hg, Int.zero_mul] at this
    have := h.1
    omega
theorem of_in (b s i addr : Int) (w : World) (h : InSeg b s i addr) :
    Calls Tryd.prog 14 #[.agg #[.int .i64 b, .int .i64 s, .int .i64 i], .int .i64 addr] w fun e w' => e = .returned (.tuple #[.int .i64 ((addr - 3) / s), .int .i64 ((addr - 3) % s), .int .i64 0]) ∧ Below w.heap.size w w' :=
  of_ok b s i addr w h.1 h.2
theorem of_out (b s i addr : Int) (w : World) (h : ¬ InSeg b s i addr) :
    Calls Tryd.prog 14 #[.agg #[.int .i64 b, .int .i64 s, .int .i64 i], .int .i64 addr] w fun e w' => e = .returned (.tuple #[.int .i64 0, .int .i64 0, .int .i64 22]) ∧ Below w.heap.size w w' := by
  by_cases h0 : addr < 3
  · exact of_low b s i addr w h0
  · exact of_over b s i addr w (by omega) (Int.not_lt.1 fun e => h ⟨by omega, e⟩)
set_option maxHeartbeats 400000 in
theorem left_in (b s i addr : Int) (w : World) (h : InSeg b s i addr) :
    Calls Tryd.prog 15 #[.agg #[.int .i64 b, .int .i64 s, .int .i64 i], .int .i64 addr] w fun e w' => e = .returned (.tuple #[.int .i64 (s - (addr - 3) % s), .int .i64 0]) ∧ Below w.heap.size w w' := by
  have HB := Lib.hid (sup_below w)
  have HI := Lib.hid h
  have hs : 8 ≤ s ∧ s ≤ 64 := ⟨h.good.2.2.1, h.good.2.2.2.1⟩
  have hq1 := Int.emod_nonneg (addr - 3) (show s ≠ 0 by omega)
  have hq2 := Int.emod_lt_of_pos (addr - 3) (show 0 < s by omega)
  have HC0 := Lib.hid (cells3_laid w b s i 23)
  clear h
  go_enter Tryd.func15, Tryd.ntmps15
  go_wp2_with fail
  refine (of_in b s i addr _ HI.out).mono ?_
  rintro e w1 ⟨rfl, hb1⟩
  have hb : Below w.heap.size w w1 := (HB.out _).trans (hb1.mono (by simp))
  have hc1 := (HC0.out.below hb1 (by simp)).2.1
  have HBB := Lib.hid hb
  clear hb hb1
  go_wp2
  go_ret2
  exact ⟨rfl, HBB.out⟩
set_option maxHeartbeats 400000 in
theorem left_out (b s i addr : Int) (w : World) (h : ¬ InSeg b s i addr) :
    Calls Tryd.prog 15 #[.agg #[.int .i64 b, .int .i64 s, .int .i64 i], .int .i64 addr] w fun e w' => e = .returned (.tuple #[.int .i64 0, .int .i64 22]) ∧ Below w.heap.size w w' := by
  have HB := Lib.hid (sup_below w)
  have HI := Lib.hid h
  clear h
  go_enter Tryd.func15, Tryd.ntmps15
  go_wp2_with fail
  refine (of_out b s i addr _ HI.out).mono ?_
  rintro e w1 ⟨rfl, hb1⟩
  have hb : Below w.heap.size w w1 := (HB.out _).trans (hb1.mono (by simp))
  have HBB := Lib.hid hb
  clear hb hb1
  go_wp2
  go_ret2
  exact ⟨rfl, HBB.out⟩
theorem good_ex : Good 100 16 20 := by unfold Good; omega
theorem nsegs_ex : nsegs 100 16 20 = 6 := by rw [nsegs_good good_ex]; rfl
set_option maxHeartbeats 1000000 in
theorem awake_any (w : World) : Calls Tryd.prog 6 #[] w fun e w' => e = .returned (.bool true) ∧ Below w.heap.size w w' := by
  have K1 := Lib.hid fun W => first_ok 100 16 20 1 W (by omega) (by rw [nsegs_ex]; omega)
  have K2 := Lib.hid fun W => of_in 100 16 20 20 W ⟨by omega, by rw [nsegs_ex]; omega⟩
  have K3 := Lib.hid fun W => left_in 100 16 20 34 W ⟨by omega, by rw [nsegs_ex]; omega⟩
  have K4 := Lib.hid fun W => of_out 100 16 20 99 W (fun h => by have := h.2; rw [nsegs_ex] at this; omega)
  have K5 := Lib.hid fun W => Segs_any 100 16 20 W
  go_enter Tryd.func6, Tryd.ntmps6
  go_wp2_with fail
  have HC0 : Hid (Cells3 (w.alloc (.cells #[.int .i64 100, .int .i64 16, .int .i64 20] 23)) w.heap.size 100 16 20) := cells3_laid w 100 16 20 _
  have HB0 : Hid (Below w.heap.size w (w.alloc (.cells #[.int .i64 100, .int .i64 16, .int .i64 20] 23))) := sup_below w _
  have hz0 : w.heap.size < (w.alloc (.cells #[.int .i64 100, .int .i64 16, .int .i64 20] 23)).heap.size := by simp
  generalize w.alloc (.cells #[.int .i64 100, .int .i64 16, .int .i64 20] 23) = w0 at HC0 HB0 hz0 ⊢
  refine (K1.out _).mono ?_
  rintro e w1 ⟨rfl, hb1⟩
  have HC1 := Lib.hid (HC0.out.below hb1 hz0)
  have HB1 : Hid (Below w.heap.size w w1) := HB0.out.trans (hb1.mono (Nat.le_of_lt hz0))
  have hz1 : w.heap.size < w1.heap.size := by have := hb1.size; omega
  have hc10 := HC1.out.1
  have hc11 := HC1.out.2.1
  have hc12 := HC1.out.2.2
  clear hb1
  go_wp2_with fail
  clear hc10 hc11 hc12
  refine (K2.out _).mono ?_
  rintro e w2 ⟨rfl, hb2⟩
  have HC2 := Lib.hid (HC1.out.below hb2 hz1)
  have HB2 : Hid (Below w.heap.size w w2) := HB1.out.trans (hb2.mono (Nat.le_of_lt hz1))
  have hz2 : w.heap.size < w2.heap.size := by have := hb2.size; omega
  have hc20 := HC2.out.1
  have hc21 := HC2.out.2.1
  have hc22 := HC2.out.2.2
  clear hb2
  go_wp2_with fail
  clear hc20 hc21 hc22
  refine (K3.out _).mono ?_
  rintro e w3 ⟨rfl, hb3⟩
  have HC3 := Lib.hid (HC2.out.below hb3 hz2)
  have HB3 : Hid (Below w.heap.size w w3) := HB2.out.trans (hb3.mono (Nat.le_of_lt hz2))
  have hz3 : w.heap.size < w3.heap.size := by have := hb3.size; omega
  have hc30 := HC3.out.1
  have hc31 := HC3.out.2.1
  have hc32 := HC3.out.2.2
  clear hb3
  go_wp2_with fail
  clear hc30 hc31 hc32
  refine (K4.out _).mono ?_
  rintro e w4 ⟨rfl, hb4⟩
  have HC4 := Lib.hid (HC3.out.below hb4 hz3)
  have HB4 : Hid (Below w.heap.size w w4) := HB3.out.trans (hb4.mono (Nat.le_of_lt hz3))
  have hz4 : w.heap.size < w4.heap.size := by have := hb4.size; omega
  have hc40 := HC4.out.1
  have hc41 := HC4.out.2.1
  have hc42 := HC4.out.2.2
  clear hb4
  rw [nsegs_ex] at K5
  go_wp2_with fail
  clear hc40 hc41 hc42
  refine (K5.out _).mono ?_
  rintro e w5 ⟨rfl, hb5⟩
  have HC5 := Lib.hid (HC4.out.below hb5 hz4)
  have HB5 : Hid (Below w.heap.size w w5) := HB4.out.trans (hb5.mono (Nat.le_of_lt hz4))
  have hz5 : w.heap.size < w5.heap.size := by have := hb5.size; omega
  have hc50 := HC5.out.1
  have hc51 := HC5.out.2.1
  have hc52 := HC5.out.2.2
  clear hb5
  go_wp2_with fail
  clear hc50 hc51 hc52
  go_ret
  exact ⟨rfl, HB5.out⟩
end Go.Proofs.YtdfppilancimhaaDoor
