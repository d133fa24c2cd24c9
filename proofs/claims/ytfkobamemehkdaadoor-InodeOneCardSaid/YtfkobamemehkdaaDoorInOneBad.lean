/-
  The walk of InodeOne where one is none.
-/
import Derived.Test.YtfkobamemehkdaaDoorInAwake
import Derived.Test.YtfkobamemehkdaaDoorQuiet
namespace Go.Proofs.YtfkobamemehkdaaDoor
open Go.RowKit

def EncAny (w : World) (e : Ending) (w' : World) : Prop := ∃ a n c k, e = .returned (.tuple #[.slice a n c, .int .i64 k]) ∧ Below w.heap.size w w'
set_option maxRecDepth 100000 in
set_option maxHeartbeats 1000000 in
theorem one_bad1 (a b c d s a' b' c' d' s' : Int) (p0 p1 p2 p3 p4 p5 p6 p7 p8 r0 r1 r2 r3 r4 r5 r6 r7 r8 : Nat) (w : World) (ht : Tab w) (hz : 0 < w.heap.size) (h : ¬ GoodI a b c d s)
    (HE2 : ∀ W, Tab W → 0 < W.heap.size → Calls Tryd.prog 11 #[.agg (ino a' b' c' d' s' r0 r1 r2 r3 r4 r5 r6 r7 r8)] W (EncAny W)) :
    Calls Tryd.prog 8 #[.agg (ino a b c d s p0 p1 p2 p3 p4 p5 p6 p7 p8), .agg (ino a' b' c' d' s' r0 r1 r2 r3 r4 r5 r6 r7 r8)] w fun e w' => e = .returned (.bool true) ∧ Below w.heap.size w w' := by
  have H1 := Lib.hid (fun W => encode_bad a b c d s p0 p1 p2 p3 p4 p5 p6 p7 p8 W h)
  have H2 := Lib.hid HE2
  have HT := Lib.hid ht
  have HB0 : Hid (Below w.heap.size w ((w.alloc (.cells (ino a b c d s p0 p1 p2 p3 p4 p5 p6 p7 p8) 25)).alloc (.cells (ino a' b' c' d' s' r0 r1 r2 r3 r4 r5 r6 r7 r8) 25))) := ((Below.refl _ _).alloc (Nat.le_refl _) _).alloc (by simp) _
  have g2 := blo_laid (w.alloc (.cells (ino a b c d s p0 p1 p2 p3 p4 p5 p6 p7 p8) 25)) 25 (ino a' b' c' d' s' r0 r1 r2 r3 r4 r5 r6 r7 r8)
  rw [show (w.alloc (.cells (ino a b c d s p0 p1 p2 p3 p4 p5 p6 p7 p8) 25)).heap.size = w.heap.size + 1 by simp] at g2
  have G2 := Lib.hid g2
  clear ht h g2 HE2
  go_enter Tryd.func8, Tryd.ntmps8
  go_wp2_with fail
  refine (H1.out _).mono ?_
  rintro e w1 ⟨rfl, hb1⟩
  have HB1 : Hid (Below w.heap.size w w1) := HB0.out.trans (hb1.mono HB0.out.size)
  have G2' := Lib.hid (G2.out.later hb1)
  clear hb1 HB0 G2 H1
  have y0 : w1.cell? ⟨w.heap.size + 1, 0, none⟩ = some (.int .i64 a') := by simpa using G2'.out.cell 0
  have y1 : w1.cell? ⟨w.heap.size + 1, 1, none⟩ = some (.int .i64 b') := by simpa using G2'.out.cell 1
  have y2 : w1.cell? ⟨w.heap.size + 1, 2, none⟩ = some (.int .i64 c') := by simpa using G2'.out.cell 2
  have y3 : w1.cell? ⟨w.heap.size + 1, 3, none⟩ = some (.int .i64 d') := by simpa using G2'.out.cell 3
  have y4 : w1.cell? ⟨w.heap.size + 1, 4, none⟩ = some (.int .i64 s') := by simpa using G2'.out.cell 4
  have y5 : w1.cell? ⟨w.heap.size + 1, 5, none⟩ = some (.int .u32 r0) := by simpa using G2'.out.cell 5
  have y6 : w1.cell? ⟨w.heap.size + 1, 6, none⟩ = some (.int .u32 r1) := by simpa using G2'.out.cell 6
  have y7 : w1.cell? ⟨w.heap.size + 1, 7, none⟩ = some (.int .u32 r2) := by simpa using G2'.out.cell 7
  have y8 : w1.cell? ⟨w.heap.size + 1, 8, none⟩ = some (.int .u32 r3) := by simpa using G2'.out.cell 8
  have y9 : w1.cell? ⟨w.heap.size + 1, 9, none⟩ = some (.int .u32 r4) := by simpa using G2'.out.cell 9
  have y10 : w1.cell? ⟨w.heap.size + 1, 10, none⟩ = some (.int .u32 r5) := by simpa using G2'.out.cell 10
  have y11 : w1.cell? ⟨w.heap.size + 1, 11, none⟩ = some (.int .u32 r6) := by simpa using G2'.out.cell 11
  have y12 : w1.cell? ⟨w.heap.size + 1, 12, none⟩ = some (.int .u32 r7) := by simpa using G2'.out.cell 12
  have y13 : w1.cell? ⟨w.heap.size + 1, 13, none⟩ = some (.int .u32 r8) := by simpa using G2'.out.cell 13
  go_wp2_with fail
  refine (H2.out _ (HT.out.below HB1.out hz) (by have := HB1.out.size; omega)).mono ?_
  rintro e w2 ⟨ax, nx, cx, kx, rfl, hb2⟩
  have HB2 : Hid (Below w.heap.size w w2) := HB1.out.trans (hb2.mono HB1.out.size)
  clear hb2 HB1 G2' y0 y1 y2 y3 y4 y5 y6 y7 y8 y9 y10 y11 y12 y13
  have HAw : Hid (∀ x : Kept w2, Calls Tryd.prog 10 #[] x.at_ fun e w' => e = .returned (.bool true) ∧ Below x.at_.heap.size x.at_ w') := fun x => awake_any x.at_ (HT.out.below (HB2.out.trans (x.below.mono HB2.out.size)) hz) (by have := HB2.out.size; have := x.below.size; omega)
  go_wp2_with fail
  have hne := kept_some w2
  refine wp_region_kept (by kernel_rfl) (by kernel_rfl) ?_
  repeat (go_big_quiet_step ((go_at_call 10; exact kept_call _ (HAw.out _))))
  refine wpQuiet_nil ?_
  rintro W ⟨wx, rfl⟩
  go_wp2_with fail
  go_ret
  exact ⟨by first | rfl | simp, HB2.out.trans (wx.below.mono HB2.out.size)⟩
set_option maxRecDepth 100000 in
set_option maxHeartbeats 1000000 in
theorem one_bad2 (a b c d s p0 p1 p2 p3 p4 p5 p6 p7 p8 : Nat) (a' b' c' d' s' : Int) (r0 r1 r2 r3 r4 r5 r6 r7 r8 : Nat) (w : World) (ht : Tab w) (hz : 0 < w.heap.size) (h : GoodI a b c d s) (q0 : p0 < 4294967296) (q1 : p1 < 4294967296) (q2 : p2 < 4294967296) (q3 : p3 < 4294967296) (q4 : p4 < 4294967296) (q5 : p5 < 4294967296) (q6 : p6 < 4294967296) (q7 : p7 < 4294967296) (q8 : p8 < 4294967296) (h' : ¬ GoodI a' b' c' d' s') :
    Calls Tryd.prog 8 #[.agg (ino a b c d s p0 p1 p2 p3 p4 p5 p6 p7 p8), .agg (ino a' b' c' d' s' r0 r1 r2 r3 r4 r5 r6 r7 r8)] w fun e w' => e = .returned (.bool true) ∧ Below w.heap.size w w' := by
  have H1 := Lib.hid (fun W h1 h2 => encode_good a b c d s p0 p1 p2 p3 p4 p5 p6 p7 p8 W h1 h2 h q0 q1 q2 q3 q4 q5 q6 q7 q8)
  have H2 := Lib.hid (fun W => encode_bad a' b' c' d' s' r0 r1 r2 r3 r4 r5 r6 r7 r8 W h')
  have HT := Lib.hid ht
  have HB0 : Hid (Below w.heap.size w ((w.alloc (.cells (ino a b c d s p0 p1 p2 p3 p4 p5 p6 p7 p8) 25)).alloc (.cells (ino a' b' c' d' s' r0 r1 r2 r3 r4 r5 r6 r7 r8) 25))) := ((Below.refl _ _).alloc (Nat.le_refl _) _).alloc (by simp) _
  have g2 := blo_laid (w.alloc (.cells (ino a b c d s p0 p1 p2 p3 p4 p5 p6 p7 p8) 25)) 25 (ino a' b' c' d' s' r0 r1 r2 r3 r4 r5 r6 r7 r8)
  rw [show (w.alloc (.cells (ino a b c d s p0 p1 p2 p3 p4 p5 p6 p7 p8) 25)).heap.size = w.heap.size + 1 by simp] at g2
  have G2 := Lib.hid g2
  clear ht h h' g2
  go_enter Tryd.func8, Tryd.ntmps8
  go_wp2_with fail
  refine (H1.out _ (HT.out.below HB0.out hz) (by have := HB0.out.size; omega)).mono ?_
  rintro e w1 ⟨g, rfl, _, _, hb1⟩
  have HB1 : Hid (Below w.heap.size w w1) := HB0.out.trans (hb1.mono HB0.out.size)
  have G2' := Lib.hid (G2.out.later hb1)
  clear hb1 HB0 G2 H1
  have y0 : w1.cell? ⟨w.heap.size + 1, 0, none⟩ = some (.int .i64 a') := by simpa using G2'.out.cell 0
  have y1 : w1.cell? ⟨w.heap.size + 1, 1, none⟩ = some (.int .i64 b') := by simpa using G2'.out.cell 1
  have y2 : w1.cell? ⟨w.heap.size + 1, 2, none⟩ = some (.int .i64 c') := by simpa using G2'.out.cell 2
  have y3 : w1.cell? ⟨w.heap.size + 1, 3, none⟩ = some (.int .i64 d') := by simpa using G2'.out.cell 3
  have y4 : w1.cell? ⟨w.heap.size + 1, 4, none⟩ = some (.int .i64 s') := by simpa using G2'.out.cell 4
  have y5 : w1.cell? ⟨w.heap.size + 1, 5, none⟩ = some (.int .u32 r0) := by simpa using G2'.out.cell 5
  have y6 : w1.cell? ⟨w.heap.size + 1, 6, none⟩ = some (.int .u32 r1) := by simpa using G2'.out.cell 6
  have y7 : w1.cell? ⟨w.heap.size + 1, 7, none⟩ = some (.int .u32 r2) := by simpa using G2'.out.cell 7
  have y8 : w1.cell? ⟨w.heap.size + 1, 8, none⟩ = some (.int .u32 r3) := by simpa using G2'.out.cell 8
  have y9 : w1.cell? ⟨w.heap.size + 1, 9, none⟩ = some (.int .u32 r4) := by simpa using G2'.out.cell 9
  have y10 : w1.cell? ⟨w.heap.size + 1, 10, none⟩ = some (.int .u32 r5) := by simpa using G2'.out.cell 10
  have y11 : w1.cell? ⟨w.heap.size + 1, 11, none⟩ = some (.int .u32 r6) := by simpa using G2'.out.cell 11
  have y12 : w1.cell? ⟨w.heap.size + 1, 12, none⟩ = some (.int .u32 r7) := by simpa using G2'.out.cell 12
  have y13 : w1.cell? ⟨w.heap.size + 1, 13, none⟩ = some (.int .u32 r8) := by simpa using G2'.out.cell 13
  go_wp2_with fail
  refine (H2.out _).mono ?_
  rintro e w2 ⟨rfl, hb2⟩
  have HB2 : Hid (Below w.heap.size w w2) := HB1.out.trans (hb2.mono HB1.out.size)
  clear hb2 HB1 G2' H2 y0 y1 y2 y3 y4 y5 y6 y7 y8 y9 y10 y11 y12 y13
  have HAw : Hid (∀ x : Kept w2, Calls Tryd.prog 10 #[] x.at_ fun e w' => e = .returned (.bool true) ∧ Below x.at_.heap.size x.at_ w') := fun x => awake_any x.at_ (HT.out.below (HB2.out.trans (x.below.mono HB2.out.size)) hz) (by have := HB2.out.size; have := x.below.size; omega)
  go_wp2_with fail
  have hne := kept_some w2
  refine wp_region_kept (by kernel_rfl) (by kernel_rfl) ?_
  repeat (go_big_quiet_step ((go_at_call 10; exact kept_call _ (HAw.out _))))
  refine wpQuiet_nil ?_
  rintro W ⟨wx, rfl⟩
  go_wp2_with fail
  go_ret
  exact ⟨by first | rfl | simp, HB2.out.trans (wx.below.mono HB2.out.size)⟩
end Go.Proofs.YtfkobamemehkdaaDoor
