/-
  The walk of InodeOne: two inodes have one block just if they are the same.
-/
import Derived.Test.YtfkobamemehkdaaDoorInAwake
import Derived.Test.YtfkobamemehkdaaDoorInSame
import Derived.OpenShut
import Derived.Deep.RegionHeld3
namespace Go.Proofs.YtfkobamemehkdaaDoor
open Go.RowKit

theorem le2_inj {a b : Nat} (ha : a < 65536) (hb : b < 65536) (h0 : a % 256 = b % 256) (h1 : a / 256 % 256 = b / 256 % 256) : a = b := by omega
theorem le4_of_eq {a b : Nat} (ha : a < 4294967296) (hb : b < 4294967296) (h0 : a % 256 = b % 256) (h1 : a / 256 % 256 = b / 256 % 256) (h2 : a / 65536 % 256 = b / 65536 % 256) (h3 : a / 16777216 % 256 = b / 16777216 % 256) : a = b := by omega
theorem sealN_inj {l m : List Nat} (h : l.length = m.length) (e : sealN l = sealN m) : l = m := by
  have := congrArg (List.take l.length) e
  unfold sealN at this
  rw [List.take_append_of_le_length (Nat.le_refl _), List.take_append_of_le_length (by omega), List.take_of_length_le (Nat.le_refl _), List.take_of_length_le (by omega)] at this
  exact this
theorem inoN_inj (a b c d s p0 p1 p2 p3 p4 p5 p6 p7 p8 a' b' c' d' s' r0 r1 r2 r3 r4 r5 r6 r7 r8 : Nat) (e : inoN a b c d s p0 p1 p2 p3 p4 p5 p6 p7 p8 = inoN a' b' c' d' s' r0 r1 r2 r3 r4 r5 r6 r7 r8) (ha : a < 65536) (hb : b < 65536) (hc : c < 256) (hd : d < 256) (hs : s < 4294967296) (ha' : a' < 65536) (hb' : b' < 65536) (hc' : c' < 256) (hd' : d' < 256) (hs' : s' < 4294967296)
    (q0 : p0 < 4294967296) (q1 : p1 < 4294967296) (q2 : p2 < 4294967296) (q3 : p3 < 4294967296) (q4 : p4 < 4294967296) (q5 : p5 < 4294967296) (q6 : p6 < 4294967296) (q7 : p7 < 4294967296) (q8 : p8 < 4294967296) (u0 : r0 < 4294967296) (u1 : r1 < 4294967296) (u2 : r2 < 4294967296) (u3 : r3 < 4294967296) (u4 : r4 < 4294967296) (u5 : r5 < 4294967296) (u6 : r6 < 4294967296) (u7 : r7 < 4294967296) (u8 : r8 < 4294967296) :
    a = a' ∧ b = b' ∧ c = c' ∧ d = d' ∧ s = s' ∧ p0 = r0 ∧ p1 = r1 ∧ p2 = r2 ∧ p3 = r3 ∧ p4 = r4 ∧ p5 = r5 ∧ p6 = r6 ∧ p7 = r7 ∧ p8 = r8 := by
  have e0 : a % 256 = a' % 256 := congrArg (fun l => l.getD 0 0) e
  have e1 : a / 256 % 256 = a' / 256 % 256 := congrArg (fun l => l.getD 1 0) e
  have e2 : b % 256 = b' % 256 := congrArg (fun l => l.getD 2 0) e
  have e3 : b / 256 % 256 = b' / 256 % 256 := congrArg (fun l => l.getD 3 0) e
  have e4 : c % 256 = c' % 256 := congrArg (fun l => l.getD 4 0) e
  have e5 : d % 256 = d' % 256 := congrArg (fun l => l.getD 5 0) e
  have e6 : s % 256 = s' % 256 := congrArg (fun l => l.getD 6 0) e
  have e7 : s / 256 % 256 = s' / 256 % 256 := congrArg (fun l => l.getD 7 0) e
  have e8 : s / 65536 % 256 = s' / 65536 % 256 := congrArg (fun l => l.getD 8 0) e
  have e9 : s / 16777216 % 256 = s' / 16777216 % 256 := congrArg (fun l => l.getD 9 0) e
  have e10 : p0 % 256 = r0 % 256 := congrArg (fun l => l.getD 10 0) e
  have e11 : p0 / 256 % 256 = r0 / 256 % 256 := congrArg (fun l => l.getD 11 0) e
  have e12 : p0 / 65536 % 256 = r0 / 65536 % 256 := congrArg (fun l => l.getD 12 0) e
  have e13 : p0 / 16777216 % 256 = r0 / 16777216 % 256 := congrArg (fun l => l.getD 13 0) e
  have e14 : p1 % 256 = r1 % 256 := congrArg (fun l => l.getD 14 0) e
  have e15 : p1 / 256 % 256 = r1 / 256 % 256 := congrArg (fun l => l.getD 15 0) e
  have e16 : p1 / 65536 % 256 = r1 / 65536 % 256 := congrArg (fun l => l.getD 16 0) e
  have e17 : p1 / 16777216 % 256 = r1 / 16777216 % 256 := congrArg (fun l => l.getD 17 0) e
  have e18 : p2 % 256 = r2 % 256 := congrArg (fun l => l.getD 18 0) e
  have e19 : p2 / 256 % 256 = r2 / 256 % 256 := congrArg (fun l => l.getD 19 0) e
  have e20 : p2 / 65536 % 256 = r2 / 65536 % 256 := congrArg (fun l => l.getD 20 0) e
  have e21 : p2 / 16777216 % 256 = r2 / 16777216 % 256 := congrArg (fun l => l.getD 21 0) e
  have e22 : p3 % 256 = r3 % 256 := congrArg (fun l => l.getD 22 0) e
  have e23 : p3 / 256 % 256 = r3 / 256 % 256 := congrArg (fun l => l.getD 23 0) e
  have e24 : p3 / 65536 % 256 = r3 / 65536 % 256 := congrArg (fun l => l.getD 24 0) e
  have e25 : p3 / 16777216 % 256 = r3 / 16777216 % 256 := congrArg (fun l => l.getD 25 0) e
  have e26 : p4 % 256 = r4 % 256 := congrArg (fun l => l.getD 26 0) e
  have e27 : p4 / 256 % 256 = r4 / 256 % 256 := congrArg (fun l => l.getD 27 0) e
  have e28 : p4 / 65536 % 256 = r4 / 65536 % 256 := congrArg (fun l => l.getD 28 0) e
  have e29 : p4 / 16777216 % 256 = r4 / 16777216 % 256 := congrArg (fun l => l.getD 29 0) e
  have e30 : p5 % 256 = r5 % 256 := congrArg (fun l => l.getD 30 0) e
  have e31 : p5 / 256 % 256 = r5 / 256 % 256 := congrArg (fun l => l.getD 31 0) e
  have e32 : p5 / 65536 % 256 = r5 / 65536 % 256 := congrArg (fun l => l.getD 32 0) e
  have e33 : p5 / 16777216 % 256 = r5 / 16777216 % 256 := congrArg (fun l => l.getD 33 0) e
  have e34 : p6 % 256 = r6 % 256 := congrArg (fun l => l.getD 34 0) e
  have e35 : p6 / 256 % 256 = r6 / 256 % 256 := congrArg (fun l => l.getD 35 0) e
  have e36 : p6 / 65536 % 256 = r6 / 65536 % 256 := congrArg (fun l => l.getD 36 0) e
  have e37 : p6 / 16777216 % 256 = r6 / 16777216 % 256 := congrArg (fun l => l.getD 37 0) e
  have e38 : p7 % 256 = r7 % 256 := congrArg (fun l => l.getD 38 0) e
  have e39 : p7 / 256 % 256 = r7 / 256 % 256 := congrArg (fun l => l.getD 39 0) e
  have e40 : p7 / 65536 % 256 = r7 / 65536 % 256 := congrArg (fun l => l.getD 40 0) e
  have e41 : p7 / 16777216 % 256 = r7 / 16777216 % 256 := congrArg (fun l => l.getD 41 0) e
  have e42 : p8 % 256 = r8 % 256 := congrArg (fun l => l.getD 42 0) e
  have e43 : p8 / 256 % 256 = r8 / 256 % 256 := congrArg (fun l => l.getD 43 0) e
  have e44 : p8 / 65536 % 256 = r8 / 65536 % 256 := congrArg (fun l => l.getD 44 0) e
  have e45 : p8 / 16777216 % 256 = r8 / 16777216 % 256 := congrArg (fun l => l.getD 45 0) e
  clear e
  exact ⟨le2_inj ha ha' e0 e1, le2_inj hb hb' e2 e3, by omega, by omega, le4_of_eq hs hs' e6 e7 e8 e9, le4_of_eq q0 u0 e10 e11 e12 e13, le4_of_eq q1 u1 e14 e15 e16 e17, le4_of_eq q2 u2 e18 e19 e20 e21, le4_of_eq q3 u3 e22 e23 e24 e25, le4_of_eq q4 u4 e26 e27 e28 e29, le4_of_eq q5 u5 e30 e31 e32 e33, le4_of_eq q6 u6 e34 e35 e36 e37, le4_of_eq q7 u7 e38 e39 e40 e41, le4_of_eq q8 u8 e42 e43 e44 e45⟩
set_option maxRecDepth 100000 in
set_option maxHeartbeats 4000000 in
theorem one_good (a b c d s p0 p1 p2 p3 p4 p5 p6 p7 p8 a' b' c' d' s' r0 r1 r2 r3 r4 r5 r6 r7 r8 : Nat) (w : World) (ht : Tab w) (hz : 0 < w.heap.size) (h : GoodI a b c d s) (h' : GoodI a' b' c' d' s')
    (q0 : p0 < 4294967296) (q1 : p1 < 4294967296) (q2 : p2 < 4294967296) (q3 : p3 < 4294967296) (q4 : p4 < 4294967296) (q5 : p5 < 4294967296) (q6 : p6 < 4294967296) (q7 : p7 < 4294967296) (q8 : p8 < 4294967296) (u0 : r0 < 4294967296) (u1 : r1 < 4294967296) (u2 : r2 < 4294967296) (u3 : r3 < 4294967296) (u4 : r4 < 4294967296) (u5 : r5 < 4294967296) (u6 : r6 < 4294967296) (u7 : r7 < 4294967296) (u8 : r8 < 4294967296) :
    Calls Tryd.prog 8 #[.agg (ino a b c d s p0 p1 p2 p3 p4 p5 p6 p7 p8), .agg (ino a' b' c' d' s' r0 r1 r2 r3 r4 r5 r6 r7 r8)] w fun e w' => e = .returned (.bool true) ∧ Below w.heap.size w w' := by
  have HE1 := Lib.hid (fun W h1 h2 => encode_good a b c d s p0 p1 p2 p3 p4 p5 p6 p7 p8 W h1 h2 h q0 q1 q2 q3 q4 q5 q6 q7 q8)
  have HE2 := Lib.hid (fun W h1 h2 => encode_good a' b' c' d' s' r0 r1 r2 r3 r4 r5 r6 r7 r8 W h1 h2 h' u0 u1 u2 u3 u4 u5 u6 u7 u8)
  have HT := Lib.hid ht
  have HI := Lib.hid (inoN_inj a b c d s p0 p1 p2 p3 p4 p5 p6 p7 p8 a' b' c' d' s' r0 r1 r2 r3 r4 r5 r6 r7 r8)
  have hv1 : a < 65536 ∧ b < 65536 ∧ c < 256 ∧ d < 256 ∧ s < 4294967296 := by unfold GoodI at h; omega
  have hv2 : a' < 65536 ∧ b' < 65536 ∧ c' < 256 ∧ d' < 256 ∧ s' < 4294967296 := by unfold GoodI at h'; omega
  have HB0 : Hid (Below w.heap.size w ((w.alloc (.cells (ino a b c d s p0 p1 p2 p3 p4 p5 p6 p7 p8) 25)).alloc (.cells (ino a' b' c' d' s' r0 r1 r2 r3 r4 r5 r6 r7 r8) 25))) := ((Below.refl _ _).alloc (Nat.le_refl _) _).alloc (by simp) _
  have G1 := Lib.hid ((blo_laid w 25 (ino a b c d s p0 p1 p2 p3 p4 p5 p6 p7 p8)).alloc (.cells (ino a' b' c' d' s' r0 r1 r2 r3 r4 r5 r6 r7 r8) 25))
  have g2 := blo_laid (w.alloc (.cells (ino a b c d s p0 p1 p2 p3 p4 p5 p6 p7 p8) 25)) 25 (ino a' b' c' d' s' r0 r1 r2 r3 r4 r5 r6 r7 r8)
  rw [show (w.alloc (.cells (ino a b c d s p0 p1 p2 p3 p4 p5 p6 p7 p8) 25)).heap.size = w.heap.size + 1 by simp] at g2
  have G2 := Lib.hid g2
  have L1 : Hid (64 = (sealN (inoN a b c d s p0 p1 p2 p3 p4 p5 p6 p7 p8)).length) := by show _ = _; rw [len4, inoN_length]
  have L2 : Hid (64 = (sealN (inoN a' b' c' d' s' r0 r1 r2 r3 r4 r5 r6 r7 r8)).length) := by show _ = _; rw [len4, inoN_length]
  have M1 : Hid (∀ x ∈ sealN (inoN a b c d s p0 p1 p2 p3 p4 p5 p6 p7 p8), x < 256) := sealN_lt (inoN_lt a b c d s p0 p1 p2 p3 p4 p5 p6 p7 p8)
  have M2 : Hid (∀ x ∈ sealN (inoN a' b' c' d' s' r0 r1 r2 r3 r4 r5 r6 r7 r8), x < 256) := sealN_lt (inoN_lt a' b' c' d' s' r0 r1 r2 r3 r4 r5 r6 r7 r8)
  clear ht h h' g2
  go_enter Tryd.func8, Tryd.ntmps8
  go_wp2_with fail
  refine (HE1.out _ (HT.out.below HB0.out hz) (by have := HB0.out.size; omega)).mono ?_
  rintro e w1 ⟨g, rfl, hr1, hg1, hb1⟩
  have HB1 : Hid (Below w.heap.size w w1) := HB0.out.trans (hb1.mono HB0.out.size)
  have Y1 := Lib.hid (hr1.bytes M1.out (by rw [← L1.out]; decide))
  have G1' := Lib.hid (G1.out.later hb1)
  have G2' := Lib.hid (G2.out.later hb1)
  clear hr1 hb1 hg1 HB0 G1 G2 HE1
  have y0 : w1.cell? ⟨w.heap.size + 1, 0, none⟩ = some (.int .i64 a') := by simpa using G2'.out.cell 0
  have y1 : w1.cell? ⟨w.heap.size + 1, 1, none⟩ = some (.int .i64 b') := by simpa using G2'.out.cell 1
  have y2 : w1.cell? ⟨w.heap.size + 1, 2, none⟩ = some (.int .i64 c') := by simpa using G2'.out.cell 2
  have y3 : w1.cell? ⟨w.heap.size + 1, 3, none⟩ = some (.int .i64 d') := by simpa using G2'.out.cell 3
  have y4 : w1.cell? ⟨w.heap.size + 1, 4, none⟩ = some (.int .i64 s') := by simpa using G2'.out.cell 4
  have y5 : w1.cell? ⟨w.heap.size + 1, 5, none⟩ = some (.int .u32 r0) := by simpa using G2'.out.cell 5
  have y6 : w1.cell? ⟨w.heap.size + 1, 6, none⟩ = some (.int .u32 r1) := by simpa using G2'.out.cell 6
  have y7 : w1.cell? ⟨w.heap.size + 1, 7, none⟩ = some (.int .u32 r2) := by simpa using G2'.out.cell 7
  have y8 : w1.cell? ⟨w.heap.size + 1, 8, none⟩ = some (.int .u32 r3) := by simpa using G2'.out.cell 8
  have y9 : w1.cell? ⟨w.heap.size + 1, 9, none⟩ = some (.int .u32 r4) := by simpa using G2'.out.cell 9
  have y10 : w1.cell? ⟨w.heap.size + 1, 10, none⟩ = some (.int .u32 r5) := by simpa using G2'.out.cell 10
  have y11 : w1.cell? ⟨w.heap.size + 1, 11, none⟩ = some (.int .u32 r6) := by simpa using G2'.out.cell 11
  have y12 : w1.cell? ⟨w.heap.size + 1, 12, none⟩ = some (.int .u32 r7) := by simpa using G2'.out.cell 12
  have y13 : w1.cell? ⟨w.heap.size + 1, 13, none⟩ = some (.int .u32 r8) := by simpa using G2'.out.cell 13
  go_wp2_with fail
  refine (HE2.out _ (HT.out.below HB1.out hz) (by have := HB1.out.size; omega)).mono ?_
  rintro e w2 ⟨g', rfl, hr2, hg2, hb2⟩
  have HB2 : Hid (Below w.heap.size w w2) := HB1.out.trans (hb2.mono HB1.out.size)
  have Y2 := Lib.hid (hr2.bytes M2.out (by rw [← L2.out]; decide))
  have Y1' := Lib.hid (Y1.out.below hb2)
  have G3 := Lib.hid (G1'.out.later hb2)
  have G4 := Lib.hid (G2'.out.later hb2)
  clear hr2 hb2 hg2 HB1 G1' G2' HE2 Y1 y0 y1 y2 y3 y4 y5 y6 y7 y8 y9 y10 y11 y12 y13
  go_wp2_with fail
  have KP : Hid (∀ W, Below w2.heap.size w2 W → W.cell? ⟨w.heap.size, 0, none⟩ = some (.int .i64 a) ∧ W.cell? ⟨w.heap.size, 1, none⟩ = some (.int .i64 b) ∧ W.cell? ⟨w.heap.size, 2, none⟩ = some (.int .i64 c) ∧ W.cell? ⟨w.heap.size, 3, none⟩ = some (.int .i64 d) ∧ W.cell? ⟨w.heap.size, 4, none⟩ = some (.int .i64 s) ∧ W.cell? ⟨w.heap.size, 5, none⟩ = some (.int .u32 p0) ∧ W.cell? ⟨w.heap.size, 6, none⟩ = some (.int .u32 p1) ∧ W.cell? ⟨w.heap.size, 7, none⟩ = some (.int .u32 p2) ∧ W.cell? ⟨w.heap.size, 8, none⟩ = some (.int .u32 p3) ∧ W.cell? ⟨w.heap.size, 9, none⟩ = some (.int .u32 p4) ∧ W.cell? ⟨w.heap.size, 10, none⟩ = some (.int .u32 p5) ∧ W.cell? ⟨w.heap.size, 11, none⟩ = some (.int .u32 p6) ∧ W.cell? ⟨w.heap.size, 12, none⟩ = some (.int .u32 p7) ∧ W.cell? ⟨w.heap.size, 13, none⟩ = some (.int .u32 p8) ∧ W.cell? ⟨w.heap.size + 1, 0, none⟩ = some (.int .i64 a') ∧ W.cell? ⟨w.heap.size + 1, 1, none⟩ = some (.int .i64 b') ∧ W.cell? ⟨w.heap.size + 1, 2, none⟩ = some (.int .i64 c') ∧ W.cell? ⟨w.heap.size + 1, 3, none⟩ = some (.int .i64 d') ∧ W.cell? ⟨w.heap.size + 1, 4, none⟩ = some (.int .i64 s') ∧ W.cell? ⟨w.heap.size + 1, 5, none⟩ = some (.int .u32 r0) ∧ W.cell? ⟨w.heap.size + 1, 6, none⟩ = some (.int .u32 r1) ∧ W.cell? ⟨w.heap.size + 1, 7, none⟩ = some (.int .u32 r2) ∧ W.cell? ⟨w.heap.size + 1, 8, none⟩ = some (.int .u32 r3) ∧ W.cell? ⟨w.heap.size + 1, 9, none⟩ = some (.int .u32 r4) ∧ W.cell? ⟨w.heap.size + 1, 10, none⟩ = some (.int .u32 r5) ∧ W.cell? ⟨w.heap.size + 1, 11, none⟩ = some (.int .u32 r6) ∧ W.cell? ⟨w.heap.size + 1, 12, none⟩ = some (.int .u32 r7) ∧ W.cell? ⟨w.heap.size + 1, 13, none⟩ = some (.int .u32 r8) ∧ (convert 27 9 (.slice (some ⟨g, 0, none⟩) 64 64)).run Tryd.prog W = .ok (.string (strOf (sealN (inoN a b c d s p0 p1 p2 p3 p4 p5 p6 p7 p8)))) W ∧ (convert 27 9 (.slice (some ⟨g', 0, none⟩) 64 64)).run Tryd.prog W = .ok (.string (strOf (sealN (inoN a' b' c' d' s' r0 r1 r2 r3 r4 r5 r6 r7 r8)))) W) := fun W hb => ⟨by simpa using (G3.out.later hb).cell 0, by simpa using (G3.out.later hb).cell 1, by simpa using (G3.out.later hb).cell 2, by simpa using (G3.out.later hb).cell 3, by simpa using (G3.out.later hb).cell 4, by simpa using (G3.out.later hb).cell 5, by simpa using (G3.out.later hb).cell 6, by simpa using (G3.out.later hb).cell 7, by simpa using (G3.out.later hb).cell 8, by simpa using (G3.out.later hb).cell 9, by simpa using (G3.out.later hb).cell 10, by simpa using (G3.out.later hb).cell 11, by simpa using (G3.out.later hb).cell 12, by simpa using (G3.out.later hb).cell 13, by simpa using (G4.out.later hb).cell 0, by simpa using (G4.out.later hb).cell 1, by simpa using (G4.out.later hb).cell 2, by simpa using (G4.out.later hb).cell 3, by simpa using (G4.out.later hb).cell 4, by simpa using (G4.out.later hb).cell 5, by simpa using (G4.out.later hb).cell 6, by simpa using (G4.out.later hb).cell 7, by simpa using (G4.out.later hb).cell 8, by simpa using (G4.out.later hb).cell 9, by simpa using (G4.out.later hb).cell 10, by simpa using (G4.out.later hb).cell 11, by simpa using (G4.out.later hb).cell 12, by simpa using (G4.out.later hb).cell 13, run_str W 27 9 5 Tryd.underlying27 Tryd.underlying5 Tryd.underlying9 _ _ 64 64 L1.out (Y1'.out.below hb), run_str W 27 9 5 Tryd.underlying27 Tryd.underlying5 Tryd.underlying9 _ _ 64 64 L2.out (Y2.out.below hb)⟩
  have HAw := Lib.hid (awake_any w2.drew (HT.out.below HB2.out.drew hz) (by have := HB2.out.size; simp; omega))
  have hE1 : FitI a b c d s p0 p1 p2 p3 p4 p5 p6 p7 p8 := by unfold FitI; omega
  have hE2 : FitI a' b' c' d' s' r0 r1 r2 r3 r4 r5 r6 r7 r8 := by unfold FitI; omega
  have HEq := Lib.hid (fun W => eql_ino a b c d s a' b' c' d' s' p0 p1 p2 p3 p4 p5 p6 p7 p8 r0 r1 r2 r3 r4 r5 r6 r7 r8 hE1 hE2 W)
  clear G3 G4 Y1' Y2 hE1 hE2
  by_cases he : a = a' ∧ b = b' ∧ c = c' ∧ d = d' ∧ s = s' ∧ p0 = r0 ∧ p1 = r1 ∧ p2 = r2 ∧ p3 = r3 ∧ p4 = r4 ∧ p5 = r5 ∧ p6 = r6 ∧ p7 = r7 ∧ p8 = r8
  · obtain ⟨rfl, rfl, rfl, rfl, rfl, rfl, rfl, rfl, rfl, rfl, rfl, rfl, rfl, rfl⟩ := he
    have hse : ∀ W, (binOp .eql 25 (.agg (ino a b c d s p0 p1 p2 p3 p4 p5 p6 p7 p8)) (.agg (ino a b c d s p0 p1 p2 p3 p4 p5 p6 p7 p8))).run Tryd.prog W = .ok (.bool true) W := fun W => by
      obtain ⟨r, h1, h2⟩ := HEq.out W
      rw [h1, h2.2 (by simp)]
    go_region_held (fun W => W.cell? ⟨w.heap.size, 0, none⟩ = some (.int .i64 a) ∧ W.cell? ⟨w.heap.size, 1, none⟩ = some (.int .i64 b) ∧ W.cell? ⟨w.heap.size, 2, none⟩ = some (.int .i64 c) ∧ W.cell? ⟨w.heap.size, 3, none⟩ = some (.int .i64 d) ∧ W.cell? ⟨w.heap.size, 4, none⟩ = some (.int .i64 s) ∧ W.cell? ⟨w.heap.size, 5, none⟩ = some (.int .u32 p0) ∧ W.cell? ⟨w.heap.size, 6, none⟩ = some (.int .u32 p1) ∧ W.cell? ⟨w.heap.size, 7, none⟩ = some (.int .u32 p2) ∧ W.cell? ⟨w.heap.size, 8, none⟩ = some (.int .u32 p3) ∧ W.cell? ⟨w.heap.size, 9, none⟩ = some (.int .u32 p4) ∧ W.cell? ⟨w.heap.size, 10, none⟩ = some (.int .u32 p5) ∧ W.cell? ⟨w.heap.size, 11, none⟩ = some (.int .u32 p6) ∧ W.cell? ⟨w.heap.size, 12, none⟩ = some (.int .u32 p7) ∧ W.cell? ⟨w.heap.size, 13, none⟩ = some (.int .u32 p8) ∧ W.cell? ⟨w.heap.size + 1, 0, none⟩ = some (.int .i64 a) ∧ W.cell? ⟨w.heap.size + 1, 1, none⟩ = some (.int .i64 b) ∧ W.cell? ⟨w.heap.size + 1, 2, none⟩ = some (.int .i64 c) ∧ W.cell? ⟨w.heap.size + 1, 3, none⟩ = some (.int .i64 d) ∧ W.cell? ⟨w.heap.size + 1, 4, none⟩ = some (.int .i64 s) ∧ W.cell? ⟨w.heap.size + 1, 5, none⟩ = some (.int .u32 p0) ∧ W.cell? ⟨w.heap.size + 1, 6, none⟩ = some (.int .u32 p1) ∧ W.cell? ⟨w.heap.size + 1, 7, none⟩ = some (.int .u32 p2) ∧ W.cell? ⟨w.heap.size + 1, 8, none⟩ = some (.int .u32 p3) ∧ W.cell? ⟨w.heap.size + 1, 9, none⟩ = some (.int .u32 p4) ∧ W.cell? ⟨w.heap.size + 1, 10, none⟩ = some (.int .u32 p5) ∧ W.cell? ⟨w.heap.size + 1, 11, none⟩ = some (.int .u32 p6) ∧ W.cell? ⟨w.heap.size + 1, 12, none⟩ = some (.int .u32 p7) ∧ W.cell? ⟨w.heap.size + 1, 13, none⟩ = some (.int .u32 p8) ∧ (convert 27 9 (.slice (some ⟨g, 0, none⟩) 64 64)).run Tryd.prog W = .ok (.string (strOf (sealN (inoN a b c d s p0 p1 p2 p3 p4 p5 p6 p7 p8)))) W ∧ (convert 27 9 (.slice (some ⟨g', 0, none⟩) 64 64)).run Tryd.prog W = .ok (.string (strOf (sealN (inoN a b c d s p0 p1 p2 p3 p4 p5 p6 p7 p8)))) W)
      (first | exact KP.out _ HBx.out | exact KP.out _ ((Below.refl _ _).drew) | fail)
      ((go_at_call 10; refine HAw.out.mono ?_; rintro e wx ⟨rfl, hbx⟩; have HBx : Hid (Below w2.heap.size w2 wx) := ((Below.refl _ _).drew).trans hbx; clear hbx))
    clear KP
    go_wp2_with fail
    go_ret
    exact ⟨by first | rfl | simp, HB2.out.trans (HBx.out.mono HB2.out.size)⟩
  · have hse : ∀ W, (binOp .eql 25 (.agg (ino a b c d s p0 p1 p2 p3 p4 p5 p6 p7 p8)) (.agg (ino a' b' c' d' s' r0 r1 r2 r3 r4 r5 r6 r7 r8))).run Tryd.prog W = .ok (.bool false) W := fun W => by
      obtain ⟨r, h1, h2⟩ := HEq.out W
      have h3 : r = false := by
        cases r
        · rfl
        · exfalso
          apply he
          have := h2.1 rfl
          omega
      rw [h1, h3]
    have hne : sealN (inoN a b c d s p0 p1 p2 p3 p4 p5 p6 p7 p8) ≠ sealN (inoN a' b' c' d' s' r0 r1 r2 r3 r4 r5 r6 r7 r8) := fun e => he (HI.out (sealN_inj (by rw [inoN_length, inoN_length]) e) (by omega) (by omega) (by omega) (by omega) (by omega) (by omega) (by omega) (by omega) (by omega) (by omega) q0 q1 q2 q3 q4 q5 q6 q7 q8 u0 u1 u2 u3 u4 u5 u6 u7 u8)
    have hsn := str_ne M1.out M2.out hne
    clear he hne HEq HI
    go_region_held (fun W => W.cell? ⟨w.heap.size, 0, none⟩ = some (.int .i64 a) ∧ W.cell? ⟨w.heap.size, 1, none⟩ = some (.int .i64 b) ∧ W.cell? ⟨w.heap.size, 2, none⟩ = some (.int .i64 c) ∧ W.cell? ⟨w.heap.size, 3, none⟩ = some (.int .i64 d) ∧ W.cell? ⟨w.heap.size, 4, none⟩ = some (.int .i64 s) ∧ W.cell? ⟨w.heap.size, 5, none⟩ = some (.int .u32 p0) ∧ W.cell? ⟨w.heap.size, 6, none⟩ = some (.int .u32 p1) ∧ W.cell? ⟨w.heap.size, 7, none⟩ = some (.int .u32 p2) ∧ W.cell? ⟨w.heap.size, 8, none⟩ = some (.int .u32 p3) ∧ W.cell? ⟨w.heap.size, 9, none⟩ = some (.int .u32 p4) ∧ W.cell? ⟨w.heap.size, 10, none⟩ = some (.int .u32 p5) ∧ W.cell? ⟨w.heap.size, 11, none⟩ = some (.int .u32 p6) ∧ W.cell? ⟨w.heap.size, 12, none⟩ = some (.int .u32 p7) ∧ W.cell? ⟨w.heap.size, 13, none⟩ = some (.int .u32 p8) ∧ W.cell? ⟨w.heap.size + 1, 0, none⟩ = some (.int .i64 a') ∧ W.cell? ⟨w.heap.size + 1, 1, none⟩ = some (.int .i64 b') ∧ W.cell? ⟨w.heap.size + 1, 2, none⟩ = some (.int .i64 c') ∧ W.cell? ⟨w.heap.size + 1, 3, none⟩ = some (.int .i64 d') ∧ W.cell? ⟨w.heap.size + 1, 4, none⟩ = some (.int .i64 s') ∧ W.cell? ⟨w.heap.size + 1, 5, none⟩ = some (.int .u32 r0) ∧ W.cell? ⟨w.heap.size + 1, 6, none⟩ = some (.int .u32 r1) ∧ W.cell? ⟨w.heap.size + 1, 7, none⟩ = some (.int .u32 r2) ∧ W.cell? ⟨w.heap.size + 1, 8, none⟩ = some (.int .u32 r3) ∧ W.cell? ⟨w.heap.size + 1, 9, none⟩ = some (.int .u32 r4) ∧ W.cell? ⟨w.heap.size + 1, 10, none⟩ = some (.int .u32 r5) ∧ W.cell? ⟨w.heap.size + 1, 11, none⟩ = some (.int .u32 r6) ∧ W.cell? ⟨w.heap.size + 1, 12, none⟩ = some (.int .u32 r7) ∧ W.cell? ⟨w.heap.size + 1, 13, none⟩ = some (.int .u32 r8) ∧ (convert 27 9 (.slice (some ⟨g, 0, none⟩) 64 64)).run Tryd.prog W = .ok (.string (strOf (sealN (inoN a b c d s p0 p1 p2 p3 p4 p5 p6 p7 p8)))) W ∧ (convert 27 9 (.slice (some ⟨g', 0, none⟩) 64 64)).run Tryd.prog W = .ok (.string (strOf (sealN (inoN a' b' c' d' s' r0 r1 r2 r3 r4 r5 r6 r7 r8)))) W)
      (first | exact KP.out _ HBx.out | exact KP.out _ ((Below.refl _ _).drew) | fail)
      ((go_at_call 10; refine HAw.out.mono ?_; rintro e wx ⟨rfl, hbx⟩; have HBx : Hid (Below w2.heap.size w2 wx) := ((Below.refl _ _).drew).trans hbx; clear hbx))
    clear KP
    go_wp2_with fail
    go_ret
    exact ⟨by first | rfl | simp, HB2.out.trans (HBx.out.mono HB2.out.size)⟩
end Go.Proofs.YtfkobamemehkdaaDoor
