/-
  The walk of InodeWrites: any inode is written as its block and read back, or it is none.
-/
import Derived.Test.YtfkobamemehkdaaDoorInDecode
import Derived.Test.YtfkobamemehkdaaDoorInRef
import Derived.Test.YtfkobamemehkdaaDoorInRefGood
namespace Go.Proofs.YtfkobamemehkdaaDoor
open Go.RowKit

theorem ptI_ino (a b c d s p0 p1 p2 p3 p4 p5 p6 p7 p8 : Nat) (q0 : p0 < 4294967296) (q1 : p1 < 4294967296) (q2 : p2 < 4294967296) (q3 : p3 < 4294967296) (q4 : p4 < 4294967296) (q5 : p5 < 4294967296) (q6 : p6 < 4294967296) (q7 : p7 < 4294967296) (q8 : p8 < 4294967296) :
    ptI (inoN a b c d s p0 p1 p2 p3 p4 p5 p6 p7 p8) 0 = p0 ∧ ptI (inoN a b c d s p0 p1 p2 p3 p4 p5 p6 p7 p8) 1 = p1 ∧ ptI (inoN a b c d s p0 p1 p2 p3 p4 p5 p6 p7 p8) 2 = p2 ∧ ptI (inoN a b c d s p0 p1 p2 p3 p4 p5 p6 p7 p8) 3 = p3 ∧ ptI (inoN a b c d s p0 p1 p2 p3 p4 p5 p6 p7 p8) 4 = p4 ∧ ptI (inoN a b c d s p0 p1 p2 p3 p4 p5 p6 p7 p8) 5 = p5 ∧ ptI (inoN a b c d s p0 p1 p2 p3 p4 p5 p6 p7 p8) 6 = p6 ∧ ptI (inoN a b c d s p0 p1 p2 p3 p4 p5 p6 p7 p8) 7 = p7 ∧ ptI (inoN a b c d s p0 p1 p2 p3 p4 p5 p6 p7 p8) 8 = p8 := by
  refine ⟨?_, ?_, ?_, ?_, ?_, ?_, ?_, ?_, ?_⟩
  · show p0 % 256 + p0 / 256 % 256 * 256 + p0 / 65536 % 256 * 65536 + p0 / 16777216 % 256 * 16777216 = p0; omega
  · show p1 % 256 + p1 / 256 % 256 * 256 + p1 / 65536 % 256 * 65536 + p1 / 16777216 % 256 * 16777216 = p1; omega
  · show p2 % 256 + p2 / 256 % 256 * 256 + p2 / 65536 % 256 * 65536 + p2 / 16777216 % 256 * 16777216 = p2; omega
  · show p3 % 256 + p3 / 256 % 256 * 256 + p3 / 65536 % 256 * 65536 + p3 / 16777216 % 256 * 16777216 = p3; omega
  · show p4 % 256 + p4 / 256 % 256 * 256 + p4 / 65536 % 256 * 65536 + p4 / 16777216 % 256 * 16777216 = p4; omega
  · show p5 % 256 + p5 / 256 % 256 * 256 + p5 / 65536 % 256 * 65536 + p5 / 16777216 % 256 * 16777216 = p5; omega
  · show p6 % 256 + p6 / 256 % 256 * 256 + p6 / 65536 % 256 * 65536 + p6 / 16777216 % 256 * 16777216 = p6; omega
  · show p7 % 256 + p7 / 256 % 256 * 256 + p7 / 65536 % 256 * 65536 + p7 / 16777216 % 256 * 16777216 = p7; omega
  · show p8 % 256 + p8 / 256 % 256 * 256 + p8 / 65536 % 256 * 65536 + p8 / 16777216 % 256 * 16777216 = p8; omega
theorem decR_ino (a b c d s p0 p1 p2 p3 p4 p5 p6 p7 p8 : Nat) (h : GoodI a b c d s) (q0 : p0 < 4294967296) (q1 : p1 < 4294967296) (q2 : p2 < 4294967296) (q3 : p3 < 4294967296) (q4 : p4 < 4294967296) (q5 : p5 < 4294967296) (q6 : p6 < 4294967296) (q7 : p7 < 4294967296) (q8 : p8 < 4294967296) : DecR (inoN a b c d s p0 p1 p2 p3 p4 p5 p6 p7 p8) (.tuple #[.agg (ino a b c d s p0 p1 p2 p3 p4 p5 p6 p7 p8), .int .i64 0]) := by
  have hh := h
  unfold GoodI at hh
  have e0 : b2 (inoN a b c d s p0 p1 p2 p3 p4 p5 p6 p7 p8) 0 = a := by show a % 256 + a / 256 % 256 * 256 = a; omega
  have e1 : b2 (inoN a b c d s p0 p1 p2 p3 p4 p5 p6 p7 p8) 2 = b := by show b % 256 + b / 256 % 256 * 256 = b; omega
  have e2 : (inoN a b c d s p0 p1 p2 p3 p4 p5 p6 p7 p8).getD 4 0 = c := by show c % 256 = c; omega
  have e3 : (inoN a b c d s p0 p1 p2 p3 p4 p5 p6 p7 p8).getD 5 0 = d := by show d % 256 = d; omega
  have e4 : b4 (inoN a b c d s p0 p1 p2 p3 p4 p5 p6 p7 p8) 6 = s := by show s % 256 + s / 256 % 256 * 256 + s / 65536 % 256 * 65536 + s / 16777216 % 256 * 16777216 = s; omega
  obtain ⟨f0, f1, f2, f3, f4, f5, f6, f7, f8⟩ := ptI_ino a b c d s p0 p1 p2 p3 p4 p5 p6 p7 p8 q0 q1 q2 q3 q4 q5 q6 q7 q8
  unfold DecR
  rw [e0, e1, e2, e3, e4, f0, f1, f2, f3, f4, f5, f6, f7, f8]
  exact .inl ⟨h, rfl, rfl⟩
set_option maxRecDepth 100000 in
set_option maxHeartbeats 2000000 in
theorem inodeWrites_bad (a b c d s : Int) (p0 p1 p2 p3 p4 p5 p6 p7 p8 : Nat) (w : World) (ht : Tab w) (hz : 0 < w.heap.size) (h : ¬ GoodI a b c d s) :
    Calls Tryd.prog 3 #[.agg (ino a b c d s p0 p1 p2 p3 p4 p5 p6 p7 p8)] w fun e w' => e = .returned (.bool true) ∧ Below w.heap.size w w' := by
  have hb0 := sup_below w (.cells (ino a b c d s p0 p1 p2 p3 p4 p5 p6 p7 p8) 25)
  have HB0 := Lib.hid hb0
  have HG0 := Lib.hid (blo_laid w 25 (ino a b c d s p0 p1 p2 p3 p4 p5 p6 p7 p8))
  have HAw := Lib.hid (awake_any (w.alloc (.cells (ino a b c d s p0 p1 p2 p3 p4 p5 p6 p7 p8) 25)) (ht.below hb0 hz) (Nat.lt_of_lt_of_le hz hb0.size))
  have HE := Lib.hid (fun W => encode_bad a b c d s p0 p1 p2 p3 p4 p5 p6 p7 p8 W h)
  have HN := Lib.hid (fun W => refGood_no a b c d s p0 p1 p2 p3 p4 p5 p6 p7 p8 W h)
  have HC := Lib.hid (fun W => check_bad a b c d s p0 p1 p2 p3 p4 p5 p6 p7 p8 W h)
  have HI : Hid ((Tryd.prog.info? 25).map (·.size) = some (ino a b c d s p0 p1 p2 p3 p4 p5 p6 p7 p8).size) := infoIno
  have hu := Tryd.underlying25
  clear h ht hb0
  go_enter Tryd.func3, Tryd.ntmps3
  go_wp2_with fail
  refine HAw.out.mono ?_
  rintro e w1 ⟨rfl, hb1⟩
  have HB1 : Hid (Below w.heap.size w w1) := HB0.out.trans (hb1.mono HB0.out.size)
  have HG1 := Lib.hid (HG0.out.later hb1)
  clear hb1 HG0
  go_wp2_with (refine wpList_load_row rfl 25 (.tmp 1) rfl w.heap.size rfl 25 (ino a b c d s p0 p1 p2 p3 p4 p5 p6 p7 p8) (0, 0) _ HG1.out hu rfl HI.out ?_)
  refine (HE.out _).mono ?_
  rintro e w2 ⟨rfl, hb2⟩
  have HB2 : Hid (Below w.heap.size w w2) := HB1.out.trans (hb2.mono HB1.out.size)
  have HG2 := Lib.hid (HG1.out.later hb2)
  clear hb2 HG1
  go_wp2_with (refine wpList_load_row rfl 25 (.tmp 1) rfl w.heap.size rfl 25 (ino a b c d s p0 p1 p2 p3 p4 p5 p6 p7 p8) (0, 0) _ HG2.out hu rfl HI.out ?_)
  refine (HN.out _).mono ?_
  rintro e w3 ⟨rfl, hb3⟩
  have HB3 : Hid (Below w.heap.size w w3) := HB2.out.trans (hb3.mono HB2.out.size)
  have HG3 := Lib.hid (HG2.out.later hb3)
  clear hb3 HG2
  have c0 : w3.cell? ⟨w.heap.size, 0, none⟩ = some (.int .i64 a) := by simpa using HG3.out.cell 0
  have c1 : w3.cell? ⟨w.heap.size, 1, none⟩ = some (.int .i64 b) := by simpa using HG3.out.cell 1
  have c2 : w3.cell? ⟨w.heap.size, 2, none⟩ = some (.int .i64 c) := by simpa using HG3.out.cell 2
  have c3 : w3.cell? ⟨w.heap.size, 3, none⟩ = some (.int .i64 d) := by simpa using HG3.out.cell 3
  have c4 : w3.cell? ⟨w.heap.size, 4, none⟩ = some (.int .i64 s) := by simpa using HG3.out.cell 4
  have c5 : w3.cell? ⟨w.heap.size, 5, none⟩ = some (.int .u32 p0) := by simpa using HG3.out.cell 5
  have c6 : w3.cell? ⟨w.heap.size, 6, none⟩ = some (.int .u32 p1) := by simpa using HG3.out.cell 6
  have c7 : w3.cell? ⟨w.heap.size, 7, none⟩ = some (.int .u32 p2) := by simpa using HG3.out.cell 7
  have c8 : w3.cell? ⟨w.heap.size, 8, none⟩ = some (.int .u32 p3) := by simpa using HG3.out.cell 8
  have c9 : w3.cell? ⟨w.heap.size, 9, none⟩ = some (.int .u32 p4) := by simpa using HG3.out.cell 9
  have c10 : w3.cell? ⟨w.heap.size, 10, none⟩ = some (.int .u32 p5) := by simpa using HG3.out.cell 10
  have c11 : w3.cell? ⟨w.heap.size, 11, none⟩ = some (.int .u32 p6) := by simpa using HG3.out.cell 11
  have c12 : w3.cell? ⟨w.heap.size, 12, none⟩ = some (.int .u32 p7) := by simpa using HG3.out.cell 12
  have c13 : w3.cell? ⟨w.heap.size, 13, none⟩ = some (.int .u32 p8) := by simpa using HG3.out.cell 13
  go_wp2_with fail
  refine (HC.out _).mono ?_
  rintro e w4 ⟨rfl, hb4⟩
  have HB4 : Hid (Below w.heap.size w w4) := HB3.out.trans (hb4.mono HB3.out.size)
  clear hb4 c0 c1 c2 c3 c4 c5 c6 c7 c8 c9 c10 c11 c12 c13
  go_wp2_with fail
  go_ret
  exact ⟨by first | rfl | simp, HB4.out⟩
set_option maxRecDepth 100000 in
set_option maxHeartbeats 4000000 in
theorem inodeWrites_good (a b c d s p0 p1 p2 p3 p4 p5 p6 p7 p8 : Nat) (w : World) (ht : Tab w) (hz : 0 < w.heap.size) (h : GoodI a b c d s) (q0 : p0 < 4294967296) (q1 : p1 < 4294967296) (q2 : p2 < 4294967296) (q3 : p3 < 4294967296) (q4 : p4 < 4294967296) (q5 : p5 < 4294967296) (q6 : p6 < 4294967296) (q7 : p7 < 4294967296) (q8 : p8 < 4294967296) :
    Calls Tryd.prog 3 #[.agg (ino a b c d s p0 p1 p2 p3 p4 p5 p6 p7 p8)] w fun e w' => e = .returned (.bool true) ∧ Below w.heap.size w w' := by
  have hb0 := sup_below w (.cells (ino a b c d s p0 p1 p2 p3 p4 p5 p6 p7 p8) 25)
  have HB0 := Lib.hid hb0
  have HT := Lib.hid ht
  have HG0 := Lib.hid (blo_laid w 25 (ino a b c d s p0 p1 p2 p3 p4 p5 p6 p7 p8))
  have HAw := Lib.hid (awake_any (w.alloc (.cells (ino a b c d s p0 p1 p2 p3 p4 p5 p6 p7 p8) 25)) (ht.below hb0 hz) (Nat.lt_of_lt_of_le hz hb0.size))
  have HE := Lib.hid (fun W ht hz => encode_good a b c d s p0 p1 p2 p3 p4 p5 p6 p7 p8 W ht hz h q0 q1 q2 q3 q4 q5 q6 q7 q8)
  have HN := Lib.hid (fun W => refGood_yes a b c d s p0 p1 p2 p3 p4 p5 p6 p7 p8 W h)
  have HC := Lib.hid (fun W => check_good a b c d s p0 p1 p2 p3 p4 p5 p6 p7 p8 W h)
  have HDR := Lib.hid (decR_ino a b c d s p0 p1 p2 p3 p4 p5 p6 p7 p8 h q0 q1 q2 q3 q4 q5 q6 q7 q8)
  have HRE := Lib.hid (fun W => refEncode_any a b c d s p0 p1 p2 p3 p4 p5 p6 p7 p8 W (by unfold GoodI at h; omega) (by unfold GoodI at h; omega) (by unfold GoodI at h; omega) (by unfold GoodI at h; omega) (by unfold GoodI at h; omega) (by simp [q0, q1, q2, q3, q4, q5, q6, q7, q8]))
  have HEq : ∀ W, (binOp .eql 25 (.agg (ino a b c d s p0 p1 p2 p3 p4 p5 p6 p7 p8)) (.agg (ino a b c d s p0 p1 p2 p3 p4 p5 p6 p7 p8))).run Tryd.prog W = .ok (.bool true) W := fun W => by
    have hF : FitI a b c d s p0 p1 p2 p3 p4 p5 p6 p7 p8 := by unfold GoodI at h; unfold FitI; omega
    obtain ⟨r, h1, h2⟩ := eql_ino a b c d s a b c d s p0 p1 p2 p3 p4 p5 p6 p7 p8 p0 p1 p2 p3 p4 p5 p6 p7 p8 hF hF W
    rw [h1, h2.2 (by simp)]
  have HEQ := Lib.hid HEq
  have HI : Hid ((Tryd.prog.info? 25).map (·.size) = some (ino a b c d s p0 p1 p2 p3 p4 p5 p6 p7 p8).size) := infoIno
  have hu := Tryd.underlying25
  have HML : Hid ((inoN a b c d s p0 p1 p2 p3 p4 p5 p6 p7 p8).length = 60) := inoN_length _ _ _ _ _ _ _ _ _ _ _ _ _ _
  have HM8 : Hid (∀ x ∈ inoN a b c d s p0 p1 p2 p3 p4 p5 p6 p7 p8, x < 256) := inoN_lt _ _ _ _ _ _ _ _ _ _ _ _ _ _
  clear h ht hb0 HEq
  generalize inoN a b c d s p0 p1 p2 p3 p4 p5 p6 p7 p8 = M at *
  have HSL : Hid (64 = (sealN M).length) := by show _ = _; rw [len4, HML.out]
  have HS8 : Hid (∀ x ∈ sealN M, x < 256) := sealN_lt HM8.out
  go_enter Tryd.func3, Tryd.ntmps3
  go_wp2_with fail
  refine HAw.out.mono ?_
  rintro e w1 ⟨rfl, hb1⟩
  have HB1 : Hid (Below w.heap.size w w1) := HB0.out.trans (hb1.mono HB0.out.size)
  have HG1 := Lib.hid (HG0.out.later hb1)
  clear hb1 HG0
  go_wp2_with (refine wpList_load_row rfl 25 (.tmp 1) rfl w.heap.size rfl 25 (ino a b c d s p0 p1 p2 p3 p4 p5 p6 p7 p8) (0, 0) _ HG1.out hu rfl HI.out ?_)
  refine (HE.out _ (HT.out.below HB1.out hz) (by have := HB1.out.size; omega)).mono ?_
  rintro e w2 ⟨g, rfl, hr2, hg2, hb2⟩
  have HB2 : Hid (Below w.heap.size w w2) := HB1.out.trans (hb2.mono HB1.out.size)
  have HG2 := Lib.hid (HG1.out.later hb2)
  have HY2 := Lib.hid (hr2.bytes HS8.out (by rw [← HSL.out]; decide))
  clear hb2 hr2 hg2 HG1
  go_wp2_with (refine wpList_load_row rfl 25 (.tmp 1) rfl w.heap.size rfl 25 (ino a b c d s p0 p1 p2 p3 p4 p5 p6 p7 p8) (0, 0) _ HG2.out hu rfl HI.out ?_)
  refine (HN.out _).mono ?_
  rintro e w3 ⟨rfl, hb3⟩
  have HB3 : Hid (Below w.heap.size w w3) := HB2.out.trans (hb3.mono HB2.out.size)
  have HG3 := Lib.hid (HG2.out.later hb3)
  have HY3 := Lib.hid (HY2.out.below hb3)
  clear hb3 HG2 HY2
  go_wp2_with fail
  refine (inDecode_sealed M HML.out (some ⟨g, 0, none⟩) 64 (Nat.le_refl _) _ (HT.out.below HB3.out hz) (by have := HB3.out.size; omega) HY3.out (fun e => by cases e) _ HDR.out).mono ?_
  rintro e w4 ⟨rfl, hb4⟩
  have HB4 : Hid (Below w.heap.size w w4) := HB3.out.trans (hb4.mono HB3.out.size)
  have HG4 := Lib.hid ((HG3.out.later hb4).alloc (.cells (ino a b c d s p0 p1 p2 p3 p4 p5 p6 p7 p8) 25))
  have HY4 := Lib.hid ((HY3.out.below hb4).below (sup_below w4 (.cells (ino a b c d s p0 p1 p2 p3 p4 p5 p6 p7 p8) 25)))
  have HN4 := Lib.hid (blo_laid w4 25 (ino a b c d s p0 p1 p2 p3 p4 p5 p6 p7 p8))
  have HB5 : Hid (Below w.heap.size w (w4.alloc (.cells (ino a b c d s p0 p1 p2 p3 p4 p5 p6 p7 p8) 25))) := HB4.out.alloc HB4.out.size _
  clear hb4 HG3 HY3
  go_wp2_with fail
  have hgm : w4.heap.size < (w4.alloc (.cells (ino a b c d s p0 p1 p2 p3 p4 p5 p6 p7 p8) 25)).heap.size := by simp
  generalize hg5 : w4.heap.size = gm at *
  have HG5 := Lib.hid hg5
  generalize (w4.alloc (.cells (ino a b c d s p0 p1 p2 p3 p4 p5 p6 p7 p8) 25)) = w5 at *
  clear hg5
  have KP : Hid (∀ W, Below w5.heap.size w5 W → W.cell? ⟨w.heap.size, 0, none⟩ = some (.int .i64 a) ∧ W.cell? ⟨w.heap.size, 1, none⟩ = some (.int .i64 b) ∧ W.cell? ⟨w.heap.size, 2, none⟩ = some (.int .i64 c) ∧ W.cell? ⟨w.heap.size, 3, none⟩ = some (.int .i64 d) ∧ W.cell? ⟨w.heap.size, 4, none⟩ = some (.int .i64 s) ∧ W.cell? ⟨w.heap.size, 5, none⟩ = some (.int .u32 p0) ∧ W.cell? ⟨w.heap.size, 6, none⟩ = some (.int .u32 p1) ∧ W.cell? ⟨w.heap.size, 7, none⟩ = some (.int .u32 p2) ∧ W.cell? ⟨w.heap.size, 8, none⟩ = some (.int .u32 p3) ∧ W.cell? ⟨w.heap.size, 9, none⟩ = some (.int .u32 p4) ∧ W.cell? ⟨w.heap.size, 10, none⟩ = some (.int .u32 p5) ∧ W.cell? ⟨w.heap.size, 11, none⟩ = some (.int .u32 p6) ∧ W.cell? ⟨w.heap.size, 12, none⟩ = some (.int .u32 p7) ∧ W.cell? ⟨w.heap.size, 13, none⟩ = some (.int .u32 p8) ∧ W.cell? ⟨gm, 0, none⟩ = some (.int .i64 a) ∧ W.cell? ⟨gm, 1, none⟩ = some (.int .i64 b) ∧ W.cell? ⟨gm, 2, none⟩ = some (.int .i64 c) ∧ W.cell? ⟨gm, 3, none⟩ = some (.int .i64 d) ∧ W.cell? ⟨gm, 4, none⟩ = some (.int .i64 s) ∧ W.cell? ⟨gm, 5, none⟩ = some (.int .u32 p0) ∧ W.cell? ⟨gm, 6, none⟩ = some (.int .u32 p1) ∧ W.cell? ⟨gm, 7, none⟩ = some (.int .u32 p2) ∧ W.cell? ⟨gm, 8, none⟩ = some (.int .u32 p3) ∧ W.cell? ⟨gm, 9, none⟩ = some (.int .u32 p4) ∧ W.cell? ⟨gm, 10, none⟩ = some (.int .u32 p5) ∧ W.cell? ⟨gm, 11, none⟩ = some (.int .u32 p6) ∧ W.cell? ⟨gm, 12, none⟩ = some (.int .u32 p7) ∧ W.cell? ⟨gm, 13, none⟩ = some (.int .u32 p8) ∧ (convert 27 9 (.slice (some ⟨g, 0, none⟩) 64 64)).run Tryd.prog W = .ok (.string (strOf (sealN M))) W) := fun W hb => ⟨by simpa using (HG4.out.later hb).cell 0, by simpa using (HG4.out.later hb).cell 1, by simpa using (HG4.out.later hb).cell 2, by simpa using (HG4.out.later hb).cell 3, by simpa using (HG4.out.later hb).cell 4, by simpa using (HG4.out.later hb).cell 5, by simpa using (HG4.out.later hb).cell 6, by simpa using (HG4.out.later hb).cell 7, by simpa using (HG4.out.later hb).cell 8, by simpa using (HG4.out.later hb).cell 9, by simpa using (HG4.out.later hb).cell 10, by simpa using (HG4.out.later hb).cell 11, by simpa using (HG4.out.later hb).cell 12, by simpa using (HG4.out.later hb).cell 13, by simpa using (HN4.out.later hb).cell 0, by simpa using (HN4.out.later hb).cell 1, by simpa using (HN4.out.later hb).cell 2, by simpa using (HN4.out.later hb).cell 3, by simpa using (HN4.out.later hb).cell 4, by simpa using (HN4.out.later hb).cell 5, by simpa using (HN4.out.later hb).cell 6, by simpa using (HN4.out.later hb).cell 7, by simpa using (HN4.out.later hb).cell 8, by simpa using (HN4.out.later hb).cell 9, by simpa using (HN4.out.later hb).cell 10, by simpa using (HN4.out.later hb).cell 11, by simpa using (HN4.out.later hb).cell 12, by simpa using (HN4.out.later hb).cell 13, run_str W 27 9 5 Tryd.underlying27 Tryd.underlying5 Tryd.underlying9 _ _ 64 64 HSL.out (HY4.out.below hb)⟩
  clear HG4 HN4
  have hse := HEQ.out
  go_region_held (fun W => W.cell? ⟨w.heap.size, 0, none⟩ = some (.int .i64 a) ∧ W.cell? ⟨w.heap.size, 1, none⟩ = some (.int .i64 b) ∧ W.cell? ⟨w.heap.size, 2, none⟩ = some (.int .i64 c) ∧ W.cell? ⟨w.heap.size, 3, none⟩ = some (.int .i64 d) ∧ W.cell? ⟨w.heap.size, 4, none⟩ = some (.int .i64 s) ∧ W.cell? ⟨w.heap.size, 5, none⟩ = some (.int .u32 p0) ∧ W.cell? ⟨w.heap.size, 6, none⟩ = some (.int .u32 p1) ∧ W.cell? ⟨w.heap.size, 7, none⟩ = some (.int .u32 p2) ∧ W.cell? ⟨w.heap.size, 8, none⟩ = some (.int .u32 p3) ∧ W.cell? ⟨w.heap.size, 9, none⟩ = some (.int .u32 p4) ∧ W.cell? ⟨w.heap.size, 10, none⟩ = some (.int .u32 p5) ∧ W.cell? ⟨w.heap.size, 11, none⟩ = some (.int .u32 p6) ∧ W.cell? ⟨w.heap.size, 12, none⟩ = some (.int .u32 p7) ∧ W.cell? ⟨w.heap.size, 13, none⟩ = some (.int .u32 p8) ∧ W.cell? ⟨gm, 0, none⟩ = some (.int .i64 a) ∧ W.cell? ⟨gm, 1, none⟩ = some (.int .i64 b) ∧ W.cell? ⟨gm, 2, none⟩ = some (.int .i64 c) ∧ W.cell? ⟨gm, 3, none⟩ = some (.int .i64 d) ∧ W.cell? ⟨gm, 4, none⟩ = some (.int .i64 s) ∧ W.cell? ⟨gm, 5, none⟩ = some (.int .u32 p0) ∧ W.cell? ⟨gm, 6, none⟩ = some (.int .u32 p1) ∧ W.cell? ⟨gm, 7, none⟩ = some (.int .u32 p2) ∧ W.cell? ⟨gm, 8, none⟩ = some (.int .u32 p3) ∧ W.cell? ⟨gm, 9, none⟩ = some (.int .u32 p4) ∧ W.cell? ⟨gm, 10, none⟩ = some (.int .u32 p5) ∧ W.cell? ⟨gm, 11, none⟩ = some (.int .u32 p6) ∧ W.cell? ⟨gm, 12, none⟩ = some (.int .u32 p7) ∧ W.cell? ⟨gm, 13, none⟩ = some (.int .u32 p8) ∧ (convert 27 9 (.slice (some ⟨g, 0, none⟩) 64 64)).run Tryd.prog W = .ok (.string (strOf (sealN M))) W)
    (first | exact KP.out _ HBy.out | exact KP.out _ HBx.out | exact KP.out _ ((Below.refl _ _).drew) | fail)
    ((first | (go_at_call 13; refine (HC.out _).mono ?_; rintro e wx ⟨rfl, hbx⟩; have HBx : Hid (Below w5.heap.size w5 wx) := ((Below.refl _ _).drew).trans hbx; clear hbx) | (go_at_call 15; refine (HRE.out _).mono ?_; rintro e wy ⟨ay, cy, rfl, hYy, hby⟩; have HBy : Hid (Below w5.heap.size w5 wy) := HBx.out.trans (hby.mono HBx.out.size); have hcy := run_str wy 27 9 5 Tryd.underlying27 Tryd.underlying5 Tryd.underlying9 _ ay 64 cy HSL.out hYy; clear hYy hby)))
  clear KP
  go_wp2_with fail
  go_ret
  exact ⟨by first | rfl | simp, HB5.out.trans (HBy.out.mono HB5.out.size)⟩
theorem inodeWrites_walk (a b c d s : Int) (p0 p1 p2 p3 p4 p5 p6 p7 p8 : Nat) (w : World) (hL : Tab w ∧ 0 < w.heap.size) (h1 : FitI a b c d s p0 p1 p2 p3 p4 p5 p6 p7 p8) :
    Calls Tryd.prog 3 #[.agg (ino a b c d s p0 p1 p2 p3 p4 p5 p6 p7 p8)] w fun e w' => e = .returned (.bool true) ∧ Below w.heap.size w w' := by
  obtain ⟨_, _, _, _, _, q0, q1, q2, q3, q4, q5, q6, q7, q8⟩ := h1
  by_cases hg : GoodI a b c d s
  · have hg0 := hg
    obtain ⟨e1, e2, e3, e4, e5, e6, e7, e8, e9, e10⟩ := hg
    obtain ⟨A, rfl⟩ := Int.eq_ofNat_of_zero_le (show 0 ≤ a by omega)
    obtain ⟨B, rfl⟩ := Int.eq_ofNat_of_zero_le (show 0 ≤ b by omega)
    obtain ⟨C, rfl⟩ := Int.eq_ofNat_of_zero_le (show 0 ≤ c by omega)
    obtain ⟨D, rfl⟩ := Int.eq_ofNat_of_zero_le (show 0 ≤ d by omega)
    obtain ⟨S, rfl⟩ := Int.eq_ofNat_of_zero_le (show 0 ≤ s by omega)
    exact inodeWrites_good A B C D S p0 p1 p2 p3 p4 p5 p6 p7 p8 w hL.1 hL.2 hg0 q0 q1 q2 q3 q4 q5 q6 q7 q8
  · exact inodeWrites_bad a b c d s p0 p1 p2 p3 p4 p5 p6 p7 p8 w hL.1 hL.2 hg
end Go.Proofs.YtfkobamemehkdaaDoor
