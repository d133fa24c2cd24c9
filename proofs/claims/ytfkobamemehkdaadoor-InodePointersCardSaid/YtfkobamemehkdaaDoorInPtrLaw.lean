/-
  The walk of InodePointers: pointers and their blocks lead there and back; other lengths are refused.
-/
import Derived.Test.YtfkobamemehkdaaDoorInPtrMath
import Derived.Test.YtfkobamemehkdaaDoorInAwake
import Derived.Deep.RegionHeld
namespace Go.Proofs.YtfkobamemehkdaaDoor
open Go.RowKit

def XRel (w5 : World) (g : Nat) (i : Value) (wr : World) : Prop :=
  ∃ (k : Nat) (l' : List Nat), k ≤ 64 ∧ i = .int .i64 k ∧ l'.length = 64 ∧ (∀ x ∈ l', x < 256) ∧ Row wr g l' ∧ Below g w5 wr
set_option maxRecDepth 100000 in
set_option maxHeartbeats 4000000 in
theorem inodePointers_in (p0 p1 p2 p3 p4 p5 p6 p7 p8 p9 p10 p11 p12 p13 p14 p15 : Nat) (l : List Nat) (n : Nat) (hn : n = l.length) (hmax : n ≤ 1000) (a0 : Option Addr) (cap0 : Nat) (hc : n ≤ cap0) (w : World) (ht : Tab w) (hz : 0 < w.heap.size) (h : Bytes w a0 l) (ha : a0 = none → l = [] ∧ cap0 = 0) (q0 : p0 < 4294967296) (q1 : p1 < 4294967296) (q2 : p2 < 4294967296) (q3 : p3 < 4294967296) (q4 : p4 < 4294967296) (q5 : p5 < 4294967296) (q6 : p6 < 4294967296) (q7 : p7 < 4294967296) (q8 : p8 < 4294967296) (q9 : p9 < 4294967296) (q10 : p10 < 4294967296) (q11 : p11 < 4294967296) (q12 : p12 < 4294967296) (q13 : p13 < 4294967296) (q14 : p14 < 4294967296) (q15 : p15 < 4294967296) :
    Calls Tryd.prog 5 #[.agg (ptrs p0 p1 p2 p3 p4 p5 p6 p7 p8 p9 p10 p11 p12 p13 p14 p15), .slice a0 n cap0] w fun e w' => e = .returned (.bool true) ∧ Below w.heap.size w w' := by
  have hb0 := sup_below w (.cells (ptrs p0 p1 p2 p3 p4 p5 p6 p7 p8 p9 p10 p11 p12 p13 p14 p15) 39)
  have HB0 := Lib.hid hb0
  have HG0 := Lib.hid (blo_laid w 39 (ptrs p0 p1 p2 p3 p4 p5 p6 p7 p8 p9 p10 p11 p12 p13 p14 p15))
  have HAw := Lib.hid (awake_any (w.alloc (.cells (ptrs p0 p1 p2 p3 p4 p5 p6 p7 p8 p9 p10 p11 p12 p13 p14 p15) 39)) (ht.below hb0 hz) (Nat.lt_of_lt_of_le hz hb0.size))
  have HBP := Lib.hid (fun W => block_any p0 p1 p2 p3 p4 p5 p6 p7 p8 p9 p10 p11 p12 p13 p14 p15 W q0 q1 q2 q3 q4 q5 q6 q7 q8 q9 q10 q11 q12 q13 q14 q15)
  have HRB := Lib.hid (fun W => refBlock_any p0 p1 p2 p3 p4 p5 p6 p7 p8 p9 p10 p11 p12 p13 p14 p15 W q0 q1 q2 q3 q4 q5 q6 q7 q8 q9 q10 q11 q12 q13 q14 q15)
  have HPC := Lib.hid (ptV_blk p0 p1 p2 p3 p4 p5 p6 p7 p8 p9 p10 p11 p12 p13 p14 p15 q0 q1 q2 q3 q4 q5 q6 q7 q8 q9 q10 q11 q12 q13 q14 q15)
  have HEq := Lib.hid (fun W => eql_ptrs p0 p1 p2 p3 p4 p5 p6 p7 p8 p9 p10 p11 p12 p13 p14 p15 p0 p1 p2 p3 p4 p5 p6 p7 p8 p9 p10 p11 p12 p13 p14 p15 q0 q1 q2 q3 q4 q5 q6 q7 q8 q9 q10 q11 q12 q13 q14 q15 q0 q1 q2 q3 q4 q5 q6 q7 q8 q9 q10 q11 q12 q13 q14 q15 W)
  have HML : Hid (64 = (blkN p0 p1 p2 p3 p4 p5 p6 p7 p8 p9 p10 p11 p12 p13 p14 p15).length) := by show _ = _; rw [blkN_length]
  have HM8 : Hid (∀ x ∈ blkN p0 p1 p2 p3 p4 p5 p6 p7 p8 p9 p10 p11 p12 p13 p14 p15, x < 256) := blkN_lt p0 p1 p2 p3 p4 p5 p6 p7 p8 p9 p10 p11 p12 p13 p14 p15
  have HN := Lib.hid hn
  have H := Lib.hid h
  have HA := Lib.hid ha
  have hi : (Tryd.prog.info? 39).map (·.size) = some ([Value.int .u32 p0, Value.int .u32 p1, Value.int .u32 p2, Value.int .u32 p3, Value.int .u32 p4, Value.int .u32 p5, Value.int .u32 p6, Value.int .u32 p7, Value.int .u32 p8, Value.int .u32 p9, Value.int .u32 p10, Value.int .u32 p11, Value.int .u32 p12, Value.int .u32 p13, Value.int .u32 p14, Value.int .u32 p15] : List Value).length := info16
  have HI : Hid ((Tryd.prog.info? 39).map (·.size) = some (ptrs p0 p1 p2 p3 p4 p5 p6 p7 p8 p9 p10 p11 p12 p13 p14 p15).size) := info16
  have hu := Tryd.underlying39
  clear hb0 ht h ha hn
  generalize blkN p0 p1 p2 p3 p4 p5 p6 p7 p8 p9 p10 p11 p12 p13 p14 p15 = M at *
  go_enter Tryd.func5, Tryd.ntmps5
  go_wp2_with fail
  refine HAw.out.mono ?_
  rintro e w1 ⟨rfl, hb1⟩
  have HB1 : Hid (Below w.heap.size w w1) := HB0.out.trans (hb1.mono HB0.out.size)
  have HG1 := Lib.hid (HG0.out.later hb1)
  clear hb1 HG0
  go_wp2_with (refine wpList_load_row rfl 39 (.tmp 2) rfl w.heap.size rfl 39 (ptrs p0 p1 p2 p3 p4 p5 p6 p7 p8 p9 p10 p11 p12 p13 p14 p15) (0, 0) _ HG1.out hu rfl HI.out ?_)
  refine (HBP.out _).mono ?_
  rintro e w2 ⟨g, rfl, hr2, hg2, hb2⟩
  have HB2 : Hid (Below w.heap.size w w2) := HB1.out.trans (hb2.mono HB1.out.size)
  have hgw : w.heap.size < g := Nat.lt_of_lt_of_le HG1.out.lt hg2
  have HG2 := Lib.hid (HG1.out.later hb2)
  have HR2 := Lib.hid hr2
  have HY2 := Lib.hid (hr2.bytes HM8.out (by rw [← HML.out]; decide))
  have hg2' : g < w2.heap.size := by
    rcases Nat.lt_or_ge g w2.heap.size with h' | h'
    · exact h'
    · unfold Row at hr2
      rw [Array.getElem?_eq_none h'] at hr2; cases hr2
  clear hb2 hr2 hg2 HG1
  go_wp2_with fail
  refine (pointers_eq M HML.out (some ⟨g, 0, none⟩) 64 (Nat.le_refl _) _ HY2.out _ HPC.out).mono ?_
  rintro e w3 ⟨rfl, hb3⟩
  have HB3 : Hid (Below w.heap.size w w3) := HB2.out.trans (hb3.mono HB2.out.size)
  have HB4 : Hid (Below w.heap.size w (w3.alloc (.cells (ptrs p0 p1 p2 p3 p4 p5 p6 p7 p8 p9 p10 p11 p12 p13 p14 p15) 39))) := HB3.out.alloc HB3.out.size _
  have HG4 := Lib.hid ((HG2.out.later hb3).alloc (.cells (ptrs p0 p1 p2 p3 p4 p5 p6 p7 p8 p9 p10 p11 p12 p13 p14 p15) 39))
  have HN4 := Lib.hid (blo_laid w3 39 (ptrs p0 p1 p2 p3 p4 p5 p6 p7 p8 p9 p10 p11 p12 p13 p14 p15))
  have HR4 : Hid (Row (w3.alloc (.cells (ptrs p0 p1 p2 p3 p4 p5 p6 p7 p8 p9 p10 p11 p12 p13 p14 p15) 39)) g M) := (HR2.out.below hb3 hg2').below (sup_below w3 _) (by have := hb3.size; omega)
  have HY4 := Lib.hid ((HY2.out.below hb3).below (sup_below w3 (.cells (ptrs p0 p1 p2 p3 p4 p5 p6 p7 p8 p9 p10 p11 p12 p13 p14 p15) 39)))
  have hg4 : g < (w3.alloc (.cells (ptrs p0 p1 p2 p3 p4 p5 p6 p7 p8 p9 p10 p11 p12 p13 p14 p15) 39)).heap.size := by have := hb3.size; simp; omega
  clear hb3 HG2 HR2 HY2
  go_wp2_with fail
  generalize hg6 : w3.heap.size = g6 at *
  have HG6 := Lib.hid hg6
  generalize (w3.alloc (.cells (ptrs p0 p1 p2 p3 p4 p5 p6 p7 p8 p9 p10 p11 p12 p13 p14 p15) 39)) = w0 at *
  clear hg6
  have KP : Hid (∀ W, Below w0.heap.size w0 W → W.rangeAt w.heap.size 0 [Value.int .u32 p0, Value.int .u32 p1, Value.int .u32 p2, Value.int .u32 p3, Value.int .u32 p4, Value.int .u32 p5, Value.int .u32 p6, Value.int .u32 p7, Value.int .u32 p8, Value.int .u32 p9, Value.int .u32 p10, Value.int .u32 p11, Value.int .u32 p12, Value.int .u32 p13, Value.int .u32 p14, Value.int .u32 p15] ∧ W.rangeAt g6 0 [Value.int .u32 p0, Value.int .u32 p1, Value.int .u32 p2, Value.int .u32 p3, Value.int .u32 p4, Value.int .u32 p5, Value.int .u32 p6, Value.int .u32 p7, Value.int .u32 p8, Value.int .u32 p9, Value.int .u32 p10, Value.int .u32 p11, Value.int .u32 p12, Value.int .u32 p13, Value.int .u32 p14, Value.int .u32 p15] ∧ (convert 27 9 (.slice (some ⟨g, 0, none⟩) 64 64)).run Tryd.prog W = .ok (.string (strOf M)) W) := fun W hb => ⟨Blo.range (HG4.out.later hb) _ rfl, Blo.range (HN4.out.later hb) _ rfl, run_str W 27 9 5 Tryd.underlying27 Tryd.underlying5 Tryd.underlying9  _ _ 64 64 HML.out (HY4.out.below hb)⟩
  have hse : ∀ W, (binOp .neq 39 (.agg (ptrs p0 p1 p2 p3 p4 p5 p6 p7 p8 p9 p10 p11 p12 p13 p14 p15)) (.agg (ptrs p0 p1 p2 p3 p4 p5 p6 p7 p8 p9 p10 p11 p12 p13 p14 p15))).run Tryd.prog W = .ok (.bool false) W := fun W => neq_ptrs p0 p1 p2 p3 p4 p5 p6 p7 p8 p9 p10 p11 p12 p13 p14 p15 q0 q1 q2 q3 q4 q5 q6 q7 q8 q9 q10 q11 q12 q13 q14 q15 W
  have hse2 : ∀ W, (binOp .eql 39 (.agg (ptrs p0 p1 p2 p3 p4 p5 p6 p7 p8 p9 p10 p11 p12 p13 p14 p15)) (.agg (ptrs p0 p1 p2 p3 p4 p5 p6 p7 p8 p9 p10 p11 p12 p13 p14 p15))).run Tryd.prog W = .ok (.bool true) W := fun W => by
    obtain ⟨r, h1, h2⟩ := HEq.out W
    rw [h1, h2.2 (by simp)]
  clear HEq hse2
  refine wp_region_held_drew (S := (fun W => W.rangeAt w.heap.size 0 [Value.int .u32 p0, Value.int .u32 p1, Value.int .u32 p2, Value.int .u32 p3, Value.int .u32 p4, Value.int .u32 p5, Value.int .u32 p6, Value.int .u32 p7, Value.int .u32 p8, Value.int .u32 p9, Value.int .u32 p10, Value.int .u32 p11, Value.int .u32 p12, Value.int .u32 p13, Value.int .u32 p14, Value.int .u32 p15] ∧ W.rangeAt g6 0 [Value.int .u32 p0, Value.int .u32 p1, Value.int .u32 p2, Value.int .u32 p3, Value.int .u32 p4, Value.int .u32 p5, Value.int .u32 p6, Value.int .u32 p7, Value.int .u32 p8, Value.int .u32 p9, Value.int .u32 p10, Value.int .u32 p11, Value.int .u32 p12, Value.int .u32 p13, Value.int .u32 p14, Value.int .u32 p15] ∧ (convert 27 9 (.slice (some ⟨g, 0, none⟩) 64 64)).run Tryd.prog W = .ok (.string (strOf M)) W)) (by kernel_rfl) (KP.out _ ((Below.refl _ _).drew)) (fun hHeld => ?_)
  refine wpAnyH_take (i := 0) (oi := ⟨some 26, _, _, _, _, _⟩) (v := .slice (some ⟨g, 0, none⟩) 64 64) rfl (by kernel_rfl) (by kernel_rfl) (by kernel_rfl) (fun _ _ _ h => h) (Or.inl ⟨by rfl, fun W hW => by first | (go_simp; done) | (go_simp; rfl) | (simp [*]; done) | (obtain ⟨hW1, hW2, hW3⟩ := hW; go_simp; done)⟩) (by assumption) ?_
  simp only [Act.put, List.setIfInBounds_toArray, List.set_cons_zero, List.set_cons_succ]
  refine wpAnyH_take (i := 1) (oi := ⟨some 27, _, _, _, _, _⟩) (v := .string (strOf M)) rfl (by kernel_rfl) (by kernel_rfl) (by kernel_rfl) (fun _ _ _ h => h) (Or.inl ⟨by rfl, fun W hW => by first | (go_simp; done) | (go_simp; rfl) | (simp [*]; done) | (obtain ⟨hW1, hW2, hW3⟩ := hW; go_simp; done)⟩) (by assumption) ?_
  simp only [Act.put, List.setIfInBounds_toArray, List.set_cons_zero, List.set_cons_succ]
  refine wpAnyH_take (i := 2) (oi := ⟨some 28, _, _, _, _, _⟩) rfl (by kernel_rfl) (by kernel_rfl) (by kernel_rfl) (fun _ _ _ h => h) (yieldsIf_load_mid (by rfl) _ _ rfl _ _ rfl _ _ (fun W hW => hW.1) hu rfl hi) (by assumption) ?_
  simp only [Act.put, List.setIfInBounds_toArray, List.set_cons_zero, List.set_cons_succ]
  refine wpAnyH_ready (rs := [3]) (by kernel_rfl) (by simp) ?_
  refine AllReadyH.cons rfl (fun K hK => ?_) AllReadyH.nil
  go_simp
  go_wp2_with ((go_at_call 19; refine (HRB.out _).mono ?_; rintro e wx ⟨awx, cwx, rfl, hYwx, _, hbwx⟩; have HBwx : Hid (Below w0.heap.size w0 wx) := ((Below.refl _ _).drew).trans hbwx; have hcwx := run_str wx 27 9 5 Tryd.underlying27 Tryd.underlying5 Tryd.underlying9 _ awx 64 cwx HML.out hYwx; clear hYwx hbwx))
  refine hK.out _ _ (KP.out _ HBwx.out) (fun hHeld => ?_)
  clear hK K
  refine wpAnyH_ready (rs := [4]) (by kernel_rfl) (by simp) ?_
  refine AllReadyH.cons rfl (fun K hK => ?_) AllReadyH.nil
  go_simp
  refine hK.out _ _ (KP.out _ HBwx.out) (fun hHeld => ?_)
  clear hK K
  refine wpAnyH_take (i := 5) (oi := ⟨some 31, _, _, _, _, _⟩) (v := .bool false) rfl (by kernel_rfl) (by kernel_rfl) (by kernel_rfl) (fun _ _ _ h => h) (Or.inl ⟨by rfl, fun W hW => by first | (go_simp; done) | (go_simp; rfl) | (simp [*]; done) | (obtain ⟨hW1, hW2, hW3⟩ := hW; go_simp; done)⟩) (by assumption) ?_
  simp only [Act.put, List.setIfInBounds_toArray, List.set_cons_zero, List.set_cons_succ]
  refine wpAnyH_take (i := 6) (oi := ⟨some 32, _, _, _, _, _⟩) (v := .bool false) rfl (by kernel_rfl) (by kernel_rfl) (by kernel_rfl) (fun _ _ _ h => h) (Or.inl ⟨by rfl, fun W hW => by first | (go_simp; done) | (go_simp; rfl) | (simp [*]; done) | (obtain ⟨hW1, hW2, hW3⟩ := hW; go_simp; done)⟩) (by assumption) ?_
  simp only [Act.put, List.setIfInBounds_toArray, List.set_cons_zero, List.set_cons_succ]
  refine wpAnyH_take (i := 7) (oi := ⟨some 33, _, _, _, _, _⟩) (v := .int .i64 0) rfl (by kernel_rfl) (by kernel_rfl) (by kernel_rfl) (fun _ _ _ h => h) (Or.inl ⟨by rfl, fun W hW => by first | (go_simp; done) | (go_simp; rfl) | (simp [*]; done) | (obtain ⟨hW1, hW2, hW3⟩ := hW; go_simp; done)⟩) (by assumption) ?_
  simp only [Act.put, List.setIfInBounds_toArray, List.set_cons_zero, List.set_cons_succ]
  refine wpAnyH_take (i := 8) (oi := ⟨some 34, _, _, _, _, _⟩) (v := .bool false) rfl (by kernel_rfl) (by kernel_rfl) (by kernel_rfl) (fun _ _ _ h => h) (Or.inl ⟨by rfl, fun W hW => by first | (go_simp; done) | (go_simp; rfl) | (simp [*]; done) | (obtain ⟨hW1, hW2, hW3⟩ := hW; go_simp; done)⟩) (by assumption) ?_
  simp only [Act.put, List.setIfInBounds_toArray, List.set_cons_zero, List.set_cons_succ]
  refine wpAnyH_take (i := 9) (oi := ⟨some 35, _, _, _, _, _⟩) (v := .bool false) rfl (by kernel_rfl) (by kernel_rfl) (by kernel_rfl) (fun _ _ _ h => h) (Or.inl ⟨by rfl, fun W hW => by first | (go_simp; done) | (go_simp; rfl) | (simp [*]; done) | (obtain ⟨hW1, hW2, hW3⟩ := hW; go_simp; done)⟩) (by assumption) ?_
  simp only [Act.put, List.setIfInBounds_toArray, List.set_cons_zero, List.set_cons_succ]
  refine wpAnyH_take (i := 10) (oi := ⟨some 36, _, _, _, _, _⟩) (v := .bool false) rfl (by kernel_rfl) (by kernel_rfl) (by kernel_rfl) (fun _ _ _ h => h) (Or.inl ⟨by rfl, fun W hW => by first | (go_simp; done) | (go_simp; rfl) | (simp [*]; done) | (obtain ⟨hW1, hW2, hW3⟩ := hW; go_simp; done)⟩) (by assumption) ?_
  simp only [Act.put, List.setIfInBounds_toArray, List.set_cons_zero, List.set_cons_succ]
  refine wpAnyH_take (i := 11) (oi := ⟨some 37, _, _, _, _, _⟩) rfl (by kernel_rfl) (by kernel_rfl) (by kernel_rfl) (fun _ _ _ h => h) (yieldsIf_load_mid (by rfl) _ _ rfl _ _ rfl _ _ (fun W hW => hW.2.1) hu rfl hi) (by assumption) ?_
  simp only [Act.put, List.setIfInBounds_toArray, List.set_cons_zero, List.set_cons_succ]
  refine wpAnyH_take (i := 12) (oi := ⟨some 38, _, _, _, _, _⟩) rfl (by kernel_rfl) (by kernel_rfl) (by kernel_rfl) (fun _ _ _ h => h) (yieldsIf_load_mid (by rfl) _ _ rfl _ _ rfl _ _ (fun W hW => hW.1) hu rfl hi) (by assumption) ?_
  simp only [Act.put, List.setIfInBounds_toArray, List.set_cons_zero, List.set_cons_succ]
  refine wpAnyH_take (i := 13) (oi := ⟨some 39, _, _, _, _, _⟩) (v := .bool false) rfl (by kernel_rfl) (by kernel_rfl) (by kernel_rfl) (fun _ _ _ h => h) (Or.inl ⟨by rfl, fun W hW => by first | (go_simp; done) | (go_simp; rfl) | (simp [*]; done) | (obtain ⟨hW1, hW2, hW3⟩ := hW; go_simp; done)⟩) (by assumption) ?_
  simp only [Act.put, List.setIfInBounds_toArray, List.set_cons_zero, List.set_cons_succ]
  refine wpAnyH_take (i := 14) (oi := ⟨some 40, _, _, _, _, _⟩) (v := .bool false) rfl (by kernel_rfl) (by kernel_rfl) (by kernel_rfl) (fun _ _ _ h => h) (Or.inl ⟨by rfl, fun W hW => by first | (go_simp; done) | (go_simp; rfl) | (simp [*]; done) | (obtain ⟨hW1, hW2, hW3⟩ := hW; go_simp; done)⟩) (by assumption) ?_
  simp only [Act.put, List.setIfInBounds_toArray, List.set_cons_zero, List.set_cons_succ]
  refine wpAnyH_done (by kernel_rfl) ?_ _
  clear KP hse
  have hRx : Row wx g M := HR4.out.below HBwx.out hg4
  have hgx : g < wx.heap.size := by have := HBwx.out.size; omega
  have HGx := Lib.hid (HG4.out.later HBwx.out)
  have HBx : Hid (Below w.heap.size w wx) := HB4.out.trans (HBwx.out.mono HB4.out.size)
  have HRx := Lib.hid hRx
  clear hRx HG4 HN4 HR4 HY4
  go_wp2_with fail
  go_loopw [43] (fun i wr => XRel wx g i wr) (fun i _ => 64 - (intOf i).toNat)
  case atStart => exact ⟨0, M, by omega, rfl, HML.out.symm, HM8.out, HRx.out, Below.refl _ _⟩
  case round =>
    obtain ⟨k, l', hk, rfl, hl', h8', hr', hb'⟩ := hrel
    have HL' := Lib.hid hl'
    have H8' := Lib.hid h8'
    have HR' := Lib.hid hr'
    have HB' := Lib.hid hb'
    clear hl' h8' hr' hb'
    by_cases hlt : k < 64
    · have hco := HR'.out.cell k (by rw [HL'.out]; exact hlt)
      have hfr := HR'.out.frozen k
      have hx8 := getD_byte H8'.out k
      generalize l'.getD k 0 = x at *
      go_wp2_with fail
      go_roundw
      case rel =>
        have hx := HR'.out.set k ((x + 1) % 256)
        refine ⟨k + 1, l'.set k ((x + 1) % 256), by omega, by simp, by rw [List.length_set]; exact HL'.out, fun y hy => ?_, ?_, HB'.out.setCell (p := ⟨g, k, none⟩) (Nat.le_refl _) _⟩
        · rcases List.mem_or_eq_of_mem_set hy with h1 | h1
          · exact H8'.out y h1
          · omega
        · simpa using hx
      case measure => simp [intOf]; omega
    · obtain rfl : k = 64 := by omega
      clear hlt
      have HBr : Hid (Below w.heap.size w wr) := HBx.out.trans (HB'.out.mono (by omega))
      have HGr := Lib.hid (HGx.out.below HB'.out hgw)
      have HYr := Lib.hid (H.out.below HBr.out)
      clear HGx HR' HB' HL' H8'
      go_wp2_with (at_builtin; refine wp_append_bytes rfl (.tmp 54) (.tmp 55) 27 rfl wr.heap.size 5 Tryd.underlying27 info_u8 _ 0 [] rfl (World.ownsRow_lit wr #[] 0 (Nat.le_refl _) (by unfold maxLen; omega) rfl) (by simp) a0 n cap0 l rfl HN.out (HYr.out.below ((Below.refl _ _).alloc (Nat.le_refl _) _)) HA.out (by omega) (by simp) ?_; intro a9 cap9 w6 hown hgr hB hn9; have HBg : Hid (Below wr.heap.size wr w6) := ((Below.refl _ _).alloc (Nat.le_refl _) _).grown hgr (by simp) (fun k hk => by cases hk; exact Nat.le_refl _); have HCp := Lib.hid (copied_of HBr.out HN.out hown _ hgr (fun k hk => by cases hk; exact Nat.le_refl _) hB); clear hown hgr hB hn9)
      by_cases hn64 : n = 64
      · subst hn64
        have HPE := Lib.hid (fun W h => pointers_eq l HN.out a9 cap9 HCp.out.cap W h _ (pcells_all l))
        have HBR : Hid (∀ W, Calls Tryd.prog 17 #[.agg (ptrs (ptV l 0) (ptV l 1) (ptV l 2) (ptV l 3) (ptV l 4) (ptV l 5) (ptV l 6) (ptV l 7) (ptV l 8) (ptV l 9) (ptV l 10) (ptV l 11) (ptV l 12) (ptV l 13) (ptV l 14) (ptV l 15))] W (Blocked W l)) := fun W => by
          have h1 := block_any (ptV l 0) (ptV l 1) (ptV l 2) (ptV l 3) (ptV l 4) (ptV l 5) (ptV l 6) (ptV l 7) (ptV l 8) (ptV l 9) (ptV l 10) (ptV l 11) (ptV l 12) (ptV l 13) (ptV l 14) (ptV l 15) W (ptV_lt H.out.1 0) (ptV_lt H.out.1 1) (ptV_lt H.out.1 2) (ptV_lt H.out.1 3) (ptV_lt H.out.1 4) (ptV_lt H.out.1 5) (ptV_lt H.out.1 6) (ptV_lt H.out.1 7) (ptV_lt H.out.1 8) (ptV_lt H.out.1 9) (ptV_lt H.out.1 10) (ptV_lt H.out.1 11) (ptV_lt H.out.1 12) (ptV_lt H.out.1 13) (ptV_lt H.out.1 14) (ptV_lt H.out.1 15)
          rw [blk_ptV l HN.out.symm H.out.1] at h1
          exact h1
        have HLL : Hid (64 = l.length) := HN.out
        have HL8 : Hid (∀ x ∈ l, x < 256) := H.out.1
        generalize ptV l 0 = r0 at *
        generalize ptV l 1 = r1 at *
        generalize ptV l 2 = r2 at *
        generalize ptV l 3 = r3 at *
        generalize ptV l 4 = r4 at *
        generalize ptV l 5 = r5 at *
        generalize ptV l 6 = r6 at *
        generalize ptV l 7 = r7 at *
        generalize ptV l 8 = r8 at *
        generalize ptV l 9 = r9 at *
        generalize ptV l 10 = r10 at *
        generalize ptV l 11 = r11 at *
        generalize ptV l 12 = r12 at *
        generalize ptV l 13 = r13 at *
        generalize ptV l 14 = r14 at *
        generalize ptV l 15 = r15 at *
        refine (HPE.out _ HCp.out.bytes).mono ?_
        rintro e w7 ⟨rfl, hb7⟩
        have HB7 : Hid (Below w.heap.size w w7) := HCp.out.below.trans (hb7.mono HCp.out.below.size)
        have HBA : Hid (Below w.heap.size w (w7.alloc (.cells (ptrs r0 r1 r2 r3 r4 r5 r6 r7 r8 r9 r10 r11 r12 r13 r14 r15) 39))) := HB7.out.alloc HB7.out.size _
        have HG8 := Lib.hid (((HGr.out.later HBg.out).later hb7).alloc (.cells (ptrs r0 r1 r2 r3 r4 r5 r6 r7 r8 r9 r10 r11 r12 r13 r14 r15) 39))
        have HG9 := Lib.hid (blo_laid w7 39 (ptrs r0 r1 r2 r3 r4 r5 r6 r7 r8 r9 r10 r11 r12 r13 r14 r15))
        have HYA := Lib.hid (H.out.below HBA.out)
        clear hb7 HPE HB7 HCp HBg HGr HYr
        go_wp2_with fail
        generalize w7.heap.size = g9 at *
        generalize (w7.alloc (.cells (ptrs r0 r1 r2 r3 r4 r5 r6 r7 r8 r9 r10 r11 r12 r13 r14 r15) 39)) = wB at *
        have hiR : (Tryd.prog.info? 39).map (·.size) = some ([Value.int .u32 r0, Value.int .u32 r1, Value.int .u32 r2, Value.int .u32 r3, Value.int .u32 r4, Value.int .u32 r5, Value.int .u32 r6, Value.int .u32 r7, Value.int .u32 r8, Value.int .u32 r9, Value.int .u32 r10, Value.int .u32 r11, Value.int .u32 r12, Value.int .u32 r13, Value.int .u32 r14, Value.int .u32 r15] : List Value).length := info16
        have KP : Hid (∀ W, Below wB.heap.size wB W → W.rangeAt g9 0 [Value.int .u32 r0, Value.int .u32 r1, Value.int .u32 r2, Value.int .u32 r3, Value.int .u32 r4, Value.int .u32 r5, Value.int .u32 r6, Value.int .u32 r7, Value.int .u32 r8, Value.int .u32 r9, Value.int .u32 r10, Value.int .u32 r11, Value.int .u32 r12, Value.int .u32 r13, Value.int .u32 r14, Value.int .u32 r15] ∧ W.rangeAt w.heap.size 0 [Value.int .u32 p0, Value.int .u32 p1, Value.int .u32 p2, Value.int .u32 p3, Value.int .u32 p4, Value.int .u32 p5, Value.int .u32 p6, Value.int .u32 p7, Value.int .u32 p8, Value.int .u32 p9, Value.int .u32 p10, Value.int .u32 p11, Value.int .u32 p12, Value.int .u32 p13, Value.int .u32 p14, Value.int .u32 p15] ∧ (convert 27 9 (.slice a0 64 cap0)).run Tryd.prog W = .ok (.string (strOf l)) W) := fun W hb => ⟨Blo.range (HG9.out.later hb) _ rfl, Blo.range (HG8.out.later hb) _ rfl, run_str W 27 9 5 Tryd.underlying27 Tryd.underlying5 Tryd.underlying9  l a0 64 cap0 HLL.out (HYA.out.below hb)⟩
        refine wp_region_held_drew (S := (fun W => W.rangeAt g9 0 [Value.int .u32 r0, Value.int .u32 r1, Value.int .u32 r2, Value.int .u32 r3, Value.int .u32 r4, Value.int .u32 r5, Value.int .u32 r6, Value.int .u32 r7, Value.int .u32 r8, Value.int .u32 r9, Value.int .u32 r10, Value.int .u32 r11, Value.int .u32 r12, Value.int .u32 r13, Value.int .u32 r14, Value.int .u32 r15] ∧ W.rangeAt w.heap.size 0 [Value.int .u32 p0, Value.int .u32 p1, Value.int .u32 p2, Value.int .u32 p3, Value.int .u32 p4, Value.int .u32 p5, Value.int .u32 p6, Value.int .u32 p7, Value.int .u32 p8, Value.int .u32 p9, Value.int .u32 p10, Value.int .u32 p11, Value.int .u32 p12, Value.int .u32 p13, Value.int .u32 p14, Value.int .u32 p15] ∧ (convert 27 9 (.slice a0 64 cap0)).run Tryd.prog W = .ok (.string (strOf l)) W)) (by kernel_rfl) (KP.out _ ((Below.refl _ _).drew)) (fun hHeld => ?_)
        refine wpAnyH_take (i := 0) (oi := ⟨some 70, _, _, _, _, _⟩) (v := .int .i64 0) rfl (by kernel_rfl) (by kernel_rfl) (by kernel_rfl) (fun _ _ _ h => h) (Or.inl ⟨by rfl, fun W hW => by first | (go_simp; done) | (go_simp; rfl) | (simp [*]; done) | (obtain ⟨hW1, hW2, hW3⟩ := hW; go_simp; done)⟩) (by assumption) ?_
        simp only [Act.put, List.setIfInBounds_toArray, List.set_cons_zero, List.set_cons_succ]
        refine wpAnyH_take (i := 1) (oi := ⟨some 71, _, _, _, _, _⟩) (v := .bool true) rfl (by kernel_rfl) (by kernel_rfl) (by kernel_rfl) (fun _ _ _ h => h) (Or.inl ⟨by rfl, fun W hW => by first | (go_simp; done) | (go_simp; rfl) | (simp [*]; done) | (obtain ⟨hW1, hW2, hW3⟩ := hW; go_simp; done)⟩) (by assumption) ?_
        simp only [Act.put, List.setIfInBounds_toArray, List.set_cons_zero, List.set_cons_succ]
        refine wpAnyH_take (i := 2) (oi := ⟨some 72, _, _, _, _, _⟩) (v := .bool true) rfl (by kernel_rfl) (by kernel_rfl) (by kernel_rfl) (fun _ _ _ h => h) (Or.inl ⟨by rfl, fun W hW => by first | (go_simp; done) | (go_simp; rfl) | (simp [*]; done) | (obtain ⟨hW1, hW2, hW3⟩ := hW; go_simp; done)⟩) (by assumption) ?_
        simp only [Act.put, List.setIfInBounds_toArray, List.set_cons_zero, List.set_cons_succ]
        refine wpAnyH_take (i := 3) (oi := ⟨some 73, _, _, _, _, _⟩) rfl (by kernel_rfl) (by kernel_rfl) (by kernel_rfl) (fun _ _ _ h => h) (yieldsIf_load_mid (by rfl) _ _ rfl _ _ rfl _ _ (fun W hW => hW.1) hu rfl hiR) (by assumption) ?_
        simp only [Act.put, List.setIfInBounds_toArray, List.set_cons_zero, List.set_cons_succ]
        refine wpAnyH_take (i := 6) (oi := ⟨some 76, _, _, _, _, _⟩) (v := .slice a0 64 cap0) rfl (by kernel_rfl) (by kernel_rfl) (by kernel_rfl) (fun _ _ _ h => h) (Or.inl ⟨by rfl, fun W hW => by first | (go_simp; done) | (go_simp; rfl) | (simp [*]; done) | (obtain ⟨hW1, hW2, hW3⟩ := hW; go_simp; done)⟩) (by assumption) ?_
        simp only [Act.put, List.setIfInBounds_toArray, List.set_cons_zero, List.set_cons_succ]
        refine wpAnyH_take (i := 7) (oi := ⟨some 77, _, _, _, _, _⟩) (v := .string (strOf l)) rfl (by kernel_rfl) (by kernel_rfl) (by kernel_rfl) (fun _ _ _ h => h) (Or.inl ⟨by rfl, fun W hW => by first | (go_simp; done) | (go_simp; rfl) | (simp [*]; done) | (obtain ⟨hW1, hW2, hW3⟩ := hW; go_simp; done)⟩) (by assumption) ?_
        simp only [Act.put, List.setIfInBounds_toArray, List.set_cons_zero, List.set_cons_succ]
        refine wpAnyH_ready (rs := [4]) (by kernel_rfl) (by simp) ?_
        refine AllReadyH.cons rfl (fun K hK => ?_) AllReadyH.nil
        go_simp
        go_wp2_with ((go_at_call 17; refine (HBR.out _).mono ?_; rintro e wx ⟨gwx, rfl, hrwx, hgwx, hbwx⟩; have HBwx : Hid (Below wB.heap.size wB wx) := (Below.refl wB.heap.size wB).drew.trans (hbwx.mono ((Below.refl wB.heap.size wB).drew).size); have HYwx := Lib.hid (hrwx.bytes HL8.out (by rw [← HLL.out]; decide)); have hcwx := run_str wx 27 9 5 Tryd.underlying27 Tryd.underlying5 Tryd.underlying9 _ (some ⟨gwx, 0, none⟩) 64 64 HLL.out HYwx.out; clear hrwx hgwx hbwx))
        refine hK.out _ _ (KP.out _ HBwx.out) (fun hHeld => ?_)
        clear hK K
        refine wpAnyH_ready (rs := [5]) (by kernel_rfl) (by simp) ?_
        refine AllReadyH.cons rfl (fun K hK => ?_) AllReadyH.nil
        go_simp
        refine hK.out _ _ (KP.out _ HBwx.out) (fun hHeld => ?_)
        clear hK K
        refine wpAnyH_take (i := 8) (oi := ⟨some 78, _, _, _, _, _⟩) (v := .bool true) rfl (by kernel_rfl) (by kernel_rfl) (by kernel_rfl) (fun _ _ _ h => h) (Or.inl ⟨by rfl, fun W hW => by first | (go_simp; done) | (go_simp; rfl) | (simp [*]; done) | (obtain ⟨hW1, hW2, hW3⟩ := hW; go_simp; done)⟩) (by assumption) ?_
        simp only [Act.put, List.setIfInBounds_toArray, List.set_cons_zero, List.set_cons_succ]
        refine wpAnyH_take (i := 9) (oi := ⟨some 79, _, _, _, _, _⟩) (v := .bool true) rfl (by kernel_rfl) (by kernel_rfl) (by kernel_rfl) (fun _ _ _ h => h) (Or.inl ⟨by rfl, fun W hW => by first | (go_simp; done) | (go_simp; rfl) | (simp [*]; done) | (obtain ⟨hW1, hW2, hW3⟩ := hW; go_simp; done)⟩) (by assumption) ?_
        simp only [Act.put, List.setIfInBounds_toArray, List.set_cons_zero, List.set_cons_succ]
        refine wpAnyH_take (i := 10) (oi := ⟨some 80, _, _, _, _, _⟩) (v := .bool true) rfl (by kernel_rfl) (by kernel_rfl) (by kernel_rfl) (fun _ _ _ h => h) (Or.inl ⟨by rfl, fun W hW => by first | (go_simp; done) | (go_simp; rfl) | (simp [*]; done) | (obtain ⟨hW1, hW2, hW3⟩ := hW; go_simp; done)⟩) (by assumption) ?_
        simp only [Act.put, List.setIfInBounds_toArray, List.set_cons_zero, List.set_cons_succ]
        refine wpAnyH_take (i := 11) (oi := ⟨some 81, _, _, _, _, _⟩) rfl (by kernel_rfl) (by kernel_rfl) (by kernel_rfl) (fun _ _ _ h => h) (yieldsIf_load_mid (by rfl) _ _ rfl _ _ rfl _ _ (fun W hW => hW.2.1) hu rfl hi) (by assumption) ?_
        simp only [Act.put, List.setIfInBounds_toArray, List.set_cons_zero, List.set_cons_succ]
        refine wpAnyH_take (i := 14) (oi := ⟨some 84, _, _, _, _, _⟩) rfl (by kernel_rfl) (by kernel_rfl) (by kernel_rfl) (fun _ _ _ h => h) (yieldsIf_load_mid (by rfl) _ _ rfl _ _ rfl _ _ (fun W hW => hW.2.1) hu rfl hi) (by assumption) ?_
        simp only [Act.put, List.setIfInBounds_toArray, List.set_cons_zero, List.set_cons_succ]
        refine wpAnyH_ready (rs := [12]) (by kernel_rfl) (by simp) ?_
        refine AllReadyH.cons rfl (fun K hK => ?_) AllReadyH.nil
        go_simp
        go_wp2_with ((go_at_call 17; refine (HBP.out _).mono ?_; rintro e wy ⟨gwy, rfl, hrwy, hgwy, hbwy⟩; have HBwy : Hid (Below wB.heap.size wB wy) := HBwx.out.trans (hbwy.mono (HBwx.out).size); have HYwy := Lib.hid (hrwy.bytes HM8.out (by rw [← HML.out]; decide)); have hcwy := run_str wy 27 9 5 Tryd.underlying27 Tryd.underlying5 Tryd.underlying9 _ (some ⟨gwy, 0, none⟩) 64 64 HML.out HYwy.out; clear hrwy hgwy hbwy))
        refine hK.out _ _ (KP.out _ HBwy.out) (fun hHeld => ?_)
        clear hK K
        refine wpAnyH_ready (rs := [13, 15]) (by kernel_rfl) (by simp) ?_
        refine AllReadyH.cons rfl (fun K hK => ?_) ?_
        · go_simp
          refine hK.out _ _ (KP.out _ HBwy.out) (fun hHeld => ?_)
          clear hK K
          refine wpAnyH_ready (rs := [15]) (by kernel_rfl) (by simp) ?_
          refine AllReadyH.cons rfl (fun K hK => ?_) AllReadyH.nil
          go_simp
          go_wp2_with ((go_at_call 19; refine (HRB.out _).mono ?_; rintro e wz ⟨awz, cwz, rfl, hYwz, _, hbwz⟩; have HBwz : Hid (Below wB.heap.size wB wz) := HBwy.out.trans (hbwz.mono (HBwy.out).size); have hcwz := run_str wz 27 9 5 Tryd.underlying27 Tryd.underlying5 Tryd.underlying9 _ awz 64 cwz HML.out hYwz; have hcywz := run_str wz 27 9 5 Tryd.underlying27 Tryd.underlying5 Tryd.underlying9 _ (some ⟨gwy, 0, none⟩) 64 64 HML.out (HYwy.out.below hbwz); clear hYwz hbwz))
          refine hK.out _ _ (KP.out _ HBwz.out) (fun hHeld => ?_)
          clear hK K
          refine wpAnyH_ready (rs := [16]) (by kernel_rfl) (by simp) ?_
          refine AllReadyH.cons rfl (fun K hK => ?_) AllReadyH.nil
          go_simp
          refine hK.out _ _ (KP.out _ HBwz.out) (fun hHeld => ?_)
          clear hK K
          refine wpAnyH_take (i := 17) (oi := ⟨some 87, _, _, _, _, _⟩) (v := .bool true) rfl (by kernel_rfl) (by kernel_rfl) (by kernel_rfl) (fun _ _ _ h => h) (Or.inl ⟨by rfl, fun W hW => by first | (go_simp; done) | (go_simp; rfl) | (simp [*]; done) | (obtain ⟨hW1, hW2, hW3⟩ := hW; go_simp; done)⟩) (by assumption) ?_
          simp only [Act.put, List.setIfInBounds_toArray, List.set_cons_zero, List.set_cons_succ]
          refine wpAnyH_take (i := 18) (oi := ⟨some 88, _, _, _, _, _⟩) (v := .bool true) rfl (by kernel_rfl) (by kernel_rfl) (by kernel_rfl) (fun _ _ _ h => h) (Or.inl ⟨by rfl, fun W hW => by first | (go_simp; done) | (go_simp; rfl) | (simp [*]; done) | (obtain ⟨hW1, hW2, hW3⟩ := hW; go_simp; done)⟩) (by assumption) ?_
          simp only [Act.put, List.setIfInBounds_toArray, List.set_cons_zero, List.set_cons_succ]
          refine wpAnyH_take (i := 19) (oi := ⟨some 4, _, _, _, _, _⟩) (v := .bool true) rfl (by kernel_rfl) (by kernel_rfl) (by kernel_rfl) (fun _ _ _ h => h) (Or.inl ⟨by rfl, fun W hW => by first | (go_simp; done) | (go_simp; rfl) | (simp [*]; done) | (obtain ⟨hW1, hW2, hW3⟩ := hW; go_simp; done)⟩) (by assumption) ?_
          simp only [Act.put, List.setIfInBounds_toArray, List.set_cons_zero, List.set_cons_succ]
          refine wpAnyH_done (by kernel_rfl) ?_ _
          go_wp2_with fail
          go_ret
          exact ⟨by first | rfl | simp, HBA.out.trans (HBwz.out.mono HBA.out.size)⟩
        refine AllReadyH.cons rfl (fun K hK => ?_) AllReadyH.nil
        go_simp
        go_wp2_with ((go_at_call 19; refine (HRB.out _).mono ?_; rintro e wz ⟨awz, cwz, rfl, hYwz, _, hbwz⟩; have HBwz : Hid (Below wB.heap.size wB wz) := HBwy.out.trans (hbwz.mono (HBwy.out).size); have hcwz := run_str wz 27 9 5 Tryd.underlying27 Tryd.underlying5 Tryd.underlying9 _ awz 64 cwz HML.out hYwz; have hcywz := run_str wz 27 9 5 Tryd.underlying27 Tryd.underlying5 Tryd.underlying9 _ (some ⟨gwy, 0, none⟩) 64 64 HML.out (HYwy.out.below hbwz); clear hYwz hbwz))
        refine hK.out _ _ (KP.out _ HBwz.out) (fun hHeld => ?_)
        clear hK K
        refine wpAnyH_ready (rs := [13, 16]) (by kernel_rfl) (by simp) ?_
        refine AllReadyH.cons rfl (fun K hK => ?_) ?_
        · go_simp
          refine hK.out _ _ (KP.out _ HBwz.out) (fun hHeld => ?_)
          clear hK K
          refine wpAnyH_ready (rs := [16]) (by kernel_rfl) (by simp) ?_
          refine AllReadyH.cons rfl (fun K hK => ?_) AllReadyH.nil
          go_simp
          refine hK.out _ _ (KP.out _ HBwz.out) (fun hHeld => ?_)
          clear hK K
          refine wpAnyH_take (i := 17) (oi := ⟨some 87, _, _, _, _, _⟩) (v := .bool true) rfl (by kernel_rfl) (by kernel_rfl) (by kernel_rfl) (fun _ _ _ h => h) (Or.inl ⟨by rfl, fun W hW => by first | (go_simp; done) | (go_simp; rfl) | (simp [*]; done) | (obtain ⟨hW1, hW2, hW3⟩ := hW; go_simp; done)⟩) (by assumption) ?_
          simp only [Act.put, List.setIfInBounds_toArray, List.set_cons_zero, List.set_cons_succ]
          refine wpAnyH_take (i := 18) (oi := ⟨some 88, _, _, _, _, _⟩) (v := .bool true) rfl (by kernel_rfl) (by kernel_rfl) (by kernel_rfl) (fun _ _ _ h => h) (Or.inl ⟨by rfl, fun W hW => by first | (go_simp; done) | (go_simp; rfl) | (simp [*]; done) | (obtain ⟨hW1, hW2, hW3⟩ := hW; go_simp; done)⟩) (by assumption) ?_
          simp only [Act.put, List.setIfInBounds_toArray, List.set_cons_zero, List.set_cons_succ]
          refine wpAnyH_take (i := 19) (oi := ⟨some 4, _, _, _, _, _⟩) (v := .bool true) rfl (by kernel_rfl) (by kernel_rfl) (by kernel_rfl) (fun _ _ _ h => h) (Or.inl ⟨by rfl, fun W hW => by first | (go_simp; done) | (go_simp; rfl) | (simp [*]; done) | (obtain ⟨hW1, hW2, hW3⟩ := hW; go_simp; done)⟩) (by assumption) ?_
          simp only [Act.put, List.setIfInBounds_toArray, List.set_cons_zero, List.set_cons_succ]
          refine wpAnyH_done (by kernel_rfl) ?_ _
          go_wp2_with fail
          go_ret
          exact ⟨by first | rfl | simp, HBA.out.trans (HBwz.out.mono HBA.out.size)⟩
        refine AllReadyH.cons rfl (fun K hK => ?_) AllReadyH.nil
        go_simp
        refine hK.out _ _ (KP.out _ HBwz.out) (fun hHeld => ?_)
        clear hK K
        refine wpAnyH_ready (rs := [13]) (by kernel_rfl) (by simp) ?_
        refine AllReadyH.cons rfl (fun K hK => ?_) AllReadyH.nil
        go_simp
        refine hK.out _ _ (KP.out _ HBwz.out) (fun hHeld => ?_)
        clear hK K
        refine wpAnyH_take (i := 17) (oi := ⟨some 87, _, _, _, _, _⟩) (v := .bool true) rfl (by kernel_rfl) (by kernel_rfl) (by kernel_rfl) (fun _ _ _ h => h) (Or.inl ⟨by rfl, fun W hW => by first | (go_simp; done) | (go_simp; rfl) | (simp [*]; done) | (obtain ⟨hW1, hW2, hW3⟩ := hW; go_simp; done)⟩) (by assumption) ?_
        simp only [Act.put, List.setIfInBounds_toArray, List.set_cons_zero, List.set_cons_succ]
        refine wpAnyH_take (i := 18) (oi := ⟨some 88, _, _, _, _, _⟩) (v := .bool true) rfl (by kernel_rfl) (by kernel_rfl) (by kernel_rfl) (fun _ _ _ h => h) (Or.inl ⟨by rfl, fun W hW => by first | (go_simp; done) | (go_simp; rfl) | (simp [*]; done) | (obtain ⟨hW1, hW2, hW3⟩ := hW; go_simp; done)⟩) (by assumption) ?_
        simp only [Act.put, List.setIfInBounds_toArray, List.set_cons_zero, List.set_cons_succ]
        refine wpAnyH_take (i := 19) (oi := ⟨some 4, _, _, _, _, _⟩) (v := .bool true) rfl (by kernel_rfl) (by kernel_rfl) (by kernel_rfl) (fun _ _ _ h => h) (Or.inl ⟨by rfl, fun W hW => by first | (go_simp; done) | (go_simp; rfl) | (simp [*]; done) | (obtain ⟨hW1, hW2, hW3⟩ := hW; go_simp; done)⟩) (by assumption) ?_
        simp only [Act.put, List.setIfInBounds_toArray, List.set_cons_zero, List.set_cons_succ]
        refine wpAnyH_done (by kernel_rfl) ?_ _
        go_wp2_with fail
        go_ret
        exact ⟨by first | rfl | simp, HBA.out.trans (HBwz.out.mono HBA.out.size)⟩
      · refine (pointers_bad n hn64 hmax a9 cap9 _).mono ?_
        rintro e w7 ⟨rfl, hb7⟩
        have HB7 : Hid (Below w.heap.size w w7) := HCp.out.below.trans (hb7.mono HCp.out.below.size)
        have HBA : Hid (Below w.heap.size w (w7.alloc (.cells (ptrs 0 0 0 0 0 0 0 0 0 0 0 0 0 0 0 0) 39))) := HB7.out.alloc HB7.out.size _
        have HG9 := Lib.hid (blo_laid w7 39 (ptrs 0 0 0 0 0 0 0 0 0 0 0 0 0 0 0 0))
        have hne : ((n : Int) != 64) = true := by simpa using (by omega : ¬ (n : Int) = 64)
        have hne2 : (n != 64) = true := by simpa using hn64
        have hse0 : ∀ W, (binOp .eql 39 (.agg #[Value.int .u32 0, Value.int .u32 0, Value.int .u32 0, Value.int .u32 0, Value.int .u32 0, Value.int .u32 0, Value.int .u32 0, Value.int .u32 0, Value.int .u32 0, Value.int .u32 0, Value.int .u32 0, Value.int .u32 0, Value.int .u32 0, Value.int .u32 0, Value.int .u32 0, Value.int .u32 0]) (.agg #[Value.int .u32 0, Value.int .u32 0, Value.int .u32 0, Value.int .u32 0, Value.int .u32 0, Value.int .u32 0, Value.int .u32 0, Value.int .u32 0, Value.int .u32 0, Value.int .u32 0, Value.int .u32 0, Value.int .u32 0, Value.int .u32 0, Value.int .u32 0, Value.int .u32 0, Value.int .u32 0])).run Tryd.prog W = .ok (.bool true) W := eql_zptrs
        clear hb7 HB7 HCp HBg HGr HYr hn64
        go_wp2_with fail
        go_ret
        exact ⟨by first | rfl | simp, HBA.out⟩
theorem inodePointers_off (p0 p1 p2 p3 p4 p5 p6 p7 p8 p9 p10 p11 p12 p13 p14 p15 : Nat) (n : Nat) (hn : 1000 < n) (hmax : n ≤ 9223372036854775807) (a0 : Option Addr) (cap0 : Nat) (w : World) (ht : Tab w) (hz : 0 < w.heap.size) :
    Calls Tryd.prog 5 #[.agg (ptrs p0 p1 p2 p3 p4 p5 p6 p7 p8 p9 p10 p11 p12 p13 p14 p15), .slice a0 n cap0] w fun e w' => e = .returned (.bool true) ∧ Below w.heap.size w w' := by
  have hb0 := sup_below w (.cells (ptrs p0 p1 p2 p3 p4 p5 p6 p7 p8 p9 p10 p11 p12 p13 p14 p15) 39)
  have HB0 := Lib.hid hb0
  have HAw := Lib.hid (fun W hb => awake_any W (ht.below (hb0.trans (hb.mono hb0.size)) hz) (Nat.lt_of_lt_of_le hz (hb0.trans (Below.mono hb hb0.size)).size))
  have hgt : decide ((1000 : Int) < (n : Int)) = true := decide_eq_true (by omega)
  clear hb0 ht
  go_enter Tryd.func5, Tryd.ntmps5
  go_wp2_with fail
  refine (HAw.out _ (Below.refl _ _)).mono ?_
  rintro e w1 ⟨rfl, hb1⟩
  have HB1 := Lib.hid hb1
  clear hb1
  go_wp2_with fail
  refine (HAw.out _ HB1.out).mono ?_
  rintro e w2 ⟨rfl, hb2⟩
  have HB2 : Hid (Below w.heap.size w w2) := HB0.out.trans ((HB1.out.trans (hb2.mono HB1.out.size)).mono HB0.out.size)
  clear hb2
  go_wp2_with fail
  go_ret
  exact ⟨rfl, HB2.out⟩
theorem inodePointers_walk (p0 p1 p2 p3 p4 p5 p6 p7 p8 p9 p10 p11 p12 p13 p14 p15 : Nat) (a0 : Option Addr) (len0 cap0 : Nat) (z0 : List Int) (w : World) (hL : Tab w ∧ 0 < w.heap.size) (h0 : p0 < 4294967296 ∧ p1 < 4294967296 ∧ p2 < 4294967296 ∧ p3 < 4294967296 ∧ p4 < 4294967296 ∧ p5 < 4294967296 ∧ p6 < 4294967296 ∧ p7 < 4294967296 ∧ p8 < 4294967296 ∧ p9 < 4294967296 ∧ p10 < 4294967296 ∧ p11 < 4294967296 ∧ p12 < 4294967296 ∧ p13 < 4294967296 ∧ p14 < 4294967296 ∧ p15 < 4294967296) (w0 : IsRow .u8 w a0 len0 cap0 z0) :
    Calls Tryd.prog 5 #[.agg (ptrs p0 p1 p2 p3 p4 p5 p6 p7 p8 p9 p10 p11 p12 p13 p14 p15), .slice a0 len0 cap0] w fun e w' => e = .returned (.bool true) ∧ Below w.heap.size w w' := by
  obtain ⟨l, hn, hb, ha, hm, hc⟩ := w0.bytes
  obtain ⟨q0, q1, q2, q3, q4, q5, q6, q7, q8, q9, q10, q11, q12, q13, q14, q15⟩ := h0
  by_cases hs : len0 ≤ 1000
  · exact inodePointers_in p0 p1 p2 p3 p4 p5 p6 p7 p8 p9 p10 p11 p12 p13 p14 p15 l len0 hn hs a0 cap0 hc w hL.1 hL.2 hb ha q0 q1 q2 q3 q4 q5 q6 q7 q8 q9 q10 q11 q12 q13 q14 q15
  · exact inodePointers_off p0 p1 p2 p3 p4 p5 p6 p7 p8 p9 p10 p11 p12 p13 p14 p15 len0 (by omega) hm a0 cap0 w hL.1 hL.2
end Go.Proofs.YtfkobamemehkdaaDoor
