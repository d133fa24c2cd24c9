/-
  The walk of InodeLists: two lists of pointers have one block just if they are the same.
-/
import Derived.Test.YtfkobamemehkdaaDoorInPtrs
import Derived.Deep.RegionHeld
namespace Go.Proofs.YtfkobamemehkdaaDoor
open Go.RowKit

theorem Blo.range {w : World} {g : Nat} {t : TypeId} {cs : Array Value} (h : Blo w g t cs) (l : List Value) (hl : cs.toList = l) : w.rangeAt g 0 l := fun j v hv => by
  rw [Nat.zero_add, h.cell j, ← Array.getElem?_toList, hl]
  exact hv
theorem info16 : (Tryd.prog.info? 39).map (·.size) = some 16 := by kernel_rfl

set_option maxRecDepth 100000 in
set_option maxHeartbeats 2000000 in
theorem lists_same (p0 p1 p2 p3 p4 p5 p6 p7 p8 p9 p10 p11 p12 p13 p14 p15 : Nat) (w : World) (ht : Tab w) (hz : 0 < w.heap.size) (q0 : p0 < 4294967296) (q1 : p1 < 4294967296) (q2 : p2 < 4294967296) (q3 : p3 < 4294967296) (q4 : p4 < 4294967296) (q5 : p5 < 4294967296) (q6 : p6 < 4294967296) (q7 : p7 < 4294967296) (q8 : p8 < 4294967296) (q9 : p9 < 4294967296) (q10 : p10 < 4294967296) (q11 : p11 < 4294967296) (q12 : p12 < 4294967296) (q13 : p13 < 4294967296) (q14 : p14 < 4294967296) (q15 : p15 < 4294967296) :
    Calls Tryd.prog 9 #[.agg (ptrs p0 p1 p2 p3 p4 p5 p6 p7 p8 p9 p10 p11 p12 p13 p14 p15), .agg (ptrs p0 p1 p2 p3 p4 p5 p6 p7 p8 p9 p10 p11 p12 p13 p14 p15)] w fun e w' => e = .returned (.bool true) ∧ Below w.heap.size w w' := by
  have HBl1 := Lib.hid (fun W => block_any p0 p1 p2 p3 p4 p5 p6 p7 p8 p9 p10 p11 p12 p13 p14 p15 W q0 q1 q2 q3 q4 q5 q6 q7 q8 q9 q10 q11 q12 q13 q14 q15)
  have HBl2 := HBl1
  have HEq := Lib.hid (fun W => eql_ptrs p0 p1 p2 p3 p4 p5 p6 p7 p8 p9 p10 p11 p12 p13 p14 p15 p0 p1 p2 p3 p4 p5 p6 p7 p8 p9 p10 p11 p12 p13 p14 p15 q0 q1 q2 q3 q4 q5 q6 q7 q8 q9 q10 q11 q12 q13 q14 q15 q0 q1 q2 q3 q4 q5 q6 q7 q8 q9 q10 q11 q12 q13 q14 q15 W)
  have hb0 : Below w.heap.size w ((w.alloc (.cells (ptrs p0 p1 p2 p3 p4 p5 p6 p7 p8 p9 p10 p11 p12 p13 p14 p15) 39)).alloc (.cells (ptrs p0 p1 p2 p3 p4 p5 p6 p7 p8 p9 p10 p11 p12 p13 p14 p15) 39)) := ((Below.refl _ _).alloc (Nat.le_refl _) _).alloc (by simp) _
  have HB0 := Lib.hid hb0
  have G1 := Lib.hid ((blo_laid w 39 (ptrs p0 p1 p2 p3 p4 p5 p6 p7 p8 p9 p10 p11 p12 p13 p14 p15)).alloc (.cells (ptrs p0 p1 p2 p3 p4 p5 p6 p7 p8 p9 p10 p11 p12 p13 p14 p15) 39))
  have g2 := blo_laid (w.alloc (.cells (ptrs p0 p1 p2 p3 p4 p5 p6 p7 p8 p9 p10 p11 p12 p13 p14 p15) 39)) 39 (ptrs p0 p1 p2 p3 p4 p5 p6 p7 p8 p9 p10 p11 p12 p13 p14 p15)
  rw [show (w.alloc (.cells (ptrs p0 p1 p2 p3 p4 p5 p6 p7 p8 p9 p10 p11 p12 p13 p14 p15) 39)).heap.size = w.heap.size + 1 by simp] at g2
  have G2 := Lib.hid g2
  have HAw := Lib.hid (awake_any ((w.alloc (.cells (ptrs p0 p1 p2 p3 p4 p5 p6 p7 p8 p9 p10 p11 p12 p13 p14 p15) 39)).alloc (.cells (ptrs p0 p1 p2 p3 p4 p5 p6 p7 p8 p9 p10 p11 p12 p13 p14 p15) 39)).drew (ht.below hb0.drew hz) (Nat.lt_of_lt_of_le hz hb0.drew.size))
  have L1 : Hid (64 = (blkN p0 p1 p2 p3 p4 p5 p6 p7 p8 p9 p10 p11 p12 p13 p14 p15).length) := by show _ = _; rw [blkN_length]
  have L2 : Hid (64 = (blkN p0 p1 p2 p3 p4 p5 p6 p7 p8 p9 p10 p11 p12 p13 p14 p15).length) := by show _ = _; rw [blkN_length]
  have M1 : Hid (∀ x ∈ blkN p0 p1 p2 p3 p4 p5 p6 p7 p8 p9 p10 p11 p12 p13 p14 p15, x < 256) := blkN_lt p0 p1 p2 p3 p4 p5 p6 p7 p8 p9 p10 p11 p12 p13 p14 p15
  have M2 : Hid (∀ x ∈ blkN p0 p1 p2 p3 p4 p5 p6 p7 p8 p9 p10 p11 p12 p13 p14 p15, x < 256) := blkN_lt p0 p1 p2 p3 p4 p5 p6 p7 p8 p9 p10 p11 p12 p13 p14 p15
  clear ht hb0 g2
  go_enter Tryd.func9, Tryd.ntmps9
  go_wp2_with fail
  generalize ((w.alloc (.cells (ptrs p0 p1 p2 p3 p4 p5 p6 p7 p8 p9 p10 p11 p12 p13 p14 p15) 39)).alloc (.cells (ptrs p0 p1 p2 p3 p4 p5 p6 p7 p8 p9 p10 p11 p12 p13 p14 p15) 39)) = w0 at *
  have KP : Hid (∀ W, Below w0.heap.size w0 W → W.rangeAt w.heap.size 0 [Value.int .u32 p0, Value.int .u32 p1, Value.int .u32 p2, Value.int .u32 p3, Value.int .u32 p4, Value.int .u32 p5, Value.int .u32 p6, Value.int .u32 p7, Value.int .u32 p8, Value.int .u32 p9, Value.int .u32 p10, Value.int .u32 p11, Value.int .u32 p12, Value.int .u32 p13, Value.int .u32 p14, Value.int .u32 p15] ∧ W.rangeAt (w.heap.size + 1) 0 [Value.int .u32 p0, Value.int .u32 p1, Value.int .u32 p2, Value.int .u32 p3, Value.int .u32 p4, Value.int .u32 p5, Value.int .u32 p6, Value.int .u32 p7, Value.int .u32 p8, Value.int .u32 p9, Value.int .u32 p10, Value.int .u32 p11, Value.int .u32 p12, Value.int .u32 p13, Value.int .u32 p14, Value.int .u32 p15]) := fun W hb => ⟨(G1.out.later hb).range _ rfl, (G2.out.later hb).range _ rfl⟩
  clear G1 G2

  have hu := Tryd.underlying39
  have hi : (Tryd.prog.info? 39).map (·.size) = some ([Value.int .u32 p0, Value.int .u32 p1, Value.int .u32 p2, Value.int .u32 p3, Value.int .u32 p4, Value.int .u32 p5, Value.int .u32 p6, Value.int .u32 p7, Value.int .u32 p8, Value.int .u32 p9, Value.int .u32 p10, Value.int .u32 p11, Value.int .u32 p12, Value.int .u32 p13, Value.int .u32 p14, Value.int .u32 p15]).length := info16
  have hse : ∀ W, (binOp .eql 39 (.agg (ptrs p0 p1 p2 p3 p4 p5 p6 p7 p8 p9 p10 p11 p12 p13 p14 p15)) (.agg (ptrs p0 p1 p2 p3 p4 p5 p6 p7 p8 p9 p10 p11 p12 p13 p14 p15))).run Tryd.prog W = .ok (.bool true) W := fun W => by
    obtain ⟨r, h1, h2⟩ := HEq.out W
    rw [h1, h2.2 (by simp)]
  clear HEq
  refine wp_region_held_drew (S := (fun W => W.rangeAt w.heap.size 0 [Value.int .u32 p0, Value.int .u32 p1, Value.int .u32 p2, Value.int .u32 p3, Value.int .u32 p4, Value.int .u32 p5, Value.int .u32 p6, Value.int .u32 p7, Value.int .u32 p8, Value.int .u32 p9, Value.int .u32 p10, Value.int .u32 p11, Value.int .u32 p12, Value.int .u32 p13, Value.int .u32 p14, Value.int .u32 p15] ∧ W.rangeAt (w.heap.size + 1) 0 [Value.int .u32 p0, Value.int .u32 p1, Value.int .u32 p2, Value.int .u32 p3, Value.int .u32 p4, Value.int .u32 p5, Value.int .u32 p6, Value.int .u32 p7, Value.int .u32 p8, Value.int .u32 p9, Value.int .u32 p10, Value.int .u32 p11, Value.int .u32 p12, Value.int .u32 p13, Value.int .u32 p14, Value.int .u32 p15])) (by kernel_rfl) (KP.out _ ((Below.refl _ _).drew)) (fun hHeld => ?_)
  refine wpAnyH_ready (rs := [0]) (by kernel_rfl) (by simp) ?_
  refine AllReadyH.cons rfl (fun K hK => ?_) AllReadyH.nil
  go_simp
  go_wp2_with ((go_at_call 10; refine HAw.out.mono ?_; rintro e wx ⟨rfl, hbx⟩; have HBx : Hid (Below w0.heap.size w0 wx) := ((Below.refl _ _).drew).trans hbx; clear hbx))
  refine hK.out _ _ (KP.out _ HBx.out) (fun hHeld => ?_)
  clear hK K
  refine wpAnyH_take (i := 1) (oi := ⟨some 6, _, _, _, _, _⟩) (v := .bool true) rfl (by kernel_rfl) (by kernel_rfl) (by kernel_rfl) (fun _ _ _ h => h) (Or.inl ⟨by rfl, fun W hW => by first | (go_simp; done) | (go_simp; rfl) | (simp [*]; done)⟩) (by assumption) ?_
  simp only [Act.put, List.setIfInBounds_toArray, List.set_cons_zero, List.set_cons_succ]
  refine wpAnyH_take (i := 2) rfl (by kernel_rfl) (by kernel_rfl) (by kernel_rfl) (fun _ _ _ h => h) (yieldsIf_load_mid (by rfl) _ _ rfl _ _ rfl _ _ (fun W hW => hW.1) hu rfl hi) (by assumption) ?_
  simp only [Act.put, List.setIfInBounds_toArray, List.set_cons_zero, List.set_cons_succ]
  refine wpAnyH_take (i := 5) rfl (by kernel_rfl) (by kernel_rfl) (by kernel_rfl) (fun _ _ _ h => h) (yieldsIf_load_mid (by rfl) _ _ rfl _ _ rfl _ _ (fun W hW => hW.2) hu rfl hi) (by assumption) ?_
  simp only [Act.put, List.setIfInBounds_toArray, List.set_cons_zero, List.set_cons_succ]
  refine wpAnyH_take (i := 9) rfl (by kernel_rfl) (by kernel_rfl) (by kernel_rfl) (fun _ _ _ h => h) (yieldsIf_load_mid (by rfl) _ _ rfl _ _ rfl _ _ (fun W hW => hW.1) hu rfl hi) (by assumption) ?_
  simp only [Act.put, List.setIfInBounds_toArray, List.set_cons_zero, List.set_cons_succ]
  refine wpAnyH_take (i := 10) rfl (by kernel_rfl) (by kernel_rfl) (by kernel_rfl) (fun _ _ _ h => h) (yieldsIf_load_mid (by rfl) _ _ rfl _ _ rfl _ _ (fun W hW => hW.2) hu rfl hi) (by assumption) ?_
  simp only [Act.put, List.setIfInBounds_toArray, List.set_cons_zero, List.set_cons_succ]
  refine wpAnyH_take (i := 11) (oi := ⟨some 16, _, _, _, _, _⟩) (v := .bool true) rfl (by kernel_rfl) (by kernel_rfl) (by kernel_rfl) (fun _ _ _ h => h) (Or.inl ⟨by rfl, fun W hW => by first | (go_simp; done) | (go_simp; rfl) | (simp [*]; done)⟩) (by assumption) ?_
  simp only [Act.put, List.setIfInBounds_toArray, List.set_cons_zero, List.set_cons_succ]
  refine wpAnyH_ready (rs := [3]) (by kernel_rfl) (by simp) ?_
  refine AllReadyH.cons rfl (fun K hK => ?_) AllReadyH.nil
  go_simp
  go_wp2_with ((go_at_call 17; refine (HBl1.out _).mono ?_; rintro e wy ⟨g1, rfl, hr1, hg1, hb1⟩; have HBy : Hid (Below w0.heap.size w0 wy) := HBx.out.trans (hb1.mono HBx.out.size); have Y1 := Lib.hid (hr1.bytes M1.out (by rw [← L1.out]; decide)); have hcy := run_str wy 27 9 5 Tryd.underlying27 Tryd.underlying5 Tryd.underlying9 _ (some ⟨g1, 0, none⟩) 64 64 L1.out Y1.out; clear hr1 hg1 hb1))
  refine hK.out _ _ (KP.out _ HBy.out) (fun hHeld => ?_)
  clear hK K
  refine wpAnyH_ready (rs := [4, 6]) (by kernel_rfl) (by simp) ?_
  refine AllReadyH.cons rfl (fun K hK => ?_) ?_
  · go_simp
    refine hK.out _ _ (KP.out _ HBy.out) (fun hHeld => ?_)
    clear hK K
    refine wpAnyH_ready (rs := [6]) (by kernel_rfl) (by simp) ?_
    refine AllReadyH.cons rfl (fun K hK => ?_) AllReadyH.nil
    go_simp
    go_wp2_with ((go_at_call 17; refine (HBl2.out _).mono ?_; rintro e wz ⟨g2, rfl, hr2, hg2, hb2⟩; have HBz : Hid (Below w0.heap.size w0 wz) := HBy.out.trans (hb2.mono HBy.out.size); have hcz1 := run_str wz 27 9 5 Tryd.underlying27 Tryd.underlying5 Tryd.underlying9 _ (some ⟨g1, 0, none⟩) 64 64 L1.out (Y1.out.below hb2); have hcz2 := run_str wz 27 9 5 Tryd.underlying27 Tryd.underlying5 Tryd.underlying9 _ (some ⟨g2, 0, none⟩) 64 64 L2.out (hr2.bytes M2.out (by rw [← L2.out]; decide)); clear hr2 hg2 hb2))
    refine hK.out _ _ (KP.out _ HBz.out) (fun hHeld => ?_)
    clear hK K
    refine wpAnyH_ready (rs := [7]) (by kernel_rfl) (by simp) ?_
    refine AllReadyH.cons rfl (fun K hK => ?_) AllReadyH.nil
    go_simp
    refine hK.out _ _ (KP.out _ HBz.out) (fun hHeld => ?_)
    clear hK K
    refine wpAnyH_take (i := 8) (oi := ⟨some 13, _, _, _, _, _⟩) (v := .bool true) rfl (by kernel_rfl) (by kernel_rfl) (by kernel_rfl) (fun _ _ _ h => h) (Or.inl ⟨by rfl, fun W hW => by first | (go_simp; done) | (go_simp; rfl) | (simp [*]; done)⟩) (by assumption) ?_
    simp only [Act.put, List.setIfInBounds_toArray, List.set_cons_zero, List.set_cons_succ]
    refine wpAnyH_take (i := 12) (oi := ⟨some 17, _, _, _, _, _⟩) (v := .bool true) rfl (by kernel_rfl) (by kernel_rfl) (by kernel_rfl) (fun _ _ _ h => h) (Or.inl ⟨by rfl, fun W hW => by first | (go_simp; done) | (go_simp; rfl) | (simp [*]; done)⟩) (by assumption) ?_
    simp only [Act.put, List.setIfInBounds_toArray, List.set_cons_zero, List.set_cons_succ]
    refine wpAnyH_take (i := 13) (oi := ⟨some 18, _, _, _, _, _⟩) (v := .bool true) rfl (by kernel_rfl) (by kernel_rfl) (by kernel_rfl) (fun _ _ _ h => h) (Or.inl ⟨by rfl, fun W hW => by first | (go_simp; done) | (go_simp; rfl) | (simp [*]; done)⟩) (by assumption) ?_
    simp only [Act.put, List.setIfInBounds_toArray, List.set_cons_zero, List.set_cons_succ]
    refine wpAnyH_take (i := 14) (oi := ⟨some 4, _, _, _, _, _⟩) (v := .bool true) rfl (by kernel_rfl) (by kernel_rfl) (by kernel_rfl) (fun _ _ _ h => h) (Or.inl ⟨by rfl, fun W hW => by first | (go_simp; done) | (go_simp; rfl) | (simp [*]; done)⟩) (by assumption) ?_
    simp only [Act.put, List.setIfInBounds_toArray, List.set_cons_zero, List.set_cons_succ]
    refine wpAnyH_done (by kernel_rfl) ?_ _
    go_wp2_with fail
    go_ret
    exact ⟨by first | rfl | simp, HB0.out.trans (HBz.out.mono HB0.out.size)⟩
  refine AllReadyH.cons rfl (fun K hK => ?_) AllReadyH.nil
  go_simp
  go_wp2_with ((go_at_call 17; refine (HBl2.out _).mono ?_; rintro e wz ⟨g2, rfl, hr2, hg2, hb2⟩; have HBz : Hid (Below w0.heap.size w0 wz) := HBy.out.trans (hb2.mono HBy.out.size); have hcz1 := run_str wz 27 9 5 Tryd.underlying27 Tryd.underlying5 Tryd.underlying9 _ (some ⟨g1, 0, none⟩) 64 64 L1.out (Y1.out.below hb2); have hcz2 := run_str wz 27 9 5 Tryd.underlying27 Tryd.underlying5 Tryd.underlying9 _ (some ⟨g2, 0, none⟩) 64 64 L2.out (hr2.bytes M2.out (by rw [← L2.out]; decide)); clear hr2 hg2 hb2))
  refine hK.out _ _ (KP.out _ HBz.out) (fun hHeld => ?_)
  clear hK K
  refine wpAnyH_ready (rs := [4, 7]) (by kernel_rfl) (by simp) ?_
  refine AllReadyH.cons rfl (fun K hK => ?_) ?_
  · go_simp
    refine hK.out _ _ (KP.out _ HBz.out) (fun hHeld => ?_)
    clear hK K
    refine wpAnyH_ready (rs := [7]) (by kernel_rfl) (by simp) ?_
    refine AllReadyH.cons rfl (fun K hK => ?_) AllReadyH.nil
    go_simp
    refine hK.out _ _ (KP.out _ HBz.out) (fun hHeld => ?_)
    clear hK K
    refine wpAnyH_take (i := 8) (oi := ⟨some 13, _, _, _, _, _⟩) (v := .bool true) rfl (by kernel_rfl) (by kernel_rfl) (by kernel_rfl) (fun _ _ _ h => h) (Or.inl ⟨by rfl, fun W hW => by first | (go_simp; done) | (go_simp; rfl) | (simp [*]; done)⟩) (by assumption) ?_
    simp only [Act.put, List.setIfInBounds_toArray, List.set_cons_zero, List.set_cons_succ]
    refine wpAnyH_take (i := 12) (oi := ⟨some 17, _, _, _, _, _⟩) (v := .bool true) rfl (by kernel_rfl) (by kernel_rfl) (by kernel_rfl) (fun _ _ _ h => h) (Or.inl ⟨by rfl, fun W hW => by first | (go_simp; done) | (go_simp; rfl) | (simp [*]; done)⟩) (by assumption) ?_
    simp only [Act.put, List.setIfInBounds_toArray, List.set_cons_zero, List.set_cons_succ]
    refine wpAnyH_take (i := 13) (oi := ⟨some 18, _, _, _, _, _⟩) (v := .bool true) rfl (by kernel_rfl) (by kernel_rfl) (by kernel_rfl) (fun _ _ _ h => h) (Or.inl ⟨by rfl, fun W hW => by first | (go_simp; done) | (go_simp; rfl) | (simp [*]; done)⟩) (by assumption) ?_
    simp only [Act.put, List.setIfInBounds_toArray, List.set_cons_zero, List.set_cons_succ]
    refine wpAnyH_take (i := 14) (oi := ⟨some 4, _, _, _, _, _⟩) (v := .bool true) rfl (by kernel_rfl) (by kernel_rfl) (by kernel_rfl) (fun _ _ _ h => h) (Or.inl ⟨by rfl, fun W hW => by first | (go_simp; done) | (go_simp; rfl) | (simp [*]; done)⟩) (by assumption) ?_
    simp only [Act.put, List.setIfInBounds_toArray, List.set_cons_zero, List.set_cons_succ]
    refine wpAnyH_done (by kernel_rfl) ?_ _
    go_wp2_with fail
    go_ret
    exact ⟨by first | rfl | simp, HB0.out.trans (HBz.out.mono HB0.out.size)⟩
  refine AllReadyH.cons rfl (fun K hK => ?_) AllReadyH.nil
  go_simp
  refine hK.out _ _ (KP.out _ HBz.out) (fun hHeld => ?_)
  clear hK K
  refine wpAnyH_ready (rs := [4]) (by kernel_rfl) (by simp) ?_
  refine AllReadyH.cons rfl (fun K hK => ?_) AllReadyH.nil
  go_simp
  refine hK.out _ _ (KP.out _ HBz.out) (fun hHeld => ?_)
  clear hK K
  refine wpAnyH_take (i := 8) (oi := ⟨some 13, _, _, _, _, _⟩) (v := .bool true) rfl (by kernel_rfl) (by kernel_rfl) (by kernel_rfl) (fun _ _ _ h => h) (Or.inl ⟨by rfl, fun W hW => by first | (go_simp; done) | (go_simp; rfl) | (simp [*]; done)⟩) (by assumption) ?_
  simp only [Act.put, List.setIfInBounds_toArray, List.set_cons_zero, List.set_cons_succ]
  refine wpAnyH_take (i := 12) (oi := ⟨some 17, _, _, _, _, _⟩) (v := .bool true) rfl (by kernel_rfl) (by kernel_rfl) (by kernel_rfl) (fun _ _ _ h => h) (Or.inl ⟨by rfl, fun W hW => by first | (go_simp; done) | (go_simp; rfl) | (simp [*]; done)⟩) (by assumption) ?_
  simp only [Act.put, List.setIfInBounds_toArray, List.set_cons_zero, List.set_cons_succ]
  refine wpAnyH_take (i := 13) (oi := ⟨some 18, _, _, _, _, _⟩) (v := .bool true) rfl (by kernel_rfl) (by kernel_rfl) (by kernel_rfl) (fun _ _ _ h => h) (Or.inl ⟨by rfl, fun W hW => by first | (go_simp; done) | (go_simp; rfl) | (simp [*]; done)⟩) (by assumption) ?_
  simp only [Act.put, List.setIfInBounds_toArray, List.set_cons_zero, List.set_cons_succ]
  refine wpAnyH_take (i := 14) (oi := ⟨some 4, _, _, _, _, _⟩) (v := .bool true) rfl (by kernel_rfl) (by kernel_rfl) (by kernel_rfl) (fun _ _ _ h => h) (Or.inl ⟨by rfl, fun W hW => by first | (go_simp; done) | (go_simp; rfl) | (simp [*]; done)⟩) (by assumption) ?_
  simp only [Act.put, List.setIfInBounds_toArray, List.set_cons_zero, List.set_cons_succ]
  refine wpAnyH_done (by kernel_rfl) ?_ _
  go_wp2_with fail
  go_ret
  exact ⟨by first | rfl | simp, HB0.out.trans (HBz.out.mono HB0.out.size)⟩
set_option maxRecDepth 100000 in
set_option maxHeartbeats 2000000 in
theorem lists_else (p0 p1 p2 p3 p4 p5 p6 p7 p8 p9 p10 p11 p12 p13 p14 p15 r0 r1 r2 r3 r4 r5 r6 r7 r8 r9 r10 r11 r12 r13 r14 r15 : Nat) (w : World) (ht : Tab w) (hz : 0 < w.heap.size) (q0 : p0 < 4294967296) (q1 : p1 < 4294967296) (q2 : p2 < 4294967296) (q3 : p3 < 4294967296) (q4 : p4 < 4294967296) (q5 : p5 < 4294967296) (q6 : p6 < 4294967296) (q7 : p7 < 4294967296) (q8 : p8 < 4294967296) (q9 : p9 < 4294967296) (q10 : p10 < 4294967296) (q11 : p11 < 4294967296) (q12 : p12 < 4294967296) (q13 : p13 < 4294967296) (q14 : p14 < 4294967296) (q15 : p15 < 4294967296) (u0 : r0 < 4294967296) (u1 : r1 < 4294967296) (u2 : r2 < 4294967296) (u3 : r3 < 4294967296) (u4 : r4 < 4294967296) (u5 : r5 < 4294967296) (u6 : r6 < 4294967296) (u7 : r7 < 4294967296) (u8 : r8 < 4294967296) (u9 : r9 < 4294967296) (u10 : r10 < 4294967296) (u11 : r11 < 4294967296) (u12 : r12 < 4294967296) (u13 : r13 < 4294967296) (u14 : r14 < 4294967296) (u15 : r15 < 4294967296) (hne : ¬ (p0 = r0 ∧ p1 = r1 ∧ p2 = r2 ∧ p3 = r3 ∧ p4 = r4 ∧ p5 = r5 ∧ p6 = r6 ∧ p7 = r7 ∧ p8 = r8 ∧ p9 = r9 ∧ p10 = r10 ∧ p11 = r11 ∧ p12 = r12 ∧ p13 = r13 ∧ p14 = r14 ∧ p15 = r15)) :
    Calls Tryd.prog 9 #[.agg (ptrs p0 p1 p2 p3 p4 p5 p6 p7 p8 p9 p10 p11 p12 p13 p14 p15), .agg (ptrs r0 r1 r2 r3 r4 r5 r6 r7 r8 r9 r10 r11 r12 r13 r14 r15)] w fun e w' => e = .returned (.bool true) ∧ Below w.heap.size w w' := by
  have HBl1 := Lib.hid (fun W => block_any p0 p1 p2 p3 p4 p5 p6 p7 p8 p9 p10 p11 p12 p13 p14 p15 W q0 q1 q2 q3 q4 q5 q6 q7 q8 q9 q10 q11 q12 q13 q14 q15)
  have HBl2 := Lib.hid (fun W => block_any r0 r1 r2 r3 r4 r5 r6 r7 r8 r9 r10 r11 r12 r13 r14 r15 W u0 u1 u2 u3 u4 u5 u6 u7 u8 u9 u10 u11 u12 u13 u14 u15)
  have HEq := Lib.hid (fun W => eql_ptrs p0 p1 p2 p3 p4 p5 p6 p7 p8 p9 p10 p11 p12 p13 p14 p15 r0 r1 r2 r3 r4 r5 r6 r7 r8 r9 r10 r11 r12 r13 r14 r15 q0 q1 q2 q3 q4 q5 q6 q7 q8 q9 q10 q11 q12 q13 q14 q15 u0 u1 u2 u3 u4 u5 u6 u7 u8 u9 u10 u11 u12 u13 u14 u15 W)
  have hbn : blkN p0 p1 p2 p3 p4 p5 p6 p7 p8 p9 p10 p11 p12 p13 p14 p15 ≠ blkN r0 r1 r2 r3 r4 r5 r6 r7 r8 r9 r10 r11 r12 r13 r14 r15 := fun e => hne (blkN_inj p0 p1 p2 p3 p4 p5 p6 p7 p8 p9 p10 p11 p12 p13 p14 p15 r0 r1 r2 r3 r4 r5 r6 r7 r8 r9 r10 r11 r12 r13 r14 r15 e q0 q1 q2 q3 q4 q5 q6 q7 q8 q9 q10 q11 q12 q13 q14 q15 u0 u1 u2 u3 u4 u5 u6 u7 u8 u9 u10 u11 u12 u13 u14 u15)
  have hsn := str_ne (blkN_lt p0 p1 p2 p3 p4 p5 p6 p7 p8 p9 p10 p11 p12 p13 p14 p15) (blkN_lt r0 r1 r2 r3 r4 r5 r6 r7 r8 r9 r10 r11 r12 r13 r14 r15) hbn
  have hb0 : Below w.heap.size w ((w.alloc (.cells (ptrs p0 p1 p2 p3 p4 p5 p6 p7 p8 p9 p10 p11 p12 p13 p14 p15) 39)).alloc (.cells (ptrs r0 r1 r2 r3 r4 r5 r6 r7 r8 r9 r10 r11 r12 r13 r14 r15) 39)) := ((Below.refl _ _).alloc (Nat.le_refl _) _).alloc (by simp) _
  have HB0 := Lib.hid hb0
  have G1 := Lib.hid ((blo_laid w 39 (ptrs p0 p1 p2 p3 p4 p5 p6 p7 p8 p9 p10 p11 p12 p13 p14 p15)).alloc (.cells (ptrs r0 r1 r2 r3 r4 r5 r6 r7 r8 r9 r10 r11 r12 r13 r14 r15) 39))
  have g2 := blo_laid (w.alloc (.cells (ptrs p0 p1 p2 p3 p4 p5 p6 p7 p8 p9 p10 p11 p12 p13 p14 p15) 39)) 39 (ptrs r0 r1 r2 r3 r4 r5 r6 r7 r8 r9 r10 r11 r12 r13 r14 r15)
  rw [show (w.alloc (.cells (ptrs p0 p1 p2 p3 p4 p5 p6 p7 p8 p9 p10 p11 p12 p13 p14 p15) 39)).heap.size = w.heap.size + 1 by simp] at g2
  have G2 := Lib.hid g2
  have HAw := Lib.hid (awake_any ((w.alloc (.cells (ptrs p0 p1 p2 p3 p4 p5 p6 p7 p8 p9 p10 p11 p12 p13 p14 p15) 39)).alloc (.cells (ptrs r0 r1 r2 r3 r4 r5 r6 r7 r8 r9 r10 r11 r12 r13 r14 r15) 39)).drew (ht.below hb0.drew hz) (Nat.lt_of_lt_of_le hz hb0.drew.size))
  have L1 : Hid (64 = (blkN p0 p1 p2 p3 p4 p5 p6 p7 p8 p9 p10 p11 p12 p13 p14 p15).length) := by show _ = _; rw [blkN_length]
  have L2 : Hid (64 = (blkN r0 r1 r2 r3 r4 r5 r6 r7 r8 r9 r10 r11 r12 r13 r14 r15).length) := by show _ = _; rw [blkN_length]
  have M1 : Hid (∀ x ∈ blkN p0 p1 p2 p3 p4 p5 p6 p7 p8 p9 p10 p11 p12 p13 p14 p15, x < 256) := blkN_lt p0 p1 p2 p3 p4 p5 p6 p7 p8 p9 p10 p11 p12 p13 p14 p15
  have M2 : Hid (∀ x ∈ blkN r0 r1 r2 r3 r4 r5 r6 r7 r8 r9 r10 r11 r12 r13 r14 r15, x < 256) := blkN_lt r0 r1 r2 r3 r4 r5 r6 r7 r8 r9 r10 r11 r12 r13 r14 r15
  clear ht hb0 g2
  go_enter Tryd.func9, Tryd.ntmps9
  go_wp2_with fail
  generalize ((w.alloc (.cells (ptrs p0 p1 p2 p3 p4 p5 p6 p7 p8 p9 p10 p11 p12 p13 p14 p15) 39)).alloc (.cells (ptrs r0 r1 r2 r3 r4 r5 r6 r7 r8 r9 r10 r11 r12 r13 r14 r15) 39)) = w0 at *
  have KP : Hid (∀ W, Below w0.heap.size w0 W → W.rangeAt w.heap.size 0 [Value.int .u32 p0, Value.int .u32 p1, Value.int .u32 p2, Value.int .u32 p3, Value.int .u32 p4, Value.int .u32 p5, Value.int .u32 p6, Value.int .u32 p7, Value.int .u32 p8, Value.int .u32 p9, Value.int .u32 p10, Value.int .u32 p11, Value.int .u32 p12, Value.int .u32 p13, Value.int .u32 p14, Value.int .u32 p15] ∧ W.rangeAt (w.heap.size + 1) 0 [Value.int .u32 r0, Value.int .u32 r1, Value.int .u32 r2, Value.int .u32 r3, Value.int .u32 r4, Value.int .u32 r5, Value.int .u32 r6, Value.int .u32 r7, Value.int .u32 r8, Value.int .u32 r9, Value.int .u32 r10, Value.int .u32 r11, Value.int .u32 r12, Value.int .u32 r13, Value.int .u32 r14, Value.int .u32 r15]) := fun W hb => ⟨(G1.out.later hb).range _ rfl, (G2.out.later hb).range _ rfl⟩
  clear G1 G2

  have hu := Tryd.underlying39
  have hi : (Tryd.prog.info? 39).map (·.size) = some ([Value.int .u32 p0, Value.int .u32 p1, Value.int .u32 p2, Value.int .u32 p3, Value.int .u32 p4, Value.int .u32 p5, Value.int .u32 p6, Value.int .u32 p7, Value.int .u32 p8, Value.int .u32 p9, Value.int .u32 p10, Value.int .u32 p11, Value.int .u32 p12, Value.int .u32 p13, Value.int .u32 p14, Value.int .u32 p15]).length := info16
  have hi2 : (Tryd.prog.info? 39).map (·.size) = some ([Value.int .u32 r0, Value.int .u32 r1, Value.int .u32 r2, Value.int .u32 r3, Value.int .u32 r4, Value.int .u32 r5, Value.int .u32 r6, Value.int .u32 r7, Value.int .u32 r8, Value.int .u32 r9, Value.int .u32 r10, Value.int .u32 r11, Value.int .u32 r12, Value.int .u32 r13, Value.int .u32 r14, Value.int .u32 r15]).length := info16
  have hse : ∀ W, (binOp .eql 39 (.agg (ptrs p0 p1 p2 p3 p4 p5 p6 p7 p8 p9 p10 p11 p12 p13 p14 p15)) (.agg (ptrs r0 r1 r2 r3 r4 r5 r6 r7 r8 r9 r10 r11 r12 r13 r14 r15))).run Tryd.prog W = .ok (.bool false) W := fun W => by
    obtain ⟨r, h1, h2⟩ := HEq.out W
    have h3 : r = false := by
      cases r
      · rfl
      · exact absurd (h2.1 rfl) hne
    rw [h1, h3]
  clear HEq hne hbn
  refine wp_region_held_drew (S := (fun W => W.rangeAt w.heap.size 0 [Value.int .u32 p0, Value.int .u32 p1, Value.int .u32 p2, Value.int .u32 p3, Value.int .u32 p4, Value.int .u32 p5, Value.int .u32 p6, Value.int .u32 p7, Value.int .u32 p8, Value.int .u32 p9, Value.int .u32 p10, Value.int .u32 p11, Value.int .u32 p12, Value.int .u32 p13, Value.int .u32 p14, Value.int .u32 p15] ∧ W.rangeAt (w.heap.size + 1) 0 [Value.int .u32 r0, Value.int .u32 r1, Value.int .u32 r2, Value.int .u32 r3, Value.int .u32 r4, Value.int .u32 r5, Value.int .u32 r6, Value.int .u32 r7, Value.int .u32 r8, Value.int .u32 r9, Value.int .u32 r10, Value.int .u32 r11, Value.int .u32 r12, Value.int .u32 r13, Value.int .u32 r14, Value.int .u32 r15])) (by kernel_rfl) (KP.out _ ((Below.refl _ _).drew)) (fun hHeld => ?_)
  refine wpAnyH_ready (rs := [0]) (by kernel_rfl) (by simp) ?_
  refine AllReadyH.cons rfl (fun K hK => ?_) AllReadyH.nil
  go_simp
  go_wp2_with ((go_at_call 10; refine HAw.out.mono ?_; rintro e wx ⟨rfl, hbx⟩; have HBx : Hid (Below w0.heap.size w0 wx) := ((Below.refl _ _).drew).trans hbx; clear hbx))
  refine hK.out _ _ (KP.out _ HBx.out) (fun hHeld => ?_)
  clear hK K
  refine wpAnyH_take (i := 1) (oi := ⟨some 6, _, _, _, _, _⟩) (v := .bool true) rfl (by kernel_rfl) (by kernel_rfl) (by kernel_rfl) (fun _ _ _ h => h) (Or.inl ⟨by rfl, fun W hW => by first | (go_simp; done) | (go_simp; rfl) | (simp [*]; done)⟩) (by assumption) ?_
  simp only [Act.put, List.setIfInBounds_toArray, List.set_cons_zero, List.set_cons_succ]
  refine wpAnyH_take (i := 2) rfl (by kernel_rfl) (by kernel_rfl) (by kernel_rfl) (fun _ _ _ h => h) (yieldsIf_load_mid (by rfl) _ _ rfl _ _ rfl _ _ (fun W hW => hW.1) hu rfl hi) (by assumption) ?_
  simp only [Act.put, List.setIfInBounds_toArray, List.set_cons_zero, List.set_cons_succ]
  refine wpAnyH_take (i := 5) rfl (by kernel_rfl) (by kernel_rfl) (by kernel_rfl) (fun _ _ _ h => h) (yieldsIf_load_mid (by rfl) _ _ rfl _ _ rfl _ _ (fun W hW => hW.2) hu rfl hi2) (by assumption) ?_
  simp only [Act.put, List.setIfInBounds_toArray, List.set_cons_zero, List.set_cons_succ]
  refine wpAnyH_take (i := 9) rfl (by kernel_rfl) (by kernel_rfl) (by kernel_rfl) (fun _ _ _ h => h) (yieldsIf_load_mid (by rfl) _ _ rfl _ _ rfl _ _ (fun W hW => hW.1) hu rfl hi) (by assumption) ?_
  simp only [Act.put, List.setIfInBounds_toArray, List.set_cons_zero, List.set_cons_succ]
  refine wpAnyH_take (i := 10) rfl (by kernel_rfl) (by kernel_rfl) (by kernel_rfl) (fun _ _ _ h => h) (yieldsIf_load_mid (by rfl) _ _ rfl _ _ rfl _ _ (fun W hW => hW.2) hu rfl hi2) (by assumption) ?_
  simp only [Act.put, List.setIfInBounds_toArray, List.set_cons_zero, List.set_cons_succ]
  refine wpAnyH_take (i := 11) (oi := ⟨some 16, _, _, _, _, _⟩) (v := .bool false) rfl (by kernel_rfl) (by kernel_rfl) (by kernel_rfl) (fun _ _ _ h => h) (Or.inl ⟨by rfl, fun W hW => by first | (go_simp; done) | (go_simp; rfl) | (simp [*]; done)⟩) (by assumption) ?_
  simp only [Act.put, List.setIfInBounds_toArray, List.set_cons_zero, List.set_cons_succ]
  refine wpAnyH_ready (rs := [3]) (by kernel_rfl) (by simp) ?_
  refine AllReadyH.cons rfl (fun K hK => ?_) AllReadyH.nil
  go_simp
  go_wp2_with ((go_at_call 17; refine (HBl1.out _).mono ?_; rintro e wy ⟨g1, rfl, hr1, hg1, hb1⟩; have HBy : Hid (Below w0.heap.size w0 wy) := HBx.out.trans (hb1.mono HBx.out.size); have Y1 := Lib.hid (hr1.bytes M1.out (by rw [← L1.out]; decide)); have hcy := run_str wy 27 9 5 Tryd.underlying27 Tryd.underlying5 Tryd.underlying9 _ (some ⟨g1, 0, none⟩) 64 64 L1.out Y1.out; clear hr1 hg1 hb1))
  refine hK.out _ _ (KP.out _ HBy.out) (fun hHeld => ?_)
  clear hK K
  refine wpAnyH_ready (rs := [4, 6]) (by kernel_rfl) (by simp) ?_
  refine AllReadyH.cons rfl (fun K hK => ?_) ?_
  · go_simp
    refine hK.out _ _ (KP.out _ HBy.out) (fun hHeld => ?_)
    clear hK K
    refine wpAnyH_ready (rs := [6]) (by kernel_rfl) (by simp) ?_
    refine AllReadyH.cons rfl (fun K hK => ?_) AllReadyH.nil
    go_simp
    go_wp2_with ((go_at_call 17; refine (HBl2.out _).mono ?_; rintro e wz ⟨g2, rfl, hr2, hg2, hb2⟩; have HBz : Hid (Below w0.heap.size w0 wz) := HBy.out.trans (hb2.mono HBy.out.size); have hcz1 := run_str wz 27 9 5 Tryd.underlying27 Tryd.underlying5 Tryd.underlying9 _ (some ⟨g1, 0, none⟩) 64 64 L1.out (Y1.out.below hb2); have hcz2 := run_str wz 27 9 5 Tryd.underlying27 Tryd.underlying5 Tryd.underlying9 _ (some ⟨g2, 0, none⟩) 64 64 L2.out (hr2.bytes M2.out (by rw [← L2.out]; decide)); clear hr2 hg2 hb2))
    refine hK.out _ _ (KP.out _ HBz.out) (fun hHeld => ?_)
    clear hK K
    refine wpAnyH_ready (rs := [7]) (by kernel_rfl) (by simp) ?_
    refine AllReadyH.cons rfl (fun K hK => ?_) AllReadyH.nil
    go_simp
    refine hK.out _ _ (KP.out _ HBz.out) (fun hHeld => ?_)
    clear hK K
    refine wpAnyH_take (i := 8) (oi := ⟨some 13, _, _, _, _, _⟩) (v := .bool false) rfl (by kernel_rfl) (by kernel_rfl) (by kernel_rfl) (fun _ _ _ h => h) (Or.inl ⟨by rfl, fun W hW => by first | (go_simp; done) | (go_simp; rfl) | (simp [*]; done)⟩) (by assumption) ?_
    simp only [Act.put, List.setIfInBounds_toArray, List.set_cons_zero, List.set_cons_succ]
    refine wpAnyH_take (i := 12) (oi := ⟨some 17, _, _, _, _, _⟩) (v := .bool true) rfl (by kernel_rfl) (by kernel_rfl) (by kernel_rfl) (fun _ _ _ h => h) (Or.inl ⟨by rfl, fun W hW => by first | (go_simp; done) | (go_simp; rfl) | (simp [*]; done)⟩) (by assumption) ?_
    simp only [Act.put, List.setIfInBounds_toArray, List.set_cons_zero, List.set_cons_succ]
    refine wpAnyH_take (i := 13) (oi := ⟨some 18, _, _, _, _, _⟩) (v := .bool true) rfl (by kernel_rfl) (by kernel_rfl) (by kernel_rfl) (fun _ _ _ h => h) (Or.inl ⟨by rfl, fun W hW => by first | (go_simp; done) | (go_simp; rfl) | (simp [*]; done)⟩) (by assumption) ?_
    simp only [Act.put, List.setIfInBounds_toArray, List.set_cons_zero, List.set_cons_succ]
    refine wpAnyH_take (i := 14) (oi := ⟨some 4, _, _, _, _, _⟩) (v := .bool true) rfl (by kernel_rfl) (by kernel_rfl) (by kernel_rfl) (fun _ _ _ h => h) (Or.inl ⟨by rfl, fun W hW => by first | (go_simp; done) | (go_simp; rfl) | (simp [*]; done)⟩) (by assumption) ?_
    simp only [Act.put, List.setIfInBounds_toArray, List.set_cons_zero, List.set_cons_succ]
    refine wpAnyH_done (by kernel_rfl) ?_ _
    go_wp2_with fail
    go_ret
    exact ⟨by first | rfl | simp, HB0.out.trans (HBz.out.mono HB0.out.size)⟩
  refine AllReadyH.cons rfl (fun K hK => ?_) AllReadyH.nil
  go_simp
  go_wp2_with ((go_at_call 17; refine (HBl2.out _).mono ?_; rintro e wz ⟨g2, rfl, hr2, hg2, hb2⟩; have HBz : Hid (Below w0.heap.size w0 wz) := HBy.out.trans (hb2.mono HBy.out.size); have hcz1 := run_str wz 27 9 5 Tryd.underlying27 Tryd.underlying5 Tryd.underlying9 _ (some ⟨g1, 0, none⟩) 64 64 L1.out (Y1.out.below hb2); have hcz2 := run_str wz 27 9 5 Tryd.underlying27 Tryd.underlying5 Tryd.underlying9 _ (some ⟨g2, 0, none⟩) 64 64 L2.out (hr2.bytes M2.out (by rw [← L2.out]; decide)); clear hr2 hg2 hb2))
  refine hK.out _ _ (KP.out _ HBz.out) (fun hHeld => ?_)
  clear hK K
  refine wpAnyH_ready (rs := [4, 7]) (by kernel_rfl) (by simp) ?_
  refine AllReadyH.cons rfl (fun K hK => ?_) ?_
  · go_simp
    refine hK.out _ _ (KP.out _ HBz.out) (fun hHeld => ?_)
    clear hK K
    refine wpAnyH_ready (rs := [7]) (by kernel_rfl) (by simp) ?_
    refine AllReadyH.cons rfl (fun K hK => ?_) AllReadyH.nil
    go_simp
    refine hK.out _ _ (KP.out _ HBz.out) (fun hHeld => ?_)
    clear hK K
    refine wpAnyH_take (i := 8) (oi := ⟨some 13, _, _, _, _, _⟩) (v := .bool false) rfl (by kernel_rfl) (by kernel_rfl) (by kernel_rfl) (fun _ _ _ h => h) (Or.inl ⟨by rfl, fun W hW => by first | (go_simp; done) | (go_simp; rfl) | (simp [*]; done)⟩) (by assumption) ?_
    simp only [Act.put, List.setIfInBounds_toArray, List.set_cons_zero, List.set_cons_succ]
    refine wpAnyH_take (i := 12) (oi := ⟨some 17, _, _, _, _, _⟩) (v := .bool true) rfl (by kernel_rfl) (by kernel_rfl) (by kernel_rfl) (fun _ _ _ h => h) (Or.inl ⟨by rfl, fun W hW => by first | (go_simp; done) | (go_simp; rfl) | (simp [*]; done)⟩) (by assumption) ?_
    simp only [Act.put, List.setIfInBounds_toArray, List.set_cons_zero, List.set_cons_succ]
    refine wpAnyH_take (i := 13) (oi := ⟨some 18, _, _, _, _, _⟩) (v := .bool true) rfl (by kernel_rfl) (by kernel_rfl) (by kernel_rfl) (fun _ _ _ h => h) (Or.inl ⟨by rfl, fun W hW => by first | (go_simp; done) | (go_simp; rfl) | (simp [*]; done)⟩) (by assumption) ?_
    simp only [Act.put, List.setIfInBounds_toArray, List.set_cons_zero, List.set_cons_succ]
    refine wpAnyH_take (i := 14) (oi := ⟨some 4, _, _, _, _, _⟩) (v := .bool true) rfl (by kernel_rfl) (by kernel_rfl) (by kernel_rfl) (fun _ _ _ h => h) (Or.inl ⟨by rfl, fun W hW => by first | (go_simp; done) | (go_simp; rfl) | (simp [*]; done)⟩) (by assumption) ?_
    simp only [Act.put, List.setIfInBounds_toArray, List.set_cons_zero, List.set_cons_succ]
    refine wpAnyH_done (by kernel_rfl) ?_ _
    go_wp2_with fail
    go_ret
    exact ⟨by first | rfl | simp, HB0.out.trans (HBz.out.mono HB0.out.size)⟩
  refine AllReadyH.cons rfl (fun K hK => ?_) AllReadyH.nil
  go_simp
  refine hK.out _ _ (KP.out _ HBz.out) (fun hHeld => ?_)
  clear hK K
  refine wpAnyH_ready (rs := [4]) (by kernel_rfl) (by simp) ?_
  refine AllReadyH.cons rfl (fun K hK => ?_) AllReadyH.nil
  go_simp
  refine hK.out _ _ (KP.out _ HBz.out) (fun hHeld => ?_)
  clear hK K
  refine wpAnyH_take (i := 8) (oi := ⟨some 13, _, _, _, _, _⟩) (v := .bool false) rfl (by kernel_rfl) (by kernel_rfl) (by kernel_rfl) (fun _ _ _ h => h) (Or.inl ⟨by rfl, fun W hW => by first | (go_simp; done) | (go_simp; rfl) | (simp [*]; done)⟩) (by assumption) ?_
  simp only [Act.put, List.setIfInBounds_toArray, List.set_cons_zero, List.set_cons_succ]
  refine wpAnyH_take (i := 12) (oi := ⟨some 17, _, _, _, _, _⟩) (v := .bool true) rfl (by kernel_rfl) (by kernel_rfl) (by kernel_rfl) (fun _ _ _ h => h) (Or.inl ⟨by rfl, fun W hW => by first | (go_simp; done) | (go_simp; rfl) | (simp [*]; done)⟩) (by assumption) ?_
  simp only [Act.put, List.setIfInBounds_toArray, List.set_cons_zero, List.set_cons_succ]
  refine wpAnyH_take (i := 13) (oi := ⟨some 18, _, _, _, _, _⟩) (v := .bool true) rfl (by kernel_rfl) (by kernel_rfl) (by kernel_rfl) (fun _ _ _ h => h) (Or.inl ⟨by rfl, fun W hW => by first | (go_simp; done) | (go_simp; rfl) | (simp [*]; done)⟩) (by assumption) ?_
  simp only [Act.put, List.setIfInBounds_toArray, List.set_cons_zero, List.set_cons_succ]
  refine wpAnyH_take (i := 14) (oi := ⟨some 4, _, _, _, _, _⟩) (v := .bool true) rfl (by kernel_rfl) (by kernel_rfl) (by kernel_rfl) (fun _ _ _ h => h) (Or.inl ⟨by rfl, fun W hW => by first | (go_simp; done) | (go_simp; rfl) | (simp [*]; done)⟩) (by assumption) ?_
  simp only [Act.put, List.setIfInBounds_toArray, List.set_cons_zero, List.set_cons_succ]
  refine wpAnyH_done (by kernel_rfl) ?_ _
  go_wp2_with fail
  go_ret
  exact ⟨by first | rfl | simp, HB0.out.trans (HBz.out.mono HB0.out.size)⟩
theorem inodeLists_walk (p0 p1 p2 p3 p4 p5 p6 p7 p8 p9 p10 p11 p12 p13 p14 p15 r0 r1 r2 r3 r4 r5 r6 r7 r8 r9 r10 r11 r12 r13 r14 r15 : Nat) (w : World) (hL : Tab w ∧ 0 < w.heap.size) (h1 : p0 < 4294967296 ∧ p1 < 4294967296 ∧ p2 < 4294967296 ∧ p3 < 4294967296 ∧ p4 < 4294967296 ∧ p5 < 4294967296 ∧ p6 < 4294967296 ∧ p7 < 4294967296 ∧ p8 < 4294967296 ∧ p9 < 4294967296 ∧ p10 < 4294967296 ∧ p11 < 4294967296 ∧ p12 < 4294967296 ∧ p13 < 4294967296 ∧ p14 < 4294967296 ∧ p15 < 4294967296) (h2 : r0 < 4294967296 ∧ r1 < 4294967296 ∧ r2 < 4294967296 ∧ r3 < 4294967296 ∧ r4 < 4294967296 ∧ r5 < 4294967296 ∧ r6 < 4294967296 ∧ r7 < 4294967296 ∧ r8 < 4294967296 ∧ r9 < 4294967296 ∧ r10 < 4294967296 ∧ r11 < 4294967296 ∧ r12 < 4294967296 ∧ r13 < 4294967296 ∧ r14 < 4294967296 ∧ r15 < 4294967296) :
    Calls Tryd.prog 9 #[.agg (ptrs p0 p1 p2 p3 p4 p5 p6 p7 p8 p9 p10 p11 p12 p13 p14 p15), .agg (ptrs r0 r1 r2 r3 r4 r5 r6 r7 r8 r9 r10 r11 r12 r13 r14 r15)] w fun e w' => e = .returned (.bool true) ∧ Below w.heap.size w w' := by
  obtain ⟨q0, q1, q2, q3, q4, q5, q6, q7, q8, q9, q10, q11, q12, q13, q14, q15⟩ := h1
  obtain ⟨u0, u1, u2, u3, u4, u5, u6, u7, u8, u9, u10, u11, u12, u13, u14, u15⟩ := h2
  by_cases he : p0 = r0 ∧ p1 = r1 ∧ p2 = r2 ∧ p3 = r3 ∧ p4 = r4 ∧ p5 = r5 ∧ p6 = r6 ∧ p7 = r7 ∧ p8 = r8 ∧ p9 = r9 ∧ p10 = r10 ∧ p11 = r11 ∧ p12 = r12 ∧ p13 = r13 ∧ p14 = r14 ∧ p15 = r15
  · obtain ⟨rfl, rfl, rfl, rfl, rfl, rfl, rfl, rfl, rfl, rfl, rfl, rfl, rfl, rfl, rfl, rfl⟩ := he
    exact lists_same p0 p1 p2 p3 p4 p5 p6 p7 p8 p9 p10 p11 p12 p13 p14 p15 w hL.1 hL.2 q0 q1 q2 q3 q4 q5 q6 q7 q8 q9 q10 q11 q12 q13 q14 q15
  · exact lists_else p0 p1 p2 p3 p4 p5 p6 p7 p8 p9 p10 p11 p12 p13 p14 p15 r0 r1 r2 r3 r4 r5 r6 r7 r8 r9 r10 r11 r12 r13 r14 r15 w hL.1 hL.2 q0 q1 q2 q3 q4 q5 q6 q7 q8 q9 q10 q11 q12 q13 q14 q15 u0 u1 u2 u3 u4 u5 u6 u7 u8 u9 u10 u11 u12 u13 u14 u15 he
end Go.Proofs.YtfkobamemehkdaaDoor
