/-
  The walk of IndexOne: two blocks have one path just if they are the same; whoever goes by a path comes to its block.
-/
import Derived.Test.YtcekejaefbdhfaaIxSame
import Derived.Deep.RegionHeld3
namespace Go.Proofs.Ytcekejaefbdhfaa
open Go.RowKit

set_option maxHeartbeats 1000000 in
theorem one_no (a b : Int) (w : World) (ha : -9223372036854775808 ≤ a) (hb : -9223372036854775808 ≤ b) (h : isB a = false ∨ (isB a = true ∧ isB b = false)) :
    Calls Try.prog 6 #[.int .i64 a, .int .i64 b] w fun e w' => e = .returned (.bool true) ∧ Below w.heap.size w w' := by
  have HAw := Lib.hid awake_any
  rcases h with h | ⟨h, h'⟩
  · have HA := Lib.hid (fun W => to_no a W ha h)
    by_cases h2 : isB b = true
    · have HBy := Lib.hid (fun W => to_n b W hb h2 _ rfl)
      clear ha hb h h2
      go_enter Try.func6, Try.ntmps6
      go_wp2_with fail
      refine (HAw.out _).mono ?_
      rintro e w1 ⟨rfl, hb1⟩
      have HB1 := Lib.hid hb1
      clear hb1
      go_wp2_with fail
      refine (HA.out _).mono ?_
      rintro e w2 ⟨rfl, hb2⟩
      have HB2 : Hid (Below w.heap.size w (w2.alloc (.cells #[.int .i64 0, .slice none 0 0, .slice none 0 0] 30))) := (HB1.out.trans (hb2.mono HB1.out.size)).alloc (HB1.out.trans (hb2.mono HB1.out.size)).size _
      clear hb2 HB1
      go_wp2_with fail
      refine (HBy.out _).mono ?_
      rintro e w3 ⟨a1, c1, a2, c2, rfl, _, _, _, _, hb3⟩
      have HB3 : Hid (Below w.heap.size w w3) := HB2.out.trans (hb3.mono HB2.out.size)
      clear hb3 HB2
      go_wp2_with fail
      go_ret
      exact ⟨rfl, HB3.out.alloc HB3.out.size _⟩
    · have HBn := Lib.hid (fun W => to_no b W hb (by simpa using h2))
      clear ha hb h h2
      go_enter Try.func6, Try.ntmps6
      go_wp2_with fail
      refine (HAw.out _).mono ?_
      rintro e w1 ⟨rfl, hb1⟩
      have HB1 := Lib.hid hb1
      clear hb1
      go_wp2_with fail
      refine (HA.out _).mono ?_
      rintro e w2 ⟨rfl, hb2⟩
      have HB2 : Hid (Below w.heap.size w (w2.alloc (.cells #[.int .i64 0, .slice none 0 0, .slice none 0 0] 30))) := (HB1.out.trans (hb2.mono HB1.out.size)).alloc (HB1.out.trans (hb2.mono HB1.out.size)).size _
      clear hb2 HB1
      go_wp2_with fail
      refine (HBn.out _).mono ?_
      rintro e w3 ⟨rfl, hb3⟩
      have HB3 : Hid (Below w.heap.size w w3) := HB2.out.trans (hb3.mono HB2.out.size)
      clear hb3 HB2
      go_wp2_with fail
      go_ret
      exact ⟨rfl, HB3.out.alloc HB3.out.size _⟩
  · have HA := Lib.hid (fun W => to_n a W ha h _ rfl)
    have HBn := Lib.hid (fun W => to_no b W hb h')
    clear ha hb h h'
    go_enter Try.func6, Try.ntmps6
    go_wp2_with fail
    refine (HAw.out _).mono ?_
    rintro e w1 ⟨rfl, hb1⟩
    have HB1 := Lib.hid hb1
    clear hb1
    go_wp2_with fail
    refine (HA.out _).mono ?_
    rintro e w2 ⟨a1, c1, a2, c2, rfl, _, _, _, _, hb2⟩
    have HB2 := Lib.hid (HB1.out.trans (hb2.mono HB1.out.size))
    clear hb2 HB1
    go_wp2_with fail
    refine (HBn.out _).mono ?_
    rintro e w3 ⟨rfl, hb3⟩
    have HB3 : Hid (Below w.heap.size w w3) := (HB2.out.alloc HB2.out.size _).trans (hb3.mono (HB2.out.alloc HB2.out.size _).size)
    clear hb3 HB2
    go_wp2_with fail
    go_ret
    exact ⟨rfl, HB3.out.alloc HB3.out.size _⟩
/-- How things stand at the head of IndexOne's loop. -/
def OneRel (w : World) (g1 : Nat) (R1 : Int) (a1 a2 : Option Addr) (k1 c1 c2 : Nat) (ms ss : List Int) (t : Value) (wr : World) : Prop :=
  ∃ k : Nat, t = .int .i64 k ∧ k ≤ k1 ∧ Blo wr g1 30 #[.int .i64 R1, .slice a1 k1 c1, .slice a2 k1 c2] ∧ Ints wr a1 ms ∧ Ints wr a2 ss ∧ Below w.heap.size w wr
set_option maxRecDepth 100000 in
set_option maxHeartbeats 4000000 in
theorem one_yes (a b : Int) (w : World) (ha : isB a = true) (hb : isB b = true) :
    Calls Try.prog 6 #[.int .i64 a, .int .i64 b] w fun e w' => e = .returned (.bool true) ∧ Below w.heap.size w w' := by
  have HAw := Lib.hid awake_any
  have ra := isB_range a ha
  have rb := isB_range b hb
  have HA := Lib.hid (fun W => to_n a W (by omega) ha _ rfl)
  have HBy := Lib.hid (fun W => to_n b W (by omega) hb _ rfl)
  have CA := Lib.hid (fun W => covers_yes a W (by omega) ha)
  have LA := Lib.hid (fun W => lawLevel_yes a W (by omega) ha)
  have hsame := (same_iff a b ha hb).trans (show decide (a = b) = (a == b) by by_cases h : a = b <;> simp [h])
  have hway := way a ha
  have b1 := fOf_bd a ha
  have l1 := metas_len (fOf a) (lvOf a)
  have l2 := slots_len (fOf a) (lvOf a)
  have l3 := metas_len (fOf b) (lvOf b)
  have l4 := slots_len (fOf b) (lvOf b)
  have l5 := path_len (fOf a) (lvOf a)
  have hl := lvOf_bd a
  have hr := rLev_bd (fOf a)
  rw [l1] at hway
  have hk1 : (pathM (fOf a) (lvOf a)).length ≤ 3 := by omega
  clear l5 hr ha hb
  generalize (pathM (fOf a) (lvOf a)).length = k1 at *
  generalize (pathM (fOf b) (lvOf b)).length = k2 at *
  generalize metasM (fOf a) (lvOf a) = ms at *
  generalize slotsM (fOf a) (lvOf a) = ss at *
  generalize metasM (fOf b) (lvOf b) = ms2 at *
  generalize slotsM (fOf b) (lvOf b) = ss2 at *
  generalize rPtr (fOf a) = R1 at *
  generalize rPtr (fOf b) = R2 at *
  generalize lvOf a = la at *
  generalize fOf a = x at *
  generalize manyM x la = ma at *
  have HS := Lib.hid hsame
  have HW := Lib.hid hway
  have L1 := Lib.hid l1.symm
  have L2 := Lib.hid l2.symm
  have L3 := Lib.hid l3.symm
  have L4 := Lib.hid l4.symm
  clear hsame hway l1 l2 l3 l4
  go_enter Try.func6, Try.ntmps6
  go_wp2_with fail
  refine (HAw.out _).mono ?_
  rintro e w1 ⟨rfl, hb1⟩
  have HB1 := Lib.hid hb1
  clear hb1 HAw
  go_wp2_with fail
  refine (HA.out _).mono ?_
  rintro e w2 ⟨a1, c1, a2, c2, rfl, hi1, hi2, hc1, hc2, hb2⟩
  have I1 := Lib.hid (hi1.below (sup_below w2 (.cells #[.int .i64 R1, .slice a1 k1 c1, .slice a2 k1 c2] 30)))
  have I2 := Lib.hid (hi2.below (sup_below w2 (.cells #[.int .i64 R1, .slice a1 k1 c1, .slice a2 k1 c2] 30)))
  have G1 := Lib.hid (blo_laid w2 30 #[.int .i64 R1, .slice a1 k1 c1, .slice a2 k1 c2])
  have HB2 : Hid (Below w.heap.size w (w2.alloc (.cells #[.int .i64 R1, .slice a1 k1 c1, .slice a2 k1 c2] 30))) := (HB1.out.trans (hb2.mono HB1.out.size)).alloc (HB1.out.trans (hb2.mono HB1.out.size)).size _
  clear hi1 hi2 hb2 HA HB1
  go_wp2_with fail
  refine (HBy.out _).mono ?_
  rintro e w3 ⟨b1', d1, b2', d2, rfl, hj1, hj2, hd1, hd2, hb3⟩
  have I1' := Lib.hid ((I1.out.below hb3).below (sup_below w3 (.cells #[.int .i64 R2, .slice b1' k2 d1, .slice b2' k2 d2] 30)))
  have I2' := Lib.hid ((I2.out.below hb3).below (sup_below w3 (.cells #[.int .i64 R2, .slice b1' k2 d1, .slice b2' k2 d2] 30)))
  have J1 := Lib.hid (hj1.below (sup_below w3 (.cells #[.int .i64 R2, .slice b1' k2 d1, .slice b2' k2 d2] 30)))
  have J2 := Lib.hid (hj2.below (sup_below w3 (.cells #[.int .i64 R2, .slice b1' k2 d1, .slice b2' k2 d2] 30)))
  have G1' := Lib.hid ((G1.out.later hb3).alloc (.cells #[.int .i64 R2, .slice b1' k2 d1, .slice b2' k2 d2] 30))
  have G2 := Lib.hid (blo_laid w3 30 #[.int .i64 R2, .slice b1' k2 d1, .slice b2' k2 d2])
  have HB3 : Hid (Below w.heap.size w (w3.alloc (.cells #[.int .i64 R2, .slice b1' k2 d1, .slice b2' k2 d2] 30))) := (HB2.out.trans (hb3.mono HB2.out.size)).alloc (HB2.out.trans (hb3.mono HB2.out.size)).size _
  clear hj1 hj2 hb3 HBy HB2 I1 I2 G1
  go_wp2_with fail
  generalize w2.heap.size = g1 at *
  generalize w3.heap.size = g2 at *
  generalize w3.alloc (.cells #[.int .i64 R2, .slice b1' k2 d1, .slice b2' k2 d2] 30) = w4 at *
  have KP : Hid (∀ W, Below w4.heap.size w4 W → W.cell? ⟨g1, 0, none⟩ = some (.int .i64 R1) ∧ W.cell? ⟨g1, 1, none⟩ = some (.slice a1 k1 c1) ∧ W.cell? ⟨g1, 2, none⟩ = some (.slice a2 k1 c2) ∧
      W.cell? ⟨g2, 0, none⟩ = some (.int .i64 R2) ∧ W.cell? ⟨g2, 1, none⟩ = some (.slice b1' k2 d1) ∧ W.cell? ⟨g2, 2, none⟩ = some (.slice b2' k2 d2)) := fun W hb =>
    ⟨by simpa using (G1'.out.later hb).cell 0, by simpa using (G1'.out.later hb).cell 1, by simpa using (G1'.out.later hb).cell 2, by simpa using (G2.out.later hb).cell 0, by simpa using (G2.out.later hb).cell 1, by simpa using (G2.out.later hb).cell 2⟩
  have HR : Hid (∀ (R : Int) a b n c d W, Calls Try.prog 16 #[.agg #[.int .i64 R, .slice a n c, .slice b n d]] W fun e w' => e = .returned (.agg #[.int .i64 R, .slice a n c, .slice b n d]) ∧ Below W.heap.size W w') := fun R a b n c d W => lawRef_any R a b n c n d W
  go_region_held3 (fun W => W.cell? ⟨g1, 0, none⟩ = some (.int .i64 R1) ∧ W.cell? ⟨g1, 1, none⟩ = some (.slice a1 k1 c1) ∧ W.cell? ⟨g1, 2, none⟩ = some (.slice a2 k1 c2) ∧
      W.cell? ⟨g2, 0, none⟩ = some (.int .i64 R2) ∧ W.cell? ⟨g2, 1, none⟩ = some (.slice b1' k2 d1) ∧ W.cell? ⟨g2, 2, none⟩ = some (.slice b2' k2 d2))
    (first | exact KP.out _ ((Below.refl _ _).drew) | exact KP.out _ HBz.out | exact KP.out _ HBy.out | exact KP.out _ HBx.out | fail)
    (first
      | (go_at_call 15; refine (same_any R1 R2 ms ms2 ss ss2 a1 b1' a2 b2' k1 k2 c1 d1 c2 d2 _ L1.out L2.out L3.out L4.out (by omega) (I1'.out.below HBy.out) (I2'.out.below HBy.out) (J1.out.below HBy.out) (J2.out.below HBy.out)).mono ?_; rw [HS.out]; rintro e wz ⟨rfl, hbz⟩; have HBz : Hid (Below w4.heap.size w4 wz) := HBy.out.trans (hbz.mono HBy.out.size); clear hbz)
      | (go_at_call 16; have hq := HBx.out; clear hq; refine (HR.out _ _ _ _ _ _ _).mono ?_; rintro e wy ⟨rfl, hby⟩; have HBy : Hid (Below w4.heap.size w4 wy) := HBx.out.trans (hby.mono HBx.out.size); clear hby)
      | (go_at_call 16; refine (HR.out _ _ _ _ _ _ _).mono ?_; rintro e wx ⟨rfl, hbx⟩; have HBx : Hid (Below w4.heap.size w4 wx) := ((Below.refl _ _).drew).trans hbx; clear hbx))
  have G3 := Lib.hid (G1'.out.later HBz.out)
  have I3 := Lib.hid (I1'.out.below HBz.out)
  have I4 := Lib.hid (I2'.out.below HBz.out)
  have HB5 : Hid (Below w.heap.size w wz) := HB3.out.trans (HBz.out.mono HB3.out.size)
  clear KP HR HBx HBy HBz G1' G2 I1' I2' J1 J2 HB3 HS L3 L4
  have g31 := G3.out.cell 1
  simp at g31
  go_wp2_with fail
  clear g31
  go_loopw [49] (fun t wr => OneRel w g1 R1 a1 a2 k1 c1 c2 ms ss t wr) (fun t _ => k1 - (intOf t).toNat)
  case atStart => exact ⟨0, rfl, by omega, G3.out, I3.out, I4.out, HB5.out⟩
  case round =>
    obtain ⟨k, rfl, hk, hG, hI1, hI2, hBe⟩ := hrel
    have G4 := Lib.hid hG
    have I5 := Lib.hid hI1
    have I6 := Lib.hid hI2
    have HB6 := Lib.hid hBe
    clear hG hI1 hI2 hBe G3 I3 I4 HB5
    by_cases hlt : k < k1
    · obtain ⟨ba, oa, rfl, hx⟩ := I5.out (by intro e; have := L1.out; rw [e] at this; simp at this; omega)
      obtain ⟨bb, ob, rfl, hy⟩ := I6.out (by intro e; have := L2.out; rw [e] at this; simp at this; omega)
      have x1 := hx k (by have := L1.out; omega)
      have y1 := hy k (by have := L2.out; omega)
      clear hx hy
      have hw1 := HW.out k hlt _ _ rfl rfl
      generalize ms.getD k 0 = m at *
      generalize ss.getD k 0 = s at *
      obtain ⟨hm, w2', w3', w4', w5', w6'⟩ := hw1
      have rm := isB_range m hm
      have CM := Lib.hid (fun W => covers_yes m W (by omega) hm)
      have LM := Lib.hid (fun W => level_yes m W (by omega) hm)
      rw [w6'] at LM
      have bm := fOf_bd m hm
      have bmm : manyM (fOf m) (lvOf m) ≤ 4096 := by
        have := spanM_bd (lvOf m)
        unfold manyM
        split <;> omega
      clear hm w6' rm
      generalize manyM (fOf m) (lvOf m) = mm at *
      generalize fOf m = fm at *
      have y1' := Lib.hid y1
      clear y1
      go_wp2_with fail
      refine (CM.out _).mono ?_
      rintro e v1 ⟨rfl, hb1⟩
      have HV1 := Lib.hid hb1
      clear hb1 x1
      go_wp2_with fail
      refine (LM.out _).mono ?_
      rintro e v2 ⟨rfl, hb2⟩
      have HV2 : Hid (Below wr.heap.size wr v2) := HV1.out.trans (hb2.mono HV1.out.size)
      clear hb2 HV1
      go_wp2_with fail
      refine (CA.out _).mono ?_
      rintro e v3 ⟨rfl, hb3⟩
      have HV3 : Hid (Below wr.heap.size wr v3) := HV2.out.trans (hb3.mono HV2.out.size)
      clear hb3 HV2
      go_wp2_with fail
      have KP : Hid (∀ W, Below wr.heap.size wr W → W.cell? ⟨g1, 1, none⟩ = some (.slice (some ⟨ba, oa, none⟩) k1 c1) ∧ W.cell? ⟨g1, 2, none⟩ = some (.slice (some ⟨bb, ob, none⟩) k1 c2) ∧ W.cell? ⟨bb, ob + k, none⟩ = some (.int .i64 s)) := fun W hb =>
        ⟨by simpa using (G4.out.later hb).cell 1, by simpa using (G4.out.later hb).cell 2, cell_later hb y1'.out⟩
      have n1 : ¬ x < fm := by omega
      have n2 : ¬ fm + mm ≤ x := by omega
      have n3 : ¬ s < 0 := by omega
      have n4 : ¬ 15 < s := by omega
      have z0 : (0 : Int) ≤ (k : Int) := by omega
      have z1 : (k : Int) < (k1 : Int) := by omega
      have s1 : IntKind.i64.wrap (fm + mm) = fm + mm := IntWalk.i64_in _ (by omega)
      have s2 : IntKind.i64.wrap ((k1 : Int) - k) = (k1 : Int) - k := IntWalk.i64_in _ (by omega)
      have s3 : IntKind.i64.wrap ((k1 : Int) - k + la) = (k1 : Int) - k + la := IntWalk.i64_in _ (by omega)
      have e9 : (((k1 : Int) - k + la) != ((k1 : Int) - k + la)) = false := by simp
      go_region_held3 (fun W => W.cell? ⟨g1, 1, none⟩ = some (.slice (some ⟨ba, oa, none⟩) k1 c1) ∧ W.cell? ⟨g1, 2, none⟩ = some (.slice (some ⟨bb, ob, none⟩) k1 c2) ∧ W.cell? ⟨bb, ob + k, none⟩ = some (.int .i64 s))
        (first | exact KP.out _ HVx.out | exact KP.out _ HV3.out.drew | fail)
        ((go_at_call 22; refine (LA.out _).mono ?_; rintro e vx ⟨rfl, hbx⟩; have HVx : Hid (Below wr.heap.size wr vx) := HV3.out.trans ((((Below.refl _ _).drew).trans hbx).mono HV3.out.size); clear hbx))
      clear s1 s2 s3 e9
      have hfin : OneRel w g1 R1 (some ⟨ba, oa, none⟩) (some ⟨bb, ob, none⟩) k1 c1 c2 ms ss (.int .i64 ((k + 1 : Nat) : Int)) vx := ⟨k + 1, rfl, by omega, G4.out.later HVx.out, I5.out.below HVx.out, I6.out.below HVx.out, HB6.out.trans (HVx.out.mono HB6.out.size)⟩
      have FIN := Lib.hid hfin
      clear hfin KP HV3 HVx n1 n2 n3 n4 G4 I5 I6 HB6 y1' CM LM
      go_wp2_with fail
      go_roundw
      case rel => exact FIN.out
      case measure => simp [intOf] <;> omega
    · obtain rfl : k = k1 := by omega
      have x1 := G4.out.cell 1
      have x2 := G4.out.cell 2
      simp at x1 x2
      have e9 : ((k : Int) == (k : Int)) = true := by simp
      go_wp2_with fail
      go_ret
      exact ⟨by simp, HB6.out⟩
theorem indexOne_walk (a b : Int) (w : World) (ha : (Lit.int .i64 a).wf = true) (hb : (Lit.int .i64 b).wf = true) :
    Calls Try.prog 6 #[.int .i64 a, .int .i64 b] w fun e w' => e = .returned (.bool true) ∧ Below w.heap.size w w' := by
  have h1 := Go.bounds_i64 ha
  have h2 := Go.bounds_i64 hb
  by_cases h : isB a = true
  · by_cases h' : isB b = true
    · exact one_yes a b w h h'
    · exact one_no a b w (by omega) (by omega) (.inr ⟨h, by simpa using h'⟩)
  · exact one_no a b w (by omega) (by omega) (.inl (by simpa using h))
end Go.Proofs.Ytcekejaefbdhfaa
