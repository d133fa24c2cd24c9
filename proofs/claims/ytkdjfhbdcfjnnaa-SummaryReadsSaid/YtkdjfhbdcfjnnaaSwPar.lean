/-
  The walk of summary.parse.
-/
import Derived.Test.YtkdjfhbdcfjnnaaSwParM
import Derived.Deep.DeepCutAuto
namespace Go.Proofs.Ytkdjfhbdcfjnnaa
open Go.RowKit

set_option maxRecDepth 100000 in
set_option maxHeartbeats 4000000 in
theorem parse_any {w : World} (a : Option Addr) (n cap : Nat) (L : List Nat) (hn : n = L.length) (h9 : n ≤ 1000) (hcap : n ≤ cap) (hY : Bytes w a L) (hnl : a = none → L = [] ∧ cap = 0) :
    Calls Try.prog 34 #[.slice a n cap] w fun e w' => ∃ fa fc av iv SB, e = .returned (.tuple #[.agg #[.int .i64 0, .int .i64 0, .int .i64 (at' L 0 : Nat), .int .i64 (at' L 1 : Nat), .int .i64 (v2 L 2 : Nat), .slice fa (at' L 4) fc, iv], .int .u32 (sumM L : Nat)]) ∧
      Fo w' w.heap.size (.slice fa (at' L 4) fc) av (filesM L (at' L 4)) (at' L 4) ∧ w'.ownsRow SB IT 1 iv (at' L 5) (cellsI (inosM L (pos L (at' L 4)) (at' L 5))) ∧ (∀ i g, i < at' L 4 → (av i).ownBlock = some g → g < SB) ∧ SepAv av (at' L 4) ∧ w.heap.size ≤ SB ∧ Below w.heap.size w w' := by
  have HN := Lib.hid hn
  have H9 := Lib.hid h9
  have HBL : Hid (∀ i, at' L i < 256) := fun i => at_lt hY.1 i
  have HR0 : Hid (RdW w (w.heap.size + 1) (L.drop 0) ((w.alloc (.cells #[.int .i64 0, .int .i64 0, .int .i64 0, .int .i64 0, .int .i64 0, .slice none 0 0, .slice none 0 0] 25)).alloc (.cells #[.slice a n cap] TRD))) := by
    have := blo_laid (w.alloc (.cells #[.int .i64 0, .int .i64 0, .int .i64 0, .int .i64 0, .int .i64 0, .slice none 0 0, .slice none 0 0] 25)) TRD #[.slice a n cap]
    rw [World.size_alloc] at this
    exact ⟨a, n, cap, ⟨this, hn, hcap, h9, (hY.below (sup_pc _ _)).below (sup_pc _ _), hnl⟩, hY⟩
  have HT0 : Hid (Blo ((w.alloc (.cells #[.int .i64 0, .int .i64 0, .int .i64 0, .int .i64 0, .int .i64 0, .slice none 0 0, .slice none 0 0] 25)).alloc (.cells #[.slice a n cap] TRD)) w.heap.size 25 #[.int .i64 0, .int .i64 0, .int .i64 0, .int .i64 0, .int .i64 0, .slice none 0 0, .slice none 0 0]) := (blo_laid w _ _).later (sup_pc _ _)
  have HB0 : Hid (Below w.heap.size w ((w.alloc (.cells #[.int .i64 0, .int .i64 0, .int .i64 0, .int .i64 0, .int .i64 0, .slice none 0 0, .slice none 0 0] 25)).alloc (.cells #[.slice a n cap] TRD))) := (sup_pc w _).trans ((sup_pc _ _).mono (by simp))
  have HS0 : Hid (((w.alloc (.cells #[.int .i64 0, .int .i64 0, .int .i64 0, .int .i64 0, .int .i64 0, .slice none 0 0, .slice none 0 0] 25)).alloc (.cells #[.slice a n cap] TRD)).heap.size = w.heap.size + 2) := by simp [Hid]
  clear hY hnl hcap h9 hn
  go_enter Try.func34, Try.ntmps34
  go_wp2_with fail
  generalize (w.alloc (.cells #[.int .i64 0, .int .i64 0, .int .i64 0, .int .i64 0, .int .i64 0, .slice none 0 0, .slice none 0 0] 25)).alloc (.cells #[.slice a n cap] TRD) = u0 at *
  refine (take_rd 1 (w.heap.size + 1) L 0 HR0.out (by decide)).mono ?_
  rintro e u1 ⟨rfl, hr, hg⟩
  have HR1 := Lib.hid hr
  have HT1 := Lib.hid (HT0.out.grown hg (by simp))
  have HB1 := Lib.hid (HB0.out.grown hg HB0.out.size (fun k e => by cases e; omega))
  have HS1 : Hid (w.heap.size + 2 ≤ u1.heap.size) := Nat.le_trans (by have := HS0.out; omega) hg.size
  rw [val_1 L 0]
  clear hr hg HR0 HT0 HB0 HS0
  go_wp2_with fail
  refine (take_rd 1 (w.heap.size + 1) L 1 HR1.out (by decide)).mono ?_
  rintro e u2 ⟨rfl, hr, hg⟩
  have HR2 := Lib.hid hr
  have HT2 := Lib.hid (HT1.out.grown hg (by simp))
  have HB2 := Lib.hid (HB1.out.grown hg HB1.out.size (fun k e => by cases e; omega))
  have HS2 : Hid (w.heap.size + 2 ≤ u2.heap.size) := Nat.le_trans (by exact HS1.out) hg.size
  rw [val_1 L 1]
  clear hr hg HR1 HT1 HB1 HS1
  go_wp2_with fail
  refine (take_rd 2 (w.heap.size + 1) L 2 HR2.out (by decide)).mono ?_
  rintro e u3 ⟨rfl, hr, hg⟩
  have HR3 := Lib.hid hr
  have HT3 := Lib.hid (HT2.out.grown hg (by simp))
  have HB3 := Lib.hid (HB2.out.grown hg HB2.out.size (fun k e => by cases e; omega))
  have HS3 : Hid (w.heap.size + 2 ≤ u3.heap.size) := Nat.le_trans (by exact HS2.out) hg.size
  rw [val_2 L 2]
  clear hr hg HR2 HT2 HB2 HS2
  go_wp2_with fail
  have HP : Hid (Pr w L (at' L 0 : Nat) (at' L 1 : Nat) (v2 L 2 : Nat) u3.heap.size 4 (.slice none 0 0) (.slice none 0 0) (u3.alloc (.cells #[.int .i64 0, .int .i64 0, .int .i64 (at' L 0 : Nat), .int .i64 (at' L 1 : Nat), .int .i64 (v2 L 2 : Nat), .slice none 0 0, .slice none 0 0] 25))) := by
    have hb := sup_pc u3 (.cells #[.int .i64 0, .int .i64 0, .int .i64 (at' L 0 : Nat), .int .i64 (at' L 1 : Nat), .int .i64 (v2 L 2 : Nat), .slice none 0 0, .slice none 0 0] 25)
    obtain ⟨a', n', c', hr, hy⟩ := HR3.out
    exact ⟨HT3.out.later hb, RdW.move ⟨a', n', c', hr, hy⟩ (hb.block _ hr.blo.lt) (HB3.out.trans (hb.mono HB3.out.size)), blo_laid u3 _ _, HB3.out.trans (hb.mono HB3.out.size), by have := HS3.out; omega⟩
  have HPs : Hid (u3.heap.size < (u3.alloc (.cells #[.int .i64 0, .int .i64 0, .int .i64 (at' L 0 : Nat), .int .i64 (at' L 1 : Nat), .int .i64 (v2 L 2 : Nat), .slice none 0 0, .slice none 0 0] 25)).heap.size) := by simp [Hid]
  clear HR3 HT3 HB3 HS3
  generalize u3.alloc (.cells #[.int .i64 0, .int .i64 0, .int .i64 (at' L 0 : Nat), .int .i64 (at' L 1 : Nat), .int .i64 (v2 L 2 : Nat), .slice none 0 0, .slice none 0 0] 25) = y0 at *
  generalize u3.heap.size = P at *
  refine (take_rd 1 (w.heap.size + 1) L 4 HP.out.rd (by decide)).mono ?_
  rintro e y1 ⟨rfl, hr, hg⟩
  have HP1 := Lib.hid (HP.out.take hr hg)
  have HQ1 : Hid (P < y1.heap.size) := Nat.lt_of_lt_of_le HPs.out hg.size
  rw [val_1 L 4]
  clear hr hg HP HPs
  go_wp2_with fail
  refine (take_rd 1 (w.heap.size + 1) L 5 HP1.out.rd (by decide)).mono ?_
  rintro e y2 ⟨rfl, hr, hg⟩
  have HP2 := Lib.hid (HP1.out.take hr hg)
  have HQ2 : Hid (P < y2.heap.size) := Nat.lt_of_lt_of_le HQ1.out hg.size
  rw [val_1 L 5]
  clear hr hg HP1 HQ1
  go_wp2_with fail
  refine (take_rd 4 (w.heap.size + 1) L 6 HP2.out.rd (by decide)).mono ?_
  rintro e y3 ⟨rfl, hr, hg⟩
  have HP3 := Lib.hid (HP2.out.take hr hg)
  have HQ3 : Hid (P < y3.heap.size) := Nat.lt_of_lt_of_le HQ2.out hg.size
  rw [show val ((L.drop 6).take 4) = sumM L from val_4 L 6]
  clear hr hg HP2 HQ2
  have hsum : sumM L < 4294967296 := by
    have b6 := HBL.out 6
    have b7 := HBL.out 7
    have b8 := HBL.out 8
    have b9 := HBL.out 9
    unfold sumM
    omega
  have hb4 := HBL.out 4
  have hb5 := HBL.out 5
  obtain ⟨nf, hnf⟩ : ∃ nf, at' L 4 = nf := ⟨_, rfl⟩
  obtain ⟨ni, hni⟩ : ∃ ni, at' L 5 = ni := ⟨_, rfl⟩
  obtain ⟨sm, hsm⟩ : ∃ sm, sumM L = sm := ⟨_, rfl⟩
  obtain ⟨pi, hpi⟩ : ∃ pi, at' L 0 = pi := ⟨_, rfl⟩
  obtain ⟨pp, hpp⟩ : ∃ pp, at' L 1 = pp := ⟨_, rfl⟩
  obtain ⟨px, hpx⟩ : ∃ px, v2 L 2 = px := ⟨_, rfl⟩
  have HEq := Lib.hid (show at' L 4 = nf ∧ at' L 5 = ni ∧ sumM L = sm ∧ at' L 0 = pi ∧ at' L 1 = pp ∧ v2 L 2 = px from ⟨hnf, hni, hsm, hpi, hpp, hpx⟩)
  simp only [hnf, hni, hsm, hpi, hpp, hpx] at hb4 hb5 hsum HP3 ⊢
  clear hpi hpp hpx hsm hnf hni
  go_wp2_with fail
  go_loopw [9, 29] (fun _ t wr => ∃ k : Nat, k ≤ nf ∧ t = .int .i64 k ∧ ∃ fa fc av, Pr w L (pi : Nat) (pp : Nat) (px : Nat) P (pos L k) (.slice fa k fc) (.slice none 0 0) wr ∧ Fo wr (P + 1) (.slice fa k fc) av (filesM L nf) k ∧ SepAv av k ∧ P < wr.heap.size) (fun _ t _ => nf - (intOf t).toNat)
  case atStart => exact ⟨0, Nat.zero_le _, rfl, none, 0, _, HP3.out, fo_nil _ _ _, (fun i j _ h => by omega), HQ3.out⟩
  case round =>
    clear HP3 HQ3
    obtain ⟨k, hk, rfl, fa, fc, av, hP, hFo, hSep, hsz⟩ := hrel
    have HSep := Lib.hid hSep
    clear hSep
    by_cases hlt : k < nf
    · obtain ⟨o, ho⟩ : ∃ o, pos L k = o := ⟨_, rfl⟩
      have HE1 : Hid (pos L (k + 1) = o + 4 + 2 * at' L (o + 3)) := by show nxt L (pos L k) = _; rw [ho]; rfl
      have HE2 : Hid ((filesM L nf).getD k fi0 = fiAt L o) := by show _ = _; rw [filesM_get L hlt, ho]
      rw [ho] at hP
      have HP := Lib.hid hP
      have HF := Lib.hid hFo
      have HZ := Lib.hid hsz
      clear hP hFo hsz ho
      have l1 := HP.out.lo
      go_wp2_with fail
      refine (take_rd 1 (w.heap.size + 1) L o HP.out.rd (by decide)).mono ?_
      rintro e x1 ⟨rfl, hr, hg⟩
      have HP1 := Lib.hid (HP.out.take hr hg)
      have HF1 := Lib.hid (HF.out.out (Out.of_grown (X := fun g => g = w.heap.size + 1) hg (fun g e => by cases e; rfl)) (fun g e _ => by omega))
      have HZ1 : Hid (P < x1.heap.size) := Nat.lt_of_lt_of_le HZ.out hg.size
      rw [val_1 L o]
      clear hr hg HP HF HZ
      go_wp2_with fail
      refine (take_rd 2 (w.heap.size + 1) L (o + 1) HP1.out.rd (by decide)).mono ?_
      rintro e x2 ⟨rfl, hr, hg⟩
      have HP2 := Lib.hid (HP1.out.take hr hg)
      have HF2 := Lib.hid (HF1.out.out (Out.of_grown (X := fun g => g = w.heap.size + 1) hg (fun g e => by cases e; rfl)) (fun g e _ => by omega))
      have HZ2 : Hid (P < x2.heap.size) := Nat.lt_of_lt_of_le HZ1.out hg.size
      rw [val_2 L (o + 1)]
      clear hr hg HP1 HF1 HZ1
      have HP3 := Lib.hid (HP2.out.later (sup_pc x2 (.cells #[.int .i64 (at' L o : Nat), .int .i64 (v2 L (o + 1) : Nat), .slice none 0 0] FN)))
      have HX3 := Lib.hid (blo_laid x2 FN #[.int .i64 (at' L o : Nat), .int .i64 (v2 L (o + 1) : Nat), .slice none 0 0])
      have HF3 := Lib.hid (HF2.out.later (sup_pc x2 (.cells #[.int .i64 (at' L o : Nat), .int .i64 (v2 L (o + 1) : Nat), .slice none 0 0] FN)))
      have HLt := Lib.hid HF2.out.lt
      have hPF : P < x2.heap.size := HZ2.out
      have HS3 : Hid ((x2.alloc (.cells #[.int .i64 (at' L o : Nat), .int .i64 (v2 L (o + 1) : Nat), .slice none 0 0] FN)).heap.size = x2.heap.size + 1) := by simp [Hid]
      go_wp2_with fail
      refine (take_rd 1 (w.heap.size + 1) L (o + 3) HP3.out.rd (by decide)).mono ?_
      rintro e x3 ⟨rfl, hr, hg⟩
      have HP4 : Hid (Pr w L (pi : Nat) (pp : Nat) (px : Nat) P (o + 4 + 2 * 0) (.slice fa k fc) (.slice none 0 0) x3) := HP3.out.take hr hg
      have HX4 := Lib.hid (HX3.out.grown hg (by simp; omega))
      have HF4 := Lib.hid (HF3.out.out (Out.of_grown (X := fun g => g = w.heap.size + 1) hg (fun g e => by cases e; rfl)) (fun g e _ => by omega))
      have HS4 : Hid (x2.heap.size < x3.heap.size) := by have := hg.size; have := HS3.out; show _ < _; omega
      rw [val_1 L (o + 3)]
      clear hr hg HP2 HF2 HZ2 HP3 HX3 HF3 HS3
      have hnb := HBL.out (o + 3)
      obtain ⟨nl, hnl⟩ : ∃ nl, at' L (o + 3) = nl := ⟨_, rfl⟩
      have HFI : Hid (fiAt L o = ⟨(at' L o : Nat), (v2 L (o + 1) : Nat), lbAt L (o + 4) nl⟩) := by show _ = _; rw [← hnl]; rfl
      rw [hnl] at HE1 hnb
      rw [hnl]
      clear hnl
      generalize x2.heap.size = FB at *
      obtain ⟨a0, ha0⟩ : ∃ a0, at' L o = a0 := ⟨_, rfl⟩
      obtain ⟨a1, ha1⟩ : ∃ a1, v2 L (o + 1) = a1 := ⟨_, rfl⟩
      simp only [ha0, ha1] at HX4 HFI ⊢
      clear ha0 ha1
      go_wp2_with fail
      go_loopw [38] (fun t wr => ∃ j : Nat, j ≤ nl ∧ t = .int .i64 j ∧ ∃ la lc, Pr w L (pi : Nat) (pp : Nat) (px : Nat) P (o + 4 + 2 * j) (.slice fa k fc) (.slice none 0 0) wr ∧ Blo wr FB FN #[.int .i64 (a0 : Nat), .int .i64 (a1 : Nat), .slice la j lc] ∧ wr.ownsRow (FB + 1) IT 1 (.slice la j lc) j (cellsI (lbAt L (o + 4) j)) ∧ Fo wr (P + 1) (.slice fa k fc) av (filesM L nf) k ∧ FB < wr.heap.size) (fun t _ => nl - (intOf t).toNat)
      case atStart => exact ⟨0, Nat.zero_le _, rfl, none, 0, HP4.out, HX4.out, ⟨by simp [lbAt, cellsI], .inl ⟨rfl, rfl⟩⟩, HF4.out, HS4.out⟩
      case round =>
        clear HP4 HX4 HF4 HS4
        obtain ⟨j, hj, rfl, la, lc, hP, hX, hO, hF, hsz⟩ := hrel
        have HP := Lib.hid hP
        have HX := Lib.hid hX
        have HO := Lib.hid hO
        have HF := Lib.hid hF
        have HZ := Lib.hid hsz
        by_cases hjl : j < nl
        · have d2 := hX.cell 2
          simp at d2
          clear hP hX hO hF hsz
          go_wp2_with fail
          refine wp_region_any (by kernel_rfl) ?_
          change wpAny _ _ _ _ _ _ _ (World.drew _)
          refine wpAny_take (i := 0) (v := Value.pointer (some ⟨FB, 2, none⟩)) rfl (by kernel_rfl) (by kernel_rfl) (by kernel_rfl) (fun _ _ _ h => h) (Or.inl ⟨by rfl, fun W => by first | (go_simp; done) | (go_simp; rfl) | (go_simp; rw [hwz]; done) | (go_simp; rw [hwz])⟩) ?_
          refine wpAny_take (i := 2) (v := Value.func (.func 44) #[.pointer (some ⟨w.heap.size + 1, 0, none⟩)] #[]) rfl (by kernel_rfl) (by kernel_rfl) (by kernel_rfl) (fun _ _ _ h => h) (Or.inl ⟨by rfl, fun W => by first | (go_simp; done) | (go_simp; rfl) | (go_simp; rw [hwz]; done) | (go_simp; rw [hwz])⟩) ?_
          refine wpAny_ready (rs := [1, 3]) (by kernel_rfl) (by simp) (AllReady.cons rfl (fun K hK => ?_) (AllReady.cons rfl (fun K hK => ?_) AllReady.nil))
          · go_simp
            refine hK _ _ ?_
            clear hK K
            refine wpAny_ready (rs := [3]) (by kernel_rfl) (by simp) (AllReady.cons rfl (fun K hK => ?_) AllReady.nil)
            go_simp
            refine (take_rd 2 (w.heap.size + 1) L (o + 4 + 2 * j) HP.out.drew.rd (by decide)).mono ?_
            rintro e z1 ⟨rfl, hr, hg⟩
            have HPz := Lib.hid (HP.out.drew.take hr hg)
            have HXz := Lib.hid ((show Blo wr.drew _ _ _ from HX.out).grown hg (by simp; omega))
            have HOz := Lib.hid (own_out (w := wr.drew) HO.out (Out.of_grown (X := fun g => g = w.heap.size + 1) hg (fun g e => by cases e; rfl)) (fun g e _ => by omega))
            have HFz := Lib.hid (Fo.out (show Fo wr.drew _ _ _ _ _ from ⟨HF.out.row, HF.out.its⟩) (Out.of_grown (X := fun g => g = w.heap.size + 1) hg (fun g e => by cases e; rfl)) (fun g e _ => by omega))
            have hzz : FB < z1.heap.size := Nat.lt_of_lt_of_le HZ.out hg.size
            have d3 := HXz.out.cell 2
            simp at d3
            have HV := Lib.hid (lbAt_snoc L (o + 4) j)
            have hv9 : v2 L (o + 4 + 2 * j) < 65536 := by
              have h1 := HBL.out (o + 4 + 2 * j)
              have h2 := HBL.out (o + 4 + 2 * j + 1)
              unfold v2
              omega
            rw [val_2 L (o + 4 + 2 * j)]
            clear hr hg
            generalize v2 L (o + 4 + 2 * j) = z at *
            have hwz : IntKind.i64.wrap ((z : Int) - 1000) = (z : Int) - 1000 := by rw [IntKind.wrap_i64]; omega
            refine hK _ _ ?_
            clear hK K
            refine wpAny_take (i := 4) (v := Value.int .i64 ((z : Int) - 1000)) rfl (by kernel_rfl) (by kernel_rfl) (by kernel_rfl) (fun _ _ _ h => h) (Or.inl ⟨by rfl, fun W => by first | (go_simp; done) | (go_simp; rfl) | (go_simp; rw [hwz]; done) | (go_simp; rw [hwz])⟩) ?_
            refine wpAny_ready (rs := [5]) (by kernel_rfl) (by simp) (AllReady.cons rfl (fun K hK => ?_) AllReady.nil)
            go_simp
            refine hK _ _ ?_
            clear hK K
            refine wpAny_ready (rs := [6]) (by kernel_rfl) (by simp) (AllReady.cons rfl (fun K hK => ?_) AllReady.nil)
            refine step_append_row rfl (.tmp 41) (.tmp 45) 23 rfl (FB + 1) IT _ 1 8 Try.underlying23 info_it (by kernel_rfl) (by decide) (by decide) (.slice la j lc) j (cellsI (lbAt L (o + 4) j)) rfl (own_later HOz.out (sup_pc z1 (.cells #[.int .i64 ((z : Int) - 1000)] IT))) (some ⟨z1.heap.size, 0, none⟩) 1 1 [.int .i64 ((z : Int) - 1000)] rfl rfl (laid_srcO z1 IT _ _ rfl) (by simp [Value.oneCell']) (fun h => by cases h) (by omega) (by simp; omega) ?_
            intro v' z3 hr3 hg3 _
            obtain ⟨a5, c5, rfl, -⟩ := own_slice hr3
            have HE := Lib.hid (inner_end (ys := lbAt L (o + 4) (j + 1)) HPz.out hPF HXz.out HOz.out HFz.out HLt.out hr3 hg3 (by rw [HV.out, ← cellsI_append]; rfl))
            have HX3 := Lib.hid ((HXz.out.alloc (.cells #[.int .i64 ((z : Int) - 1000)] IT)).grown hg3 (fun e => by have := (oblo HOz.out e.symm).1; omega))
            have hz3 : FB < z3.heap.size := by have := hg3.size; simp at this; omega
            have d4 := HX3.out.cell 2
            have e4 := HX3.out.frozen 2
            simp at d4
            clear hr3 hg3
            refine hK _ _ ?_
            clear hK K
            refine wpAny_take (i := 7) (v := Value.pointer (some ⟨FB, 2, none⟩)) rfl (by kernel_rfl) (by kernel_rfl) (by kernel_rfl) (fun _ _ _ h => h) (Or.inl ⟨by rfl, fun W => by first | (go_simp; done) | (go_simp; rfl) | (go_simp; rw [hwz]; done) | (go_simp; rw [hwz])⟩) ?_
            refine wpAny_ready (rs := [8]) (by kernel_rfl) (by simp) (AllReady.cons rfl (fun K hK => ?_) AllReady.nil)
            go_simp
            refine hK _ _ ?_
            clear hK K
            refine wpAny_done (by kernel_rfl) ?_ _
            go_wp2_with fail
            go_roundw
            case rel => exact ⟨j + 1, by omega, by simp, a5, c5, by have := HE.out.1; rwa [show o + 4 + 2 * j + 2 = o + 4 + 2 * (j + 1) by omega] at this, HE.out.2.1, HE.out.2.2.1, HE.out.2.2.2, by rw [World.size_setCell]; exact hz3⟩
            case measure => simp [intOf]; omega
          · go_simp
            refine (take_rd 2 (w.heap.size + 1) L (o + 4 + 2 * j) HP.out.drew.rd (by decide)).mono ?_
            rintro e z1 ⟨rfl, hr, hg⟩
            have HPz := Lib.hid (HP.out.drew.take hr hg)
            have HXz := Lib.hid ((show Blo wr.drew _ _ _ from HX.out).grown hg (by simp; omega))
            have HOz := Lib.hid (own_out (w := wr.drew) HO.out (Out.of_grown (X := fun g => g = w.heap.size + 1) hg (fun g e => by cases e; rfl)) (fun g e _ => by omega))
            have HFz := Lib.hid (Fo.out (show Fo wr.drew _ _ _ _ _ from ⟨HF.out.row, HF.out.its⟩) (Out.of_grown (X := fun g => g = w.heap.size + 1) hg (fun g e => by cases e; rfl)) (fun g e _ => by omega))
            have hzz : FB < z1.heap.size := Nat.lt_of_lt_of_le HZ.out hg.size
            have d3 := HXz.out.cell 2
            simp at d3
            have HV := Lib.hid (lbAt_snoc L (o + 4) j)
            have hv9 : v2 L (o + 4 + 2 * j) < 65536 := by
              have h1 := HBL.out (o + 4 + 2 * j)
              have h2 := HBL.out (o + 4 + 2 * j + 1)
              unfold v2
              omega
            rw [val_2 L (o + 4 + 2 * j)]
            clear hr hg
            generalize v2 L (o + 4 + 2 * j) = z at *
            have hwz : IntKind.i64.wrap ((z : Int) - 1000) = (z : Int) - 1000 := by rw [IntKind.wrap_i64]; omega
            refine hK _ _ ?_
            clear hK K
            refine wpAny_take (i := 4) (v := Value.int .i64 ((z : Int) - 1000)) rfl (by kernel_rfl) (by kernel_rfl) (by kernel_rfl) (fun _ _ _ h => h) (Or.inl ⟨by rfl, fun W => by first | (go_simp; done) | (go_simp; rfl) | (go_simp; rw [hwz]; done) | (go_simp; rw [hwz])⟩) ?_
            refine wpAny_ready (rs := [1, 5]) (by kernel_rfl) (by simp) (AllReady.cons rfl (fun K hK => ?_) (AllReady.cons rfl (fun K hK => ?_) AllReady.nil))
            · go_simp
              refine hK _ _ ?_
              clear hK K
              refine wpAny_ready (rs := [5]) (by kernel_rfl) (by simp) (AllReady.cons rfl (fun K hK => ?_) AllReady.nil)
              go_simp
              refine hK _ _ ?_
              clear hK K
              refine wpAny_ready (rs := [6]) (by kernel_rfl) (by simp) (AllReady.cons rfl (fun K hK => ?_) AllReady.nil)
              refine step_append_row rfl (.tmp 41) (.tmp 45) 23 rfl (FB + 1) IT _ 1 8 Try.underlying23 info_it (by kernel_rfl) (by decide) (by decide) (.slice la j lc) j (cellsI (lbAt L (o + 4) j)) rfl (own_later HOz.out (sup_pc z1 (.cells #[.int .i64 ((z : Int) - 1000)] IT))) (some ⟨z1.heap.size, 0, none⟩) 1 1 [.int .i64 ((z : Int) - 1000)] rfl rfl (laid_srcO z1 IT _ _ rfl) (by simp [Value.oneCell']) (fun h => by cases h) (by omega) (by simp; omega) ?_
              intro v' z3 hr3 hg3 _
              obtain ⟨a5, c5, rfl, -⟩ := own_slice hr3
              have HE := Lib.hid (inner_end (ys := lbAt L (o + 4) (j + 1)) HPz.out hPF HXz.out HOz.out HFz.out HLt.out hr3 hg3 (by rw [HV.out, ← cellsI_append]; rfl))
              have HX3 := Lib.hid ((HXz.out.alloc (.cells #[.int .i64 ((z : Int) - 1000)] IT)).grown hg3 (fun e => by have := (oblo HOz.out e.symm).1; omega))
              have hz3 : FB < z3.heap.size := by have := hg3.size; simp at this; omega
              have d4 := HX3.out.cell 2
              have e4 := HX3.out.frozen 2
              simp at d4
              clear hr3 hg3
              refine hK _ _ ?_
              clear hK K
              refine wpAny_take (i := 7) (v := Value.pointer (some ⟨FB, 2, none⟩)) rfl (by kernel_rfl) (by kernel_rfl) (by kernel_rfl) (fun _ _ _ h => h) (Or.inl ⟨by rfl, fun W => by first | (go_simp; done) | (go_simp; rfl) | (go_simp; rw [hwz]; done) | (go_simp; rw [hwz])⟩) ?_
              refine wpAny_ready (rs := [8]) (by kernel_rfl) (by simp) (AllReady.cons rfl (fun K hK => ?_) AllReady.nil)
              go_simp
              refine hK _ _ ?_
              clear hK K
              refine wpAny_done (by kernel_rfl) ?_ _
              go_wp2_with fail
              go_roundw
              case rel => exact ⟨j + 1, by omega, by simp, a5, c5, by have := HE.out.1; rwa [show o + 4 + 2 * j + 2 = o + 4 + 2 * (j + 1) by omega] at this, HE.out.2.1, HE.out.2.2.1, HE.out.2.2.2, by rw [World.size_setCell]; exact hz3⟩
              case measure => simp [intOf]; omega
            · go_simp
              refine hK _ _ ?_
              clear hK K
              refine wpAny_ready (rs := [1]) (by kernel_rfl) (by simp) (AllReady.cons rfl (fun K hK => ?_) AllReady.nil)
              go_simp
              refine hK _ _ ?_
              clear hK K
              refine wpAny_ready (rs := [6]) (by kernel_rfl) (by simp) (AllReady.cons rfl (fun K hK => ?_) AllReady.nil)
              refine step_append_row rfl (.tmp 41) (.tmp 45) 23 rfl (FB + 1) IT _ 1 8 Try.underlying23 info_it (by kernel_rfl) (by decide) (by decide) (.slice la j lc) j (cellsI (lbAt L (o + 4) j)) rfl (own_later HOz.out (sup_pc z1 (.cells #[.int .i64 ((z : Int) - 1000)] IT))) (some ⟨z1.heap.size, 0, none⟩) 1 1 [.int .i64 ((z : Int) - 1000)] rfl rfl (laid_srcO z1 IT _ _ rfl) (by simp [Value.oneCell']) (fun h => by cases h) (by omega) (by simp; omega) ?_
              intro v' z3 hr3 hg3 _
              obtain ⟨a5, c5, rfl, -⟩ := own_slice hr3
              have HE := Lib.hid (inner_end (ys := lbAt L (o + 4) (j + 1)) HPz.out hPF HXz.out HOz.out HFz.out HLt.out hr3 hg3 (by rw [HV.out, ← cellsI_append]; rfl))
              have HX3 := Lib.hid ((HXz.out.alloc (.cells #[.int .i64 ((z : Int) - 1000)] IT)).grown hg3 (fun e => by have := (oblo HOz.out e.symm).1; omega))
              have hz3 : FB < z3.heap.size := by have := hg3.size; simp at this; omega
              have d4 := HX3.out.cell 2
              have e4 := HX3.out.frozen 2
              simp at d4
              clear hr3 hg3
              refine hK _ _ ?_
              clear hK K
              refine wpAny_take (i := 7) (v := Value.pointer (some ⟨FB, 2, none⟩)) rfl (by kernel_rfl) (by kernel_rfl) (by kernel_rfl) (fun _ _ _ h => h) (Or.inl ⟨by rfl, fun W => by first | (go_simp; done) | (go_simp; rfl) | (go_simp; rw [hwz]; done) | (go_simp; rw [hwz])⟩) ?_
              refine wpAny_ready (rs := [8]) (by kernel_rfl) (by simp) (AllReady.cons rfl (fun K hK => ?_) AllReady.nil)
              go_simp
              refine hK _ _ ?_
              clear hK K
              refine wpAny_done (by kernel_rfl) ?_ _
              go_wp2_with fail
              go_roundw
              case rel => exact ⟨j + 1, by omega, by simp, a5, c5, by have := HE.out.1; rwa [show o + 4 + 2 * j + 2 = o + 4 + 2 * (j + 1) by omega] at this, HE.out.2.1, HE.out.2.2.1, HE.out.2.2.2, by rw [World.size_setCell]; exact hz3⟩
              case measure => simp [intOf]; omega
        · obtain rfl : j = nl := by omega
          have d0 := hX.cell 0
          have d1 := hX.cell 1
          have d2 := hX.cell 2
          have p5 := hP.pt.cell 5
          have f5 := hP.pt.frozen 5
          simp at d0 d1 d2 p5
          clear hP hX hO hF hsz
          go_wp2_with (at_builtin; refine wp_append_rowO rfl (.tmp 50) (.tmp 52) 22 rfl (P + 1) FN _ 3 40 Try.underlying22 info_fn (by kernel_rfl) (by decide) (by decide) (.slice fa k fc) k _ rfl (own_later HF.out.row (sup_pc wr (.cells #[.int .i64 (a0 : Nat), .int .i64 (a1 : Nat), .slice la j lc] FN))) (some ⟨wr.heap.size, 0, none⟩) 1 1 [.int .i64 (a0 : Nat), .int .i64 (a1 : Nat), .slice la j lc] rfl rfl (laid_srcO wr FN _ _ rfl) (fi_oneP _ _ _ rfl) (fun h => by cases h) (by omega) (by have := HZ.out; simp; omega) ?_; intro a3 cap3 z2 hown hgrow hat; have HE := Lib.hid (file_end (f := ⟨(a0 : Nat), (a1 : Nat), lbAt L (o + 4) j⟩) HP.out hPF HO.out HF.out (HE2.out.trans HFI.out) (lbAt_len _ _ _) (by have := HZ.out; omega) HLt.out HSep.out hown hgrow); have hpz := (HP.out.pt.alloc (.cells #[.int .i64 (a0 : Nat), .int .i64 (a1 : Nat), .slice la j lc] FN)).grown hgrow ((HP.out.pt.alloc _).row_apart (own_later HF.out.row (sup_pc wr (.cells #[.int .i64 (a0 : Nat), .int .i64 (a1 : Nat), .slice la j lc] FN))) (by decide)); have q5 := hpz.cell 5; have g5 := hpz.frozen 5; simp at q5; clear hown hgrow hat hpz)
          obtain ⟨av', hF', hS'⟩ := HE.out.2.1
          have HF' := Lib.hid hF'
          have HS' := Lib.hid hS'
          clear hF' hS'
          go_roundw
          case rel => exact ⟨k + 1, by omega, by simp, a3, cap3, av', by rw [HE1.out]; exact HE.out.1, HF'.out, HS'.out, HE.out.2.2⟩
          case measure => simp [intOf]; omega
    · obtain rfl : k = nf := by omega
      have HLt := Lib.hid hFo.lt
      have HP := Lib.hid hP
      have HF := Lib.hid hFo
      have hPS : P < wr.heap.size := hsz
      have l1 := hP.lo
      have HO0 : Hid (wr.ownsRow wr.heap.size IT 1 (.slice none 0 0) 0 (cellsI (inosM L (pos L k) 0))) := ⟨by simp [inosM, cellsI], .inl ⟨rfl, rfl⟩⟩
      have HZ0 : Hid (wr.heap.size ≤ wr.heap.size) := Nat.le_refl _
      clear hP hFo hsz
      generalize hSB : wr.heap.size = SB at hPS HO0 HZ0 HLt
      go_wp2_with fail
      go_loopw [57] (fun t wq => ∃ j : Nat, j ≤ ni ∧ t = .int .i64 j ∧ ∃ ia ic, Pr w L (pi : Nat) (pp : Nat) (px : Nat) P (pos L k + j) (.slice fa k fc) (.slice ia j ic) wq ∧ wq.ownsRow SB IT 1 (.slice ia j ic) j (cellsI (inosM L (pos L k) j)) ∧ Fo wq (P + 1) (.slice fa k fc) av (filesM L k) k ∧ SB ≤ wq.heap.size) (fun t _ => ni - (intOf t).toNat)
      case atStart => exact ⟨0, Nat.zero_le _, rfl, none, 0, HP.out, HO0.out, HF.out, by rw [hSB]; exact Nat.le_refl _⟩
      case round =>
        clear HP HO0 HF HZ0 hSB
        rename World => wq
        obtain ⟨j, hj, rfl, ia, ic, hP, hO, hF, hsz⟩ := hrel
        have HPq := Lib.hid hP
        have HOq := Lib.hid hO
        have HFq := Lib.hid hF
        have HZq := Lib.hid hsz
        by_cases hjl : j < ni
        · have d2 := hP.pt.cell 6
          simp at d2
          clear hP hO hF hsz
          go_wp2_with fail
          refine wp_region_any (by kernel_rfl) ?_
          change wpAny _ _ _ _ _ _ _ (World.drew _)
          refine wpAny_take (i := 0) (v := Value.pointer (some ⟨P, 6, none⟩)) rfl (by kernel_rfl) (by kernel_rfl) (by kernel_rfl) (fun _ _ _ h => h) (Or.inl ⟨by rfl, fun W => by first | (go_simp; done) | (go_simp; rfl) | (go_simp; rw [hwz]; done) | (go_simp; rw [hwz])⟩) ?_
          refine wpAny_take (i := 2) (v := Value.func (.func 44) #[.pointer (some ⟨w.heap.size + 1, 0, none⟩)] #[]) rfl (by kernel_rfl) (by kernel_rfl) (by kernel_rfl) (fun _ _ _ h => h) (Or.inl ⟨by rfl, fun W => by first | (go_simp; done) | (go_simp; rfl) | (go_simp; rw [hwz]; done) | (go_simp; rw [hwz])⟩) ?_
          refine wpAny_ready (rs := [1, 3]) (by kernel_rfl) (by simp) (AllReady.cons rfl (fun K hK => ?_) (AllReady.cons rfl (fun K hK => ?_) AllReady.nil))
          · go_simp
            refine hK _ _ ?_
            clear hK K
            refine wpAny_ready (rs := [3]) (by kernel_rfl) (by simp) (AllReady.cons rfl (fun K hK => ?_) AllReady.nil)
            go_simp
            refine (take_rd 1 (w.heap.size + 1) L (pos L k + j) HPq.out.drew.rd (by decide)).mono ?_
            rintro e z1 ⟨rfl, hr, hg⟩
            have HPz := Lib.hid (HPq.out.drew.take hr hg)
            have HOz := Lib.hid (own_out (w := wq.drew) HOq.out (Out.of_grown (X := fun g => g = w.heap.size + 1) hg (fun g e => by cases e; rfl)) (fun g e _ => by omega))
            have HFz := Lib.hid (Fo.out (show Fo wq.drew _ _ _ _ _ from ⟨HFq.out.row, HFq.out.its⟩) (Out.of_grown (X := fun g => g = w.heap.size + 1) hg (fun g e => by cases e; rfl)) (fun g e _ => by omega))
            have hzz : SB ≤ z1.heap.size := Nat.le_trans HZq.out hg.size
            have hpz : P < z1.heap.size := by omega
            have d3 := HPz.out.pt.cell 6
            simp at d3
            have HV := Lib.hid (inosM_snoc L (pos L k) j)
            have hv9 := HBL.out (pos L k + j)
            rw [val_1 L (pos L k + j)]
            clear hr hg
            generalize at' L (pos L k + j) = z at *
            refine hK _ _ ?_
            clear hK K
            refine wpAny_ready (rs := [4]) (by kernel_rfl) (by simp) (AllReady.cons rfl (fun K hK => ?_) AllReady.nil)
            go_simp
            refine hK _ _ ?_
            clear hK K
            refine wpAny_ready (rs := [5]) (by kernel_rfl) (by simp) (AllReady.cons rfl (fun K hK => ?_) AllReady.nil)
            refine step_append_row rfl (.tmp 60) (.tmp 63) 23 rfl SB IT _ 1 8 Try.underlying23 info_it (by kernel_rfl) (by decide) (by decide) (.slice ia j ic) j (cellsI (inosM L (pos L k) j)) rfl (own_later HOz.out (sup_pc z1 (.cells #[.int .i64 (z : Int)] IT))) (some ⟨z1.heap.size, 0, none⟩) 1 1 [.int .i64 (z : Int)] rfl rfl (laid_srcO z1 IT _ _ rfl) (by simp [Value.oneCell']) (fun h => by cases h) (by omega) (by simp; omega) ?_
            intro v' z3 hr3 hg3 _
            obtain ⟨a5, c5, rfl, -⟩ := own_slice hr3
            have HE := Lib.hid (ino_end (ys := inosM L (pos L k) (j + 1)) HPz.out hPS HOz.out HFz.out HLt.out hr3 hg3 (by rw [HV.out, ← cellsI_append]; rfl))
            have HX3 := Lib.hid ((HPz.out.pt.alloc (.cells #[.int .i64 (z : Int)] IT)).grown hg3 ((HPz.out.pt.alloc (.cells #[.int .i64 (z : Int)] IT)).row_apart (own_later HOz.out (sup_pc z1 (.cells #[.int .i64 (z : Int)] IT))) (by decide)))
            have hz3 : SB ≤ z3.heap.size := by have := hg3.size; simp at this; omega
            have d4 := HX3.out.cell 6
            have e4 := HX3.out.frozen 6
            simp at d4
            clear hr3 hg3
            refine hK _ _ ?_
            clear hK K
            refine wpAny_take (i := 6) (v := Value.pointer (some ⟨P, 6, none⟩)) rfl (by kernel_rfl) (by kernel_rfl) (by kernel_rfl) (fun _ _ _ h => h) (Or.inl ⟨by rfl, fun W => by first | (go_simp; done) | (go_simp; rfl) | (go_simp; rw [hwz]; done) | (go_simp; rw [hwz])⟩) ?_
            refine wpAny_ready (rs := [7]) (by kernel_rfl) (by simp) (AllReady.cons rfl (fun K hK => ?_) AllReady.nil)
            go_simp
            refine hK _ _ ?_
            clear hK K
            refine wpAny_done (by kernel_rfl) ?_ _
            go_wp2_with fail
            go_roundw
            case rel => exact ⟨j + 1, by omega, by simp, a5, c5, HE.out.1, HE.out.2.1, HE.out.2.2, by rw [World.size_setCell]; exact hz3⟩
            case measure => simp [intOf]; omega
          · go_simp
            refine (take_rd 1 (w.heap.size + 1) L (pos L k + j) HPq.out.drew.rd (by decide)).mono ?_
            rintro e z1 ⟨rfl, hr, hg⟩
            have HPz := Lib.hid (HPq.out.drew.take hr hg)
            have HOz := Lib.hid (own_out (w := wq.drew) HOq.out (Out.of_grown (X := fun g => g = w.heap.size + 1) hg (fun g e => by cases e; rfl)) (fun g e _ => by omega))
            have HFz := Lib.hid (Fo.out (show Fo wq.drew _ _ _ _ _ from ⟨HFq.out.row, HFq.out.its⟩) (Out.of_grown (X := fun g => g = w.heap.size + 1) hg (fun g e => by cases e; rfl)) (fun g e _ => by omega))
            have hzz : SB ≤ z1.heap.size := Nat.le_trans HZq.out hg.size
            have hpz : P < z1.heap.size := by omega
            have d3 := HPz.out.pt.cell 6
            simp at d3
            have HV := Lib.hid (inosM_snoc L (pos L k) j)
            have hv9 := HBL.out (pos L k + j)
            rw [val_1 L (pos L k + j)]
            clear hr hg
            generalize at' L (pos L k + j) = z at *
            refine hK _ _ ?_
            clear hK K
            refine wpAny_ready (rs := [1, 4]) (by kernel_rfl) (by simp) (AllReady.cons rfl (fun K hK => ?_) (AllReady.cons rfl (fun K hK => ?_) AllReady.nil))
            · go_simp
              refine hK _ _ ?_
              clear hK K
              refine wpAny_ready (rs := [4]) (by kernel_rfl) (by simp) (AllReady.cons rfl (fun K hK => ?_) AllReady.nil)
              go_simp
              refine hK _ _ ?_
              clear hK K
              refine wpAny_ready (rs := [5]) (by kernel_rfl) (by simp) (AllReady.cons rfl (fun K hK => ?_) AllReady.nil)
              refine step_append_row rfl (.tmp 60) (.tmp 63) 23 rfl SB IT _ 1 8 Try.underlying23 info_it (by kernel_rfl) (by decide) (by decide) (.slice ia j ic) j (cellsI (inosM L (pos L k) j)) rfl (own_later HOz.out (sup_pc z1 (.cells #[.int .i64 (z : Int)] IT))) (some ⟨z1.heap.size, 0, none⟩) 1 1 [.int .i64 (z : Int)] rfl rfl (laid_srcO z1 IT _ _ rfl) (by simp [Value.oneCell']) (fun h => by cases h) (by omega) (by simp; omega) ?_
              intro v' z3 hr3 hg3 _
              obtain ⟨a5, c5, rfl, -⟩ := own_slice hr3
              have HE := Lib.hid (ino_end (ys := inosM L (pos L k) (j + 1)) HPz.out hPS HOz.out HFz.out HLt.out hr3 hg3 (by rw [HV.out, ← cellsI_append]; rfl))
              have HX3 := Lib.hid ((HPz.out.pt.alloc (.cells #[.int .i64 (z : Int)] IT)).grown hg3 ((HPz.out.pt.alloc (.cells #[.int .i64 (z : Int)] IT)).row_apart (own_later HOz.out (sup_pc z1 (.cells #[.int .i64 (z : Int)] IT))) (by decide)))
              have hz3 : SB ≤ z3.heap.size := by have := hg3.size; simp at this; omega
              have d4 := HX3.out.cell 6
              have e4 := HX3.out.frozen 6
              simp at d4
              clear hr3 hg3
              refine hK _ _ ?_
              clear hK K
              refine wpAny_take (i := 6) (v := Value.pointer (some ⟨P, 6, none⟩)) rfl (by kernel_rfl) (by kernel_rfl) (by kernel_rfl) (fun _ _ _ h => h) (Or.inl ⟨by rfl, fun W => by first | (go_simp; done) | (go_simp; rfl) | (go_simp; rw [hwz]; done) | (go_simp; rw [hwz])⟩) ?_
              refine wpAny_ready (rs := [7]) (by kernel_rfl) (by simp) (AllReady.cons rfl (fun K hK => ?_) AllReady.nil)
              go_simp
              refine hK _ _ ?_
              clear hK K
              refine wpAny_done (by kernel_rfl) ?_ _
              go_wp2_with fail
              go_roundw
              case rel => exact ⟨j + 1, by omega, by simp, a5, c5, HE.out.1, HE.out.2.1, HE.out.2.2, by rw [World.size_setCell]; exact hz3⟩
              case measure => simp [intOf]; omega
            · go_simp
              refine hK _ _ ?_
              clear hK K
              refine wpAny_ready (rs := [1]) (by kernel_rfl) (by simp) (AllReady.cons rfl (fun K hK => ?_) AllReady.nil)
              go_simp
              refine hK _ _ ?_
              clear hK K
              refine wpAny_ready (rs := [5]) (by kernel_rfl) (by simp) (AllReady.cons rfl (fun K hK => ?_) AllReady.nil)
              refine step_append_row rfl (.tmp 60) (.tmp 63) 23 rfl SB IT _ 1 8 Try.underlying23 info_it (by kernel_rfl) (by decide) (by decide) (.slice ia j ic) j (cellsI (inosM L (pos L k) j)) rfl (own_later HOz.out (sup_pc z1 (.cells #[.int .i64 (z : Int)] IT))) (some ⟨z1.heap.size, 0, none⟩) 1 1 [.int .i64 (z : Int)] rfl rfl (laid_srcO z1 IT _ _ rfl) (by simp [Value.oneCell']) (fun h => by cases h) (by omega) (by simp; omega) ?_
              intro v' z3 hr3 hg3 _
              obtain ⟨a5, c5, rfl, -⟩ := own_slice hr3
              have HE := Lib.hid (ino_end (ys := inosM L (pos L k) (j + 1)) HPz.out hPS HOz.out HFz.out HLt.out hr3 hg3 (by rw [HV.out, ← cellsI_append]; rfl))
              have HX3 := Lib.hid ((HPz.out.pt.alloc (.cells #[.int .i64 (z : Int)] IT)).grown hg3 ((HPz.out.pt.alloc (.cells #[.int .i64 (z : Int)] IT)).row_apart (own_later HOz.out (sup_pc z1 (.cells #[.int .i64 (z : Int)] IT))) (by decide)))
              have hz3 : SB ≤ z3.heap.size := by have := hg3.size; simp at this; omega
              have d4 := HX3.out.cell 6
              have e4 := HX3.out.frozen 6
              simp at d4
              clear hr3 hg3
              refine hK _ _ ?_
              clear hK K
              refine wpAny_take (i := 6) (v := Value.pointer (some ⟨P, 6, none⟩)) rfl (by kernel_rfl) (by kernel_rfl) (by kernel_rfl) (fun _ _ _ h => h) (Or.inl ⟨by rfl, fun W => by first | (go_simp; done) | (go_simp; rfl) | (go_simp; rw [hwz]; done) | (go_simp; rw [hwz])⟩) ?_
              refine wpAny_ready (rs := [7]) (by kernel_rfl) (by simp) (AllReady.cons rfl (fun K hK => ?_) AllReady.nil)
              go_simp
              refine hK _ _ ?_
              clear hK K
              refine wpAny_done (by kernel_rfl) ?_ _
              go_wp2_with fail
              go_roundw
              case rel => exact ⟨j + 1, by omega, by simp, a5, c5, HE.out.1, HE.out.2.1, HE.out.2.2, by rw [World.size_setCell]; exact hz3⟩
              case measure => simp [intOf]; omega
        · obtain rfl : j = ni := by omega
          have hpt := hP.pt
          have hrs := hP.res
          have HE := Lib.hid (par_end hP hO hF hPS #[.int .i64 0, .int .i64 0, .int .i64 (pi : Nat), .int .i64 (pp : Nat), .int .i64 (px : Nat), .slice fa k fc, .slice ia j ic])
          clear hP hO hF hsz
          go_wp2_with (first | (refine wpList_load_row rfl 25 (.tmp 5) rfl P rfl 25 #[.int .i64 0, .int .i64 0, .int .i64 (pi : Nat), .int .i64 (pp : Nat), .int .i64 (px : Nat), .slice fa k fc, .slice ia j ic] (0, 0) _ hpt Try.underlying25 rfl (by kernel_rfl) ?_) | (refine wpList_store_row rfl 25 (.tmp 2) (.tmp 67) rfl w.heap.size (#[.int .i64 0, .int .i64 0, .int .i64 (pi : Nat), .int .i64 (pp : Nat), .int .i64 (px : Nat), .slice fa k fc, .slice ia j ic]) (by first | rfl | simp [go_sem]) (by first | rfl | simp [go_sem]) 25 _ hrs (by kernel_rfl) rfl (by simp [Value.oneCell']) ?_))
          (try simp only [Exit.inBlock, Exit.then])
          refine bodyPost_ret (results_row_tmp (p := 2) (u := 3) (ty := 25) rfl _ _ w.heap.size 25 #[.int .i64 0, .int .i64 0, .int .i64 (pi : Nat), .int .i64 (pp : Nat), .int .i64 (px : Nat), .slice fa k fc, .slice ia j ic] _ (by simp) HE.out.1 Try.underlying25 rfl (by kernel_rfl)) rfl ?hR
          case hR =>
            obtain ⟨e1, e2, e3, e4, e5, e6⟩ := HEq.out
            simp only [e1, e2, e3, e4, e5, e6]
            exact ⟨fa, fc, av, .slice ia j ic, SB, rfl, HE.out.2.1, HE.out.2.2.1, fun i g hi hg => HLt.out.2 i hi g hg, HSep.out, by omega, HE.out.2.2.2⟩
end Go.Proofs.Ytkdjfhbdcfjnnaa
