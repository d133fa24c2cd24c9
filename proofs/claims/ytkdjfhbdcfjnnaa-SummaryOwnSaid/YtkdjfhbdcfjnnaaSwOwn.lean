/-
  The walk of SummaryOwn: what is read is new memory.
-/
import Derived.Test.YtkdjfhbdcfjnnaaSwOwnM
import Derived.Deep.DeepCutAuto
import Derived.Deep.RegionLaw
namespace Go.Proofs.Ytkdjfhbdcfjnnaa
open Go.RowKit

set_option maxRecDepth 100000 in
set_option maxHeartbeats 16000000 in
theorem summaryOwn_walk (m : Sm) (fa : Option Addr) (fn fc : Nat) (ia : Option Addr) (inn ic : Nat) (x : Int) (w : World) (hp : PartIn w m fa fn fc ia inn ic) (hx : (Lit.int .u32 x).wf = true) :
    Calls Try.prog 6 #[part m.e m.c m.i m.p m.x fa fn fc ia inn ic, .int .u32 x] w fun e w' => e = .returned (.bool true) ∧ Below w.heap.size w w' := by
  obtain ⟨s, rfl, hs⟩ : ∃ s : Nat, x = (s : Int) ∧ s < 4294967296 := by
    simp [Lit.wf, IntKind.min, IntKind.max, IntKind.signed, IntKind.bits] at hx
    exact ⟨x.toNat, by omega, by omega⟩
  clear hx
  have HP0 := Lib.hid (blo_laid w 25 (pcs m fa fn fc ia inn ic))
  have HB0 := Lib.hid (sup_pc w (.cells (pcs m fa fn fc ia inn ic) 25))
  have HIp := Lib.hid hp
  clear hp
  go_enter Try.func6, Try.ntmps6
  go_wp2_with fail
  refine (awake_any _).mono ?_
  rintro e w1 ⟨rfl, hb1⟩
  have HB1 := Lib.hid (HB0.out.trans (hb1.mono HB0.out.size))
  have HP1 := Lib.hid (HP0.out.later hb1)
  clear hb1 HB0 HP0
  have c0 := HP1.out.cell 0
  have c1 := HP1.out.cell 1
  have c2 := HP1.out.cell 2
  have c3 := HP1.out.cell 3
  have c4 := HP1.out.cell 4
  have c5 := HP1.out.cell 5
  have c6 := HP1.out.cell 6
  simp [pcs] at c0 c1 c2 c3 c4 c5 c6
  go_wp2_with fail
  refine (few_any m fa fn fc ia inn ic (HIp.out.fin.fis.later HB1.out) HIp.out.fin.leq HIp.out.ins.leq HIp.out.fin.lenm HIp.out.ins.lenm HIp.out.fin.lb).mono ?_
  rintro e w2 ⟨rfl, hb2⟩
  have HB2 := Lib.hid (HB1.out.trans (hb2.mono HB1.out.size))
  have HP2 := Lib.hid (HP1.out.later hb2)
  clear hb2 HB1 HP1 c0 c1 c2 c3 c4 c5 c6
  cases hf1 : few6 m with
  | false =>
    go_wp2_with fail
    refine (awake_any _).mono ?_
    rintro e wz ⟨rfl, hbz⟩
    have HBz := Lib.hid (HB2.out.trans (hbz.mono HB2.out.size))
    clear hbz
    go_wp2
    go_ret
    exact ⟨rfl, HBz.out⟩
  | true =>
    have KP := Lib.hid (HIp.out.k hf1)
    have hfy := few6_yes hf1
    have hnf : m.fs.length ≤ 40 := hfy.1
    have hni : m.is.length ≤ 150 := hfy.2.1
    clear hf1 HIp hfy
    have c0 := HP2.out.cell 0
    have c1 := HP2.out.cell 1
    have c2 := HP2.out.cell 2
    have c3 := HP2.out.cell 3
    have c4 := HP2.out.cell 4
    have c5 := HP2.out.cell 5
    have c6 := HP2.out.cell 6
    simp [pcs] at c0 c1 c2 c3 c4 c5 c6
    go_wp2_with fail
    refine (KP.out.later HB2.out).own.mono ?_
    rintro e w3 ⟨oa, oc, ja, jd, rfl, hF3, hI3, hb3⟩
    have HB3 := Lib.hid (HB2.out.trans (hb3.mono HB2.out.size))
    have HP3 := Lib.hid (HP2.out.later hb3)
    have HE1 := Lib.hid (encode_any (w := w3) (m := m) s hs KP.out.few KP.out.lbm hF3 hI3 KP.out.fnq KP.out.inq (fc := oc) (ic := jd))
    clear hF3 hI3 hb3 HB2 HP2 c0 c1 c2 c3 c4 c5 c6
    go_wp2_with fail
    refine HE1.out.mono ?_
    rintro e w4 ⟨a1, n1, k1, rfl, hg1, hb4⟩
    have HB4 := Lib.hid (HB3.out.trans (hb4.mono HB3.out.size))
    have HP4 := Lib.hid (HP3.out.later hb4)
    have hPl := HP3.out.lt
    clear hb4 HB3 HP3 HE1
    by_cases hk : chkM m = 0
    case neg =>
      have x1 : (chkM m != 0) = true := by simp [hk]
      clear hg1
      go_wp2_with fail
      go_ret
      exact ⟨rfl, HB4.out⟩
    rw [hk]
    have HM0 := Lib.hid hk
    obtain ⟨g, rfl, rfl, rfl, hge, hf⟩ := hg1 hk
    have HL := Lib.hid (encM_len m s (good_of hk))
    have hy : Bytes w4 (some ⟨g, 0, none⟩) (encM m s) := by
      have := hf.bytes (by decide)
      rwa [show zpad 128 (encM m s) = encM m s by unfold zpad; rw [HL.out]; simp] at this
    have hB128 : B128 w4 g := ⟨_, fun i hi => ⟨_, by rw [List.getElem?_toArray]; exact cellsB_get _ i (by rw [zpad_len hf.len]; exact hi)⟩, hf.blo⟩
    have HD := Lib.hid (decode_any (w := w4) (some ⟨g, 0, none⟩) 128 128 (encM m s) HL.out.symm (Nat.le_refl _) hy)
    have H128 := Lib.hid hB128
    have hgl : g < w4.heap.size := hf.blo.lt
    have hPg : w.heap.size < g := by omega
    clear hg1 hk hf hy hB128 hge
    go_wp2_with fail
    refine HD.out.mono ?_
    rintro e w5 ⟨hb5, -, hyes⟩
    obtain ⟨fq, kq, iq, cq, av, SB, hdy⟩ := hyes (ok_enc m s HM0.out hs)
    have hdk := dec_enc HM0.out hs hdy
    have hq := hdk.eq
    subst hq
    have HB5 := Lib.hid (HB4.out.trans (hb5.mono HB4.out.size))
    have HP5 := Lib.hid (HP4.out.later hb5)
    have HK5 := Lib.hid hdk
    have H128' := Lib.hid (show B128 w5 g from (by obtain ⟨arr, e1, e2⟩ := H128.out; exact ⟨arr, e1, e2.later hb5⟩))
    have hw45 : w4.heap.size ≤ w5.heap.size := hb5.size
    clear hb5 hyes hdy hdk HD HB4 HP4 H128
    go_wp2_with fail
    have hl6 := sup_pc w5 (.cells #[.int .i64 m.e, .int .i64 m.c, .int .i64 m.i, .int .i64 m.p, .int .i64 m.x, .slice fq m.fs.length kq, .slice iq m.is.length cq] 25)
    have hs6 : (w5.alloc (.cells #[.int .i64 m.e, .int .i64 m.c, .int .i64 m.i, .int .i64 m.p, .int .i64 m.x, .slice fq m.fs.length kq, .slice iq m.is.length cq] 25)).heap.size = w5.heap.size + 1 := by simp
    have HQ6 := Lib.hid (blo_laid w5 25 #[.int .i64 m.e, .int .i64 m.c, .int .i64 m.i, .int .i64 m.p, .int .i64 m.x, .slice fq m.fs.length kq, .slice iq m.is.length cq])
    have HB6 := Lib.hid (HB5.out.trans (hl6.mono HB5.out.size))
    have HP6 := Lib.hid (HP5.out.later hl6)
    have HF6 := Lib.hid (HK5.out.fo.later hl6)
    have HI6 := Lib.hid (own_later HK5.out.ino hl6)
    have H6 : Hid (B128 (w5.alloc (.cells #[.int .i64 m.e, .int .i64 m.c, .int .i64 m.i, .int .i64 m.p, .int .i64 m.x, .slice fq m.fs.length kq, .slice iq m.is.length cq] 25)) g) := by
      obtain ⟨arr, e1, e2⟩ := H128'.out
      exact ⟨arr, e1, e2.later hl6⟩
    have HLe := Lib.hid HK5.out.lt
    have HSep := Lib.hid HK5.out.sep
    have hSb := HK5.out.le
    have hwD : w.heap.size ≤ w4.heap.size := by omega
    clear hl6 HK5 H128' HB5 HP5
    generalize w5.alloc (.cells #[.int .i64 m.e, .int .i64 m.c, .int .i64 m.i, .int .i64 m.p, .int .i64 m.x, .slice fq m.fs.length kq, .slice iq m.is.length cq] 25) = w6 at *
    generalize w5.heap.size = Qb at *
    generalize w4.heap.size = D at *
    go_loopw [10, 45] (fun _ t wr => ∃ j : Nat, j ≤ 128 ∧ t = .int .i64 j ∧ B128 wr g ∧ Out (fun y => y = g) w6 wr) (fun _ t _ => 128 - (intOf t).toNat)
    case atStart => exact ⟨0, Nat.zero_le _, rfl, H6.out, Out.refl _ _⟩
    case round =>
      clear H6
      obtain ⟨j, hj, rfl, hB, hO⟩ := hrel
      by_cases hlt : j < 128
      · have HBv := Lib.hid hB
        obtain ⟨arr, e1, e2⟩ := hB
        obtain ⟨nj, hnj⟩ := e1 j hlt
        have b1 : wr.cell? ⟨g, j, none⟩ = some (.int .u8 nj) := (e2.cell j).trans hnj
        have b2 := e2.frozen j
        have HO := Lib.hid hO
        clear e1 e2 hnj hO
        go_wp2_with fail
        go_roundw
        case rel => exact ⟨j + 1, by omega, by simp, HBv.out.put j _, HO.out.trans (out_put (X := fun y => y = g) _ ⟨g, j, none⟩ _ rfl) (fun _ _ h => h)⟩
        case measure => simp [intOf]; omega
      · obtain rfl : 128 = j := by omega
        have HQ7 := Lib.hid (hO.blo HQ6.out (by omega))
        have HP7 := Lib.hid (hO.blo HP6.out (by omega))
        have HF7 := Lib.hid (HF6.out.out hO (fun y e _ => by omega))
        have HI7 := Lib.hid (own_out HI6.out hO (fun y e _ => by omega))
        have HB7 := Lib.hid (HB6.out.trans (hO.below HB6.out.size (fun y _ e => by omega)))
        clear hO hB HQ6 HP6 HF6 HI6 HB6
        have d0 := HQ7.out.cell 0
        have d1 := HQ7.out.cell 1
        have d2 := HQ7.out.cell 2
        have d3 := HQ7.out.cell 3
        have d4 := HQ7.out.cell 4
        have d5 := HQ7.out.cell 5
        have d6 := HQ7.out.cell 6
        simp [pcs] at d0 d1 d2 d3 d4 d5 d6
        have c0 := HP7.out.cell 0
        have c1 := HP7.out.cell 1
        have c2 := HP7.out.cell 2
        have c3 := HP7.out.cell 3
        have c4 := HP7.out.cell 4
        have c5 := HP7.out.cell 5
        have c6 := HP7.out.cell 6
        simp [pcs] at c0 c1 c2 c3 c4 c5 c6
        go_wp2_with fail
        refine (same_any (w := wr) m m fq m.fs.length kq iq m.is.length cq fa fn fc ia inn ic (HF7.out.fis rfl) (KP.out.later HB7.out).fis rfl KP.out.fnq (by omega) (fun x hx => by have := lb_le x hx; have := few6_yes KP.out.few; omega) (Ints.own HI7.out) (KP.out.later HB7.out).ints rfl KP.out.inq (by omega)).mono ?_
        rintro e w8 ⟨⟨b, rfl, hb⟩, hbb⟩
        obtain rfl : b = true := hb.2 rfl
        have HQ8 := Lib.hid (HQ7.out.later hbb)
        have HP8 := Lib.hid (HP7.out.later hbb)
        have HF8 := Lib.hid (HF7.out.later hbb).k
        have HI8 := Lib.hid (own_later HI7.out hbb)
        have HB8 := Lib.hid (HB7.out.trans (hbb.mono HB7.out.size))
        clear hb hbb HQ7 HP7 HF7 HI7 HB7 c0 c1 c2 c3 c4 c5 c6 d0 d1 d2 d3 d4 d5 d6
        have d6 := HQ8.out.cell 6
        simp at d6
        go_wp2_with fail
        clear d6
        go_loopw [11, 62] (fun _ t wq => ∃ j : Nat, j ≤ m.is.length ∧ t = .int .i64 j ∧ (∃ xs : List Int, xs.length = m.is.length ∧ wq.ownsRow SB IT 1 (.slice iq m.is.length cq) m.is.length (cellsI xs)) ∧ Out (fun y => (Value.slice iq m.is.length cq).ownBlock = some y) w8 wq) (fun _ t _ => m.is.length - (intOf t).toNat)
        case atStart => exact ⟨0, Nat.zero_le _, rfl, ⟨m.is, rfl, HI8.out⟩, Out.refl _ _⟩
        case round =>
          rename World => wq
          obtain ⟨j, hj, rfl, ⟨xs, hxs, hO2⟩, hOt⟩ := hrel
          have hQq : Blo wq Qb 25 #[.int .i64 m.e, .int .i64 m.c, .int .i64 m.i, .int .i64 m.p, .int .i64 m.x, .slice fq m.fs.length kq, .slice iq m.is.length cq] := hOt.blo HQ8.out (fun e => by obtain ⟨-, -, cs, hb⟩ := oblo HI8.out e; exact HQ8.out.apart hb (by decide) rfl)
          by_cases hlt : j < m.is.length
          · obtain ⟨gi, rfl, hg1, hg2, ⟨cs9, hb9⟩, hcq⟩ := own_some hO2 (by omega)
            have b1 : wq.cell? ⟨gi, j, none⟩ = some (.int .i64 (xs.getD j 0)) := by rw [hO2.cellAt j (by omega), cellsI_get xs j (by omega)]
            have b2 := hb9.frozen j
            have d6 := hQq.cell 6
            simp at d6
            have HO2 := Lib.hid hO2
            have HOt := Lib.hid hOt
            clear hO2 hOt hQq hb9
            go_wp2_with fail
            go_roundw
            case rel => exact ⟨j + 1, by omega, by simp, ⟨xs.set j _, by rw [List.length_set]; exact hxs, own_putI HO2.out j _⟩, HOt.out.trans (out_put (X := fun y => (Value.slice (some ⟨gi, 0, none⟩) m.is.length cq).ownBlock = some y) _ ⟨gi, j, none⟩ _ rfl) (fun _ _ h => h)⟩
            case measure => simp [intOf]; omega
          · have hje : j = m.is.length := by omega
            subst hje
            have HQ9 := Lib.hid hQq
            have HP9 := Lib.hid (hOt.blo HP8.out (fun e => by obtain ⟨-, -, cs, hb⟩ := oblo HI8.out e; exact HP8.out.apart hb (by decide) rfl))
            have HF9 := Lib.hid (HF8.out.out hOt (fun y cs e hb => by obtain ⟨-, -, c, hb2⟩ := oblo HI8.out e; exact hb.apart hb2 (by decide) rfl) (fun i y _ hi e1 e2 => by have := (oblo HI8.out e2).1; have := HLe.out i y hi e1; omega))
            have HB9 := Lib.hid (HB8.out.trans (hOt.below HB8.out.size (fun y _ e => by have := (oblo HI8.out e).1; omega)))
            have HO9 := Lib.hid hO2
            have hq9 := hQq.lt
            have d6 := hQq.cell 6
            simp at d6
            clear hQq hOt hO2 HQ8 HP8 HF8 HI8 HB8
            go_upto_region 22 with (at_builtin; refine wp_append_rowO rfl (.tmp 74) (.tmp 75) 23 rfl D IT _ 1 8 Try.underlying23 info_it (by kernel_rfl) (by decide) (by decide) (.slice iq m.is.length cq) m.is.length _ rfl (own_weak (own_later HO9.out (sup_pc wq (.cells #[.int .i64 9] IT))) hSb) (some ⟨wq.heap.size, 0, none⟩) 1 1 [.int .i64 9] rfl rfl (laid_srcO wq IT _ _ rfl) (by simp [Value.oneCell']) (fun h => by cases h) (by omega) (by simp; omega) ?_; intro a5 c5 z3 hr3 hg3 _; have HQ3 := Lib.hid ((HQ9.out.alloc (.cells #[.int .i64 9] IT)).grown hg3 ((HQ9.out.alloc (.cells #[.int .i64 9] IT)).row_apart (own_later HO9.out (sup_pc wq (.cells #[.int .i64 9] IT))) (by decide))); have HP3 := Lib.hid ((HP9.out.alloc (.cells #[.int .i64 9] IT)).grown hg3 ((HP9.out.alloc (.cells #[.int .i64 9] IT)).row_apart (own_later HO9.out (sup_pc wq (.cells #[.int .i64 9] IT))) (by decide))); have ho3 := (Out.of_below (X := fun y => (Value.slice iq m.is.length cq).ownBlock = some y) (sup_pc wq (.cells #[.int .i64 9] IT))).trans (Out.of_grown (X := fun y => (Value.slice iq m.is.length cq).ownBlock = some y) hg3 (fun y e => e)) (fun _ _ h => h); have HF3 := Lib.hid (HF9.out.out ho3 (fun y cs e hb => by obtain ⟨-, -, c, hb2⟩ := oblo HO9.out e; exact hb.apart hb2 (by decide) rfl) (fun i y _ hi e1 e2 => by have := (oblo HO9.out e2).1; have := HLe.out i y hi e1; omega)); have HB3 := Lib.hid (HB9.out.trans (ho3.below HB9.out.size (fun y _ e => by have := (oblo HO9.out e).1; omega))); have e6 := HQ3.out.cell 6; have g6 := HQ3.out.frozen 6; simp at e6; clear hr3 hg3 ho3)
            have HQ10 := Lib.hid (HQ3.out.put 6 (.slice a5 (m.is.length + 1) c5))
            have HP10 := Lib.hid (HP3.out.far (p := ⟨Qb, 6, none⟩) (by show w.heap.size ≠ Qb; omega) (.slice a5 (m.is.length + 1) c5))
            have HF10 := Lib.hid (HF3.out.out (out_put z3 ⟨Qb, 6, none⟩ (.slice a5 (m.is.length + 1) c5) (X := fun y => y = Qb) rfl) (fun y cs e hb => by subst e; exact HQ3.out.apart hb (by decide) rfl) (fun i y hk hi e1 e2 => by subst e2; obtain ⟨cs2, _, h2⟩ := HF3.out; obtain ⟨-, -, c, hc⟩ := oblo (h2 i hk hi).2 e1; exact HQ3.out.apart hc (by decide) rfl))
            have HB10 := Lib.hid (HB3.out.setCell (p := ⟨Qb, 6, none⟩) (by show _ ≤ Qb; omega) (.slice a5 (m.is.length + 1) c5))
            clear HQ3 HP3 HF3 HB3 HO9 HQ9 HP9 HF9 HB9 d6 e6 g6
            generalize z3.setCell ⟨Qb, 6, none⟩ (.slice a5 (m.is.length + 1) c5) = w10 at *
            have d5 := HQ10.out.cell 5
            simp at d5
            go_wp2_with fail
            clear d5
            go_loopw [12, 81] (fun _ t wv => ∃ j : Nat, j ≤ m.fs.length ∧ t = .int .i64 j ∧ Blo wv Qb 25 #[.int .i64 m.e, .int .i64 m.c, .int .i64 m.i, .int .i64 m.p, .int .i64 m.x, .slice fq m.fs.length kq, .slice a5 (m.is.length + 1) c5] ∧ Blo wv w.heap.size 25 (pcs m fa fn fc ia inn ic) ∧ FoK wv D fq kq av m.fs j ∧ Below w.heap.size w wv) (fun _ t _ => m.fs.length - (intOf t).toNat)
            case atStart => exact ⟨0, Nat.zero_le _, rfl, HQ10.out, HP10.out, HF10.out, HB10.out⟩
            case round =>
              clear HQ10 HP10 HF10 HB10
              rename World => wv
              obtain ⟨j, hj, rfl, hQ, hP, hFk, hB⟩ := hrel
              by_cases hlt : j < m.fs.length
              · obtain ⟨cs, hr, hit⟩ := hFk
                obtain ⟨hcj, hoj⟩ := hit j (Nat.le_refl _) hlt
                obtain ⟨gf, rfl, hgf1, hgf2, ⟨csf, hbf⟩, hcf⟩ := own_some hr (by omega)
                have hgd := goodF_of ((good_of HM0.out).fs (m.fs.getD j fi0) (by rw [List.getD_eq_getElem?_getD, List.getElem?_eq_getElem hlt]; exact List.getElem_mem hlt))
                obtain ⟨la, lc, hav, hlc⟩ := own_slice hoj
                have hl1 : 1 ≤ (m.fs.getD j fi0).lb.length := hgd.2.1
                have hl30 : (m.fs.getD j fi0).lb.length ≤ 30 := hgd.2.2.1
                rw [hav] at hcj hoj
                generalize hlb : (m.fs.getD j fi0).lb = lb at hcj hoj hl1 hl30 hav
                obtain ⟨n, hn⟩ : ∃ n, lb.length = n := ⟨_, rfl⟩
                rw [hn] at hcj hoj hl1 hl30 hav
                obtain ⟨gl, rfl, hgl1, hgl2, ⟨csl, hbl⟩, hcl⟩ := own_some hoj (by omega)
                have hsep : ∀ i, j + 1 ≤ i → i < m.fs.length → ∀ y, (Value.slice (some ⟨gl, 0, none⟩) n lc).ownBlock = some y → (av i).ownBlock ≠ some y := fun i h1 h2 y e => HSep.out j i (by omega) h2 y (by rw [hav]; exact e)
                have hneQ : Qb ≠ gl := hQ.apart hbl (by decide)
                have hneP : w.heap.size ≠ gl := hP.apart hbl (by decide)
                have hneF : gf ≠ gl := hbf.apart hbl (by decide)
                have hneQf : Qb ≠ gf := hQ.apart hbf (by decide)
                have hnePf : w.heap.size ≠ gf := hP.apart hbf (by decide)
                have r1 : wv.cell? ⟨gf, j * 3 + 2, none⟩ = some (.slice (some ⟨gl, 0, none⟩) n lc) := by rw [hr.cellAt (j * 3 + 2) (by omega)]; exact hcj
                have r2 : wv.cell? ⟨gl, 0, none⟩ = some (.int .i64 (lb.getD 0 0)) := by rw [hoj.cellAt 0 (by omega), cellsI_get lb 0 (by omega)]
                have f2 := hbl.frozen 0
                have d5 := hQ.cell 5
                simp at d5
                have HQv := Lib.hid hQ
                have HPv := Lib.hid hP
                have HRv := Lib.hid hr
                have HTv := Lib.hid (show ∀ i, j + 1 ≤ i → i < m.fs.length → cs[i * 3 + 2]? = some (av i) ∧ wv.ownsRow D IT 1 (av i) (m.fs.getD i fi0).lb.length (cellsI (m.fs.getD i fi0).lb) from fun i h1 h2 => hit i (by omega) h2)
                have HCj := Lib.hid hcj
                have HOj := Lib.hid hoj
                have HBv := Lib.hid hB
                have HSp := Lib.hid hsep
                clear hit hcj hoj hgd hav hlb hsep hbl hbf hQ hP hr hB
                go_upto_region 25 with (fail)
                go_cut [] (fun wx => ∃ ys : List Int, ys.length = n ∧ wx.ownsRow D IT 1 (.slice (some ⟨gl, 0, none⟩) n lc) n (cellsI ys) ∧ Out (fun y => y = gl) wv wx)
                case first =>
                  go_wp2_with fail
                  go_meet
                  exact ⟨lb.set 0 _, by rw [List.length_set]; exact hn, own_putI HOj.out 0 _, out_put _ ⟨gl, 0, none⟩ _ rfl⟩
                case rest =>
                  obtain ⟨ys, hys, hoy, hot⟩ := hcut
                  rename World => wx
                  clear r1 r2 f2 d5 HOj
                  have HQx := Lib.hid (hot.blo HQv.out (fun e => hneQ e))
                  have HPx := Lib.hid (hot.blo HPv.out (fun e => hneP e))
                  have HRx := Lib.hid (hot.own HRv.out (fun y e hx => hneF ((Option.some.inj e).trans hx)))
                  have HTx := Lib.hid (show ∀ i, j + 1 ≤ i → i < m.fs.length → cs[i * 3 + 2]? = some (av i) ∧ wx.ownsRow D IT 1 (av i) (m.fs.getD i fi0).lb.length (cellsI (m.fs.getD i fi0).lb) from fun i h1 h2 => ⟨(HTv.out i h1 h2).1, hot.own (HTv.out i h1 h2).2 (fun y e hx => HSp.out i h1 h2 y (by subst hx; rfl) e)⟩)
                  have HBx := Lib.hid (HBv.out.trans (hot.below HBv.out.size (fun y _ e => by omega)))
                  have HOy := Lib.hid hoy
                  have r1 : wx.cell? ⟨gf, j * 3 + 2, none⟩ = some (.slice (some ⟨gl, 0, none⟩) n lc) := by rw [HRx.out.cellAt (j * 3 + 2) (by omega)]; exact HCj.out
                  have d5 := HQx.out.cell 5
                  simp at d5
                  have hgx : gf < wx.heap.size := (oblo HRx.out rfl).2.1
                  have hqx := HQx.out.lt
                  clear hot hoy HQv HPv HRv HTv HBv
                  go_wp2_with fail
                  go_region_law (first
                    | (refine step_append_row (by rfl) (.tmp 102) (.tmp 103) 23 (by rfl) D IT _ 1 8 Try.underlying23 info_it (by kernel_rfl) (by decide) (by decide) (.slice (some ⟨gl, 0, none⟩) n lc) n (cellsI ys) (by rfl) (own_later HOy.out ((sup_pc wx (.cells #[.int .i64 9] IT)).drew)) (some ⟨wx.heap.size, 0, none⟩) 1 1 [.int .i64 9] (by rfl) rfl (fun ad e j2 u hj2 => (laid_srcO wx IT #[.int .i64 9] [.int .i64 9] rfl ad e j2 u hj2 : (wx.alloc (.cells #[.int .i64 9] IT)).cell? _ = _)) (by simp [Value.oneCell']) (fun h => by cases h) (by omega) (by simp; omega) ?_
                       intro v' z3 hr3 hg4 _
                       have hg3 : (wx.drew.alloc (.cells #[.int .i64 9] IT)).grownBy z3 (Value.slice (some ⟨gl, 0, none⟩) n lc).ownBlock := ⟨hg4.os, hg4.tape, hg4.output, hg4.size, hg4.block⟩
                       clear hg4
                       obtain ⟨a6, c6, rfl, -⟩ := own_slice hr3
                       have HK := Lib.hid (fok_next (v' := .slice a6 (n + 1) c6) HRx.out HTx.out HOy.out HSp.out hg3)
                       have HQz := Lib.hid (((HQx.out.drew).alloc (.cells #[.int .i64 9] IT)).grown hg3 (fun e => hneQ (Option.some.inj e)))
                       have HPz := Lib.hid (((HPx.out.drew).alloc (.cells #[.int .i64 9] IT)).grown hg3 (fun e => hneP (Option.some.inj e)))
                       have HBz := Lib.hid ((HBx.out.drew.alloc HBx.out.size (.cells #[.int .i64 9] IT)).grown hg3 (by have := HBx.out.size; simp; omega) (fun y e => by have h9 : gl = y := Option.some.inj e; omega))
                       have rz : z3.cell? ⟨gf, j * 3 + 2, none⟩ = some (.slice (some ⟨gl, 0, none⟩) n lc) := by rw [HK.out.1.cellAt (j * 3 + 2) (by omega)]; exact HCj.out
                       have fz : z3.frozen? ⟨gf, j * 3 + 2, none⟩ = false := by obtain ⟨-, -, cz, hz⟩ := oblo HK.out.1 rfl; exact hz.frozen _
                       have d6 := HQz.out.cell 5
                       simp at d6
                       clear hr3 hg3)
                    | (go_simp; done))
                  all_goals
                    go_wp2_with fail
                    go_roundw
                    case rel => exact ⟨j + 1, by omega, by simp, HQz.out.far (p := ⟨gf, j * 3 + 2, none⟩) hneQf _, HPz.out.far (p := ⟨gf, j * 3 + 2, none⟩) hnePf _, HK.out.2, HBz.out.setCell (p := ⟨gf, j * 3 + 2, none⟩) (by show _ ≤ gf; omega) _⟩
                    case measure => simp [intOf]; omega
              · have hje : j = m.fs.length := by omega
                subst hje
                have HPv := Lib.hid hP
                have HBv := Lib.hid hB
                clear hQ hP hFk hB
                have c0 := HPv.out.cell 0
                have c1 := HPv.out.cell 1
                have c2 := HPv.out.cell 2
                have c3 := HPv.out.cell 3
                have c4 := HPv.out.cell 4
                have c5 := HPv.out.cell 5
                have c6 := HPv.out.cell 6
                simp [pcs] at c0 c1 c2 c3 c4 c5 c6
                go_wp2_with fail
                refine (KP.out.later HBv.out).own.mono ?_
                rintro e x3 ⟨oa2, oc2, ja2, jd2, rfl, hF3, hI3, hb3⟩
                have HBx3 := Lib.hid (HBv.out.trans (hb3.mono HBv.out.size))
                have HPx3 := Lib.hid (HPv.out.later hb3)
                have HE2 := Lib.hid (encode_any (w := x3) (m := m) s hs KP.out.few KP.out.lbm hF3 hI3 KP.out.fnq KP.out.inq (fc := oc2) (ic := jd2))
                clear hF3 hI3 hb3 HBv HPv c0 c1 c2 c3 c4 c5 c6
                go_wp2_with fail
                refine HE2.out.mono ?_
                rintro e x4 ⟨a2, n2, k2, rfl, hg2, hb4⟩
                have HBx4 := Lib.hid (HBx3.out.trans (hb4.mono HBx3.out.size))
                have HPx4 := Lib.hid (HPx3.out.later hb4)
                obtain ⟨g2, rfl, rfl, rfl, hge2, hf2⟩ := hg2 HM0.out
                have hy2 : Bytes x4 (some ⟨g2, 0, none⟩) (encM m s) := by
                  have := hf2.bytes (by decide)
                  rwa [show zpad 128 (encM m s) = encM m s by unfold zpad; rw [HL.out]; simp] at this
                have HD2 := Lib.hid (decode_any (w := x4) (some ⟨g2, 0, none⟩) 128 128 (encM m s) HL.out.symm (Nat.le_refl _) hy2)
                clear hg2 hf2 hy2 hb4 hge2 HBx3 HPx3 HE2
                go_wp2_with fail
                refine HD2.out.mono ?_
                rintro e x5 ⟨hb5, -, hyes⟩
                obtain ⟨fr, kr, ir, cr, av2, SB2, hdy⟩ := hyes (ok_enc m s HM0.out hs)
                have hdk := dec_enc HM0.out hs hdy
                have hq := hdk.eq
                subst hq
                have HBx5 := Lib.hid (HBx4.out.trans (hb5.mono HBx4.out.size))
                have HPx5 := Lib.hid (HPx4.out.later hb5)
                have HFx5 := Lib.hid (hdk.fo.fis rfl)
                have HIx5 := Lib.hid (Ints.own hdk.ino)
                clear hb5 hyes hdy hdk HD2 HBx4 HPx4
                go_upto_region 30 with (fail)
                have hl6 := sup_pc x5 (.cells #[.int .i64 m.e, .int .i64 m.c, .int .i64 m.i, .int .i64 m.p, .int .i64 m.x, .slice fr m.fs.length kr, .slice ir m.is.length cr] 25)
                have HRx := Lib.hid (blo_laid x5 25 #[.int .i64 m.e, .int .i64 m.c, .int .i64 m.i, .int .i64 m.p, .int .i64 m.x, .slice fr m.fs.length kr, .slice ir m.is.length cr])
                have HBx6 := Lib.hid (HBx5.out.trans (hl6.mono HBx5.out.size))
                have HPx6 := Lib.hid (HPx5.out.later hl6)
                have HFx6 := Lib.hid (HFx5.out.later hl6)
                have HIx6 := Lib.hid (HIx5.out.below hl6)
                clear hl6 HBx5 HPx5 HFx5 HIx5
                generalize x5.alloc (.cells #[.int .i64 m.e, .int .i64 m.c, .int .i64 m.i, .int .i64 m.p, .int .i64 m.x, .slice fr m.fs.length kr, .slice ir m.is.length cr] 25) = x6 at *
                generalize x5.heap.size = Rb at *
                have d0 := HRx.out.cell 0
                have d1 := HRx.out.cell 1
                have d2 := HRx.out.cell 2
                have d3 := HRx.out.cell 3
                have d4 := HRx.out.cell 4
                have d5 := HRx.out.cell 5
                have d6 := HRx.out.cell 6
                simp [pcs] at d0 d1 d2 d3 d4 d5 d6
                have c0 := HPx6.out.cell 0
                have c1 := HPx6.out.cell 1
                have c2 := HPx6.out.cell 2
                have c3 := HPx6.out.cell 3
                have c4 := HPx6.out.cell 4
                have c5 := HPx6.out.cell 5
                have c6 := HPx6.out.cell 6
                simp [pcs] at c0 c1 c2 c3 c4 c5 c6
                go_wp2_with fail
                refine (same_any (w := x6) m m fr m.fs.length kr ir m.is.length cr fa fn fc ia inn ic HFx6.out (KP.out.later HBx6.out).fis rfl KP.out.fnq (by omega) (fun x hx => by have := lb_le x hx; have := few6_yes KP.out.few; omega) HIx6.out (KP.out.later HBx6.out).ints rfl KP.out.inq (by omega)).mono ?_
                rintro e x7 ⟨⟨b, rfl, hb⟩, hbb⟩
                obtain rfl : b = true := hb.2 rfl
                have HBx7 := Lib.hid (HBx6.out.trans (hbb.mono HBx6.out.size))
                clear hb hbb c0 c1 c2 c3 c4 c5 c6 d0 d1 d2 d3 d4 d5 d6
                go_wp2
                go_ret
                exact ⟨rfl, HBx7.out⟩
end Go.Proofs.Ytkdjfhbdcfjnnaa
