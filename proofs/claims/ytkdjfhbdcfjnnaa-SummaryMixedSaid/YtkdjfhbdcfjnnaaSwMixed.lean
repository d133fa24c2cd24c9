/-
  The walk of SummaryMixed: of two summaries of unlike Epoch or Count blocks that have some sectors of the one and some of the other are no summary's.
-/
import Derived.Test.YtkdjfhbdcfjnnaaSwMixM
import Derived.Deep.DeepCutAuto
namespace Go.Proofs.Ytkdjfhbdcfjnnaa
open Go.RowKit

theorem size_u8m (w : World) : (Go.sizeOf U8).run Try.prog w = .ok 1 w := by kernel_rfl
theorem cut_sec (g k : Nat) (hk : k < 8) (W : World) :
    (Instr.slice 30 (.slice (some ⟨g, 0, none⟩) 128 128) (some (.int .i64 (16 * (k : Int)))) (some (.int .i64 (16 * (k : Int) + 16))) none).run Try.prog W = .ok (.slice (some ⟨g, 16 * k, none⟩) 16 (128 - 16 * k)) W := by
  have ht' : Try.prog.underlying 30 = some (.slice (Try.prog.elem 30)) := by simp [Program.elem, Try.underlying30]
  have he : Try.prog.elem 30 = 5 := by simp [Program.elem, Try.underlying30]
  rw [run_slice_lh W 30 _ _ _ ht' .i64 .i64 _ _ (by omega) (by omega) (by omega), he, size_u8m]
  have e1 : (16 * (k : Int)).toNat = 16 * k := by omega
  have e2 : (16 * (k : Int) + 16).toNat = 16 * k + 16 := by omega
  have e3 : ¬ (128 - 16 * k = 0) := by omega
  simp [Result.andThen, sliced, Addr.add_lit, e1, e2, e3]
  omega
set_option maxRecDepth 100000 in
set_option maxHeartbeats 8000000 in
theorem summaryMixed_walk (m : Sm) (fa : Option Addr) (fn fc : Nat) (ia : Option Addr) (inn ic : Nat) (q : Sm) (fb : Option Addr) (gn gc : Nat) (ib : Option Addr) (jnn jc : Nat) (wh : Int) (w : World) (hp : PartIn w m fa fn fc ia inn ic) (hq : PartIn w q fb gn gc ib jnn jc) (hw : (Lit.int .u8 wh).wf = true) :
    Calls Try.prog 5 #[part m.e m.c m.i m.p m.x fa fn fc ia inn ic, part q.e q.c q.i q.p q.x fb gn gc ib jnn jc, .int .u8 wh] w fun e w' => e = .returned (.bool true) ∧ Below w.heap.size w w' := by
  have hwb : 0 ≤ wh ∧ wh < 256 := by
    simp [Lit.wf, IntKind.min, IntKind.max, IntKind.signed, IntKind.bits] at hw
    omega
  have hw0 : 0 ≤ wh := hwb.1
  have hw1 : wh < 256 := hwb.2
  clear hw hwb
  have hb0 : Below w.heap.size w ((w.alloc (.cells (pcs m fa fn fc ia inn ic) 25)).alloc (.cells (pcs q fb gn gc ib jnn jc) 25)) := (sup_pc w _).trans ((sup_pc _ _).mono (by simp))
  have hxp : Blo ((w.alloc (.cells (pcs m fa fn fc ia inn ic) 25)).alloc (.cells (pcs q fb gn gc ib jnn jc) 25)) w.heap.size 25 (pcs m fa fn fc ia inn ic) := (blo_laid w 25 (pcs m fa fn fc ia inn ic)).alloc _
  have hxq : Blo ((w.alloc (.cells (pcs m fa fn fc ia inn ic) 25)).alloc (.cells (pcs q fb gn gc ib jnn jc) 25)) (w.heap.size + 1) 25 (pcs q fb gn gc ib jnn jc) := by
    have := blo_laid (w.alloc (.cells (pcs m fa fn fc ia inn ic) 25)) 25 (pcs q fb gn gc ib jnn jc)
    rwa [World.size_alloc] at this
  have HB0 := Lib.hid hb0
  have HP0 := Lib.hid hxp
  have HQ0 := Lib.hid hxq
  clear hb0 hxp hxq
  have HIp := Lib.hid hp
  have HIq := Lib.hid hq
  clear hp hq
  go_enter Try.func5, Try.ntmps5
  go_wp2_with fail
  refine (awake_any _).mono ?_
  rintro e w1 ⟨rfl, hb1⟩
  have HB1 := Lib.hid (HB0.out.trans (hb1.mono HB0.out.size))
  have HP1 := Lib.hid (HP0.out.later hb1)
  have HQ1 := Lib.hid (HQ0.out.later hb1)
  clear hb1 HB0 HP0 HQ0
  have c0 := HP1.out.cell 0
  have c1 := HP1.out.cell 1
  have c2 := HP1.out.cell 2
  have c3 := HP1.out.cell 3
  have c4 := HP1.out.cell 4
  have c5 := HP1.out.cell 5
  have c6 := HP1.out.cell 6
  simp [pcs] at c0 c1 c2 c3 c4 c5 c6
  go_wp2_with fail
  refine (few_any m fa fn fc ia inn ic (HIp.out.fin.fis.later HB1.out) HIp.out.fin.leq HIp.out.ins.leq HIp.out.fin.lenm HIp.out.ins.lenm HIp.out.fin.lb).mono ?_
  rintro e w2 ⟨rfl, hb2⟩
  have HB2 := Lib.hid (HB1.out.trans (hb2.mono HB1.out.size))
  have HP2 := Lib.hid (HP1.out.later hb2)
  have HQ2 := Lib.hid (HQ1.out.later hb2)
  clear hb2 HB1 HP1 HQ1 c0 c1 c2 c3 c4 c5 c6
  cases hf1 : few6 m with
  | false =>
    go_wp2_with fail
    refine (awake_any _).mono ?_
    rintro e wz ⟨rfl, hbz⟩
    have HBz := Lib.hid (HB2.out.trans (hbz.mono HB2.out.size))
    clear hbz
    go_wp2
    go_ret
    exact ⟨rfl, HBz.out⟩
  | true =>
    have d0 := HQ2.out.cell 0
    have d1 := HQ2.out.cell 1
    have d2 := HQ2.out.cell 2
    have d3 := HQ2.out.cell 3
    have d4 := HQ2.out.cell 4
    have d5 := HQ2.out.cell 5
    have d6 := HQ2.out.cell 6
    simp [pcs] at d0 d1 d2 d3 d4 d5 d6
    go_wp2_with fail
    refine (few_any q fb gn gc ib jnn jc (HIq.out.fin.fis.later HB2.out) HIq.out.fin.leq HIq.out.ins.leq HIq.out.fin.lenm HIq.out.ins.lenm HIq.out.fin.lb).mono ?_
    rintro e w3 ⟨rfl, hb3⟩
    have HB3 := Lib.hid (HB2.out.trans (hb3.mono HB2.out.size))
    have HP3 := Lib.hid (HP2.out.later hb3)
    have HQ3 := Lib.hid (HQ2.out.later hb3)
    clear hb3 HB2 HP2 HQ2 d0 d1 d2 d3 d4 d5 d6
    cases hf2 : few6 q with
    | false =>
      go_wp2_with fail
      refine (awake_any _).mono ?_
      rintro e wz ⟨rfl, hbz⟩
      have HBz := Lib.hid (HB3.out.trans (hbz.mono HB3.out.size))
      clear hbz
      go_wp2
      go_ret
      exact ⟨rfl, HBz.out⟩
    | true =>
      have KP := Lib.hid ((HIp.out.k hf1).later HB3.out)
      have KQ := Lib.hid ((HIq.out.k hf2).later HB3.out)
      clear hf1 hf2
      have hc0 := HP3.out.cell 0
      have hc1 := HP3.out.cell 1
      have hd0 := HQ3.out.cell 0
      have hd1 := HQ3.out.cell 1
      simp [pcs] at hc0 hc1 hd0 hd1
      by_cases hE : m.e = q.e
      · have y1 : (m.e == q.e) = true := by simp [hE]
        by_cases hC : m.c = q.c
        · have y2 : (m.c == q.c) = true := by simp [hC]
          go_wp2_with fail
          refine (awake_any _).mono ?_
          rintro e wz ⟨rfl, hbz⟩
          have HBz := Lib.hid (HB3.out.trans (hbz.mono HB3.out.size))
          clear hbz
          go_wp2
          go_ret
          exact ⟨rfl, HBz.out⟩
        · have y2 : (m.c == q.c) = false := by simp [hC]
          have HNe : Hid (¬ (m.e = q.e ∧ m.c = q.c)) := fun h => hC h.2
          clear hE hC
          have c0 := HP3.out.cell 0
          have c1 := HP3.out.cell 1
          have c2 := HP3.out.cell 2
          have c3 := HP3.out.cell 3
          have c4 := HP3.out.cell 4
          have c5 := HP3.out.cell 5
          have c6 := HP3.out.cell 6
          simp [pcs] at c0 c1 c2 c3 c4 c5 c6
          go_wp2_with fail
          refine KP.out.own.mono ?_
          rintro e w4 ⟨oa, oc, ja, jd, rfl, hF4, hI4, hb4⟩
          have HB4 := Lib.hid (HB3.out.trans (hb4.mono HB3.out.size))
          have KQ4 := Lib.hid (KQ.out.later hb4)
          have HQ4 := Lib.hid (HQ3.out.later hb4)
          have KP4 := Lib.hid (KP.out.later hb4)
          have HP4 := Lib.hid (HP3.out.later hb4)
          have HE1 := Lib.hid (encode_any (w := w4) (m := m) 1 (by decide) KP.out.few KP.out.lbm hF4 hI4 KP.out.fnq KP.out.inq (fc := oc) (ic := jd))
          clear hF4 hI4 hb4 KQ HQ3 HP3 HB3 KP c0 c1 c2 c3 c4 c5 c6
          go_wp2_with fail
          refine HE1.out.mono ?_
          rintro e w5 ⟨a1, n1, k1, rfl, hg1, hb5⟩
          have HB5 := Lib.hid (HB4.out.trans (hb5.mono HB4.out.size))
          have KQ5 := Lib.hid (KQ4.out.later hb5)
          have HQ5 := Lib.hid (HQ4.out.later hb5)
          have KP5 := Lib.hid (KP4.out.later hb5)
          have HP5 := Lib.hid (HP4.out.later hb5)
          have HG1 := Lib.hid hg1
          clear hb5 hg1 KQ4 HQ4 KP4 HP4 HB4 HE1
          have d0 := HQ5.out.cell 0
          have d1 := HQ5.out.cell 1
          have d2 := HQ5.out.cell 2
          have d3 := HQ5.out.cell 3
          have d4 := HQ5.out.cell 4
          have d5 := HQ5.out.cell 5
          have d6 := HQ5.out.cell 6
          simp [pcs] at d0 d1 d2 d3 d4 d5 d6
          go_wp2_with fail
          refine KQ5.out.own.mono ?_
          rintro e w6 ⟨pa, pc, qa, qd, rfl, hF6, hI6, hb6⟩
          have HB6 := Lib.hid (HB5.out.trans (hb6.mono HB5.out.size))
          have KP6 := Lib.hid (KP5.out.later hb6)
          have HP6 := Lib.hid (HP5.out.later hb6)
          have KQ6 := Lib.hid (KQ5.out.later hb6)
          have HQ6 := Lib.hid (HQ5.out.later hb6)
          have HE2 := Lib.hid (encode_any (w := w6) (m := q) 2 (by decide) KQ5.out.few KQ5.out.lbm hF6 hI6 KQ5.out.fnq KQ5.out.inq (fc := pc) (ic := qd))
          have HG6 : Hid (chkM m = 0 → ∃ g, a1 = some ⟨g, 0, none⟩ ∧ n1 = 128 ∧ k1 = 128 ∧ Fil w6 g 128 (encM m 1)) := fun h => by
            obtain ⟨g, e1, e2, e3, _, e4⟩ := HG1.out h
            exact ⟨g, e1, e2, e3, e4.later hb6⟩
          clear hF6 hI6 hb6 KQ5 HQ5 KP5 HP5 HB5 HG1 d0 d1 d2 d3 d4 d5 d6
          go_wp2_with fail
          refine HE2.out.mono ?_
          rintro e w7 ⟨a2, n2, k2, rfl, hg2, hb7⟩
          have HB7 := Lib.hid (HB6.out.trans (hb7.mono HB6.out.size))
          have KP7 := Lib.hid (KP6.out.later hb7)
          have HP7 := Lib.hid (HP6.out.later hb7)
          have KQ7 := Lib.hid (KQ6.out.later hb7)
          have HQ7 := Lib.hid (HQ6.out.later hb7)
          have HG2 : Hid (chkM q = 0 → ∃ g, a2 = some ⟨g, 0, none⟩ ∧ n2 = 128 ∧ k2 = 128 ∧ Fil w7 g 128 (encM q 2)) := fun h => by
            obtain ⟨g, e1, e2, e3, _, e4⟩ := hg2 h
            exact ⟨g, e1, e2, e3, e4⟩
          have HG1 : Hid (chkM m = 0 → ∃ g, a1 = some ⟨g, 0, none⟩ ∧ n1 = 128 ∧ k1 = 128 ∧ Fil w7 g 128 (encM m 1)) := fun h => by
            obtain ⟨g, e1, e2, e3, e4⟩ := HG6.out h
            exact ⟨g, e1, e2, e3, e4.later hb7⟩
          clear hg2 hb7 HG6 HE2 HB6 KP6 HP6 KQ6 HQ6
          have HZ1 : Hid (∀ z, chkM m = z → z = 0 → chkM m = 0) := fun z h1 h2 => h1.trans h2
          obtain ⟨z1, hz1⟩ : ∃ z, chkM m = z := ⟨_, rfl⟩
          obtain ⟨z2, hz2⟩ : ∃ z, chkM q = z := ⟨_, rfl⟩
          rw [hz1, hz2]
          have HZe := Lib.hid (show chkM m = z1 ∧ chkM q = z2 from ⟨hz1, hz2⟩)
          clear hz1 hz2 HZ1
          by_cases hk1 : z1 = 0
          case neg =>
            have x1 : (z1 != 0) = true := by simp [hk1]
            go_wp2_with fail
            go_ret
            exact ⟨rfl, HB7.out⟩
          have x1 : (z1 != 0) = false := by simp [hk1]
          by_cases hk2 : z2 = 0
          case neg =>
            have x2 : (z2 != 0) = true := by simp [hk2]
            go_wp2_with fail
            go_ret
            exact ⟨rfl, HB7.out⟩
          have x2 : (z2 != 0) = false := by simp [hk2]
          have HM0 : Hid (chkM m = 0 ∧ chkM q = 0) := ⟨HZe.out.1.trans hk1, HZe.out.2.trans hk2⟩
          obtain ⟨g1, rfl, rfl, rfl, hf1⟩ := HG1.out HM0.out.1
          obtain ⟨g2, rfl, rfl, rfl, hf2⟩ := HG2.out HM0.out.2
          have HL1 := Lib.hid (encM_len m 1 (good_of HM0.out.1))
          have HL2 := Lib.hid (encM_len q 2 (good_of HM0.out.2))
          have hy1 : Bytes w7 (some ⟨g1, 0, none⟩) (encM m 1) := by
            have := hf1.bytes (by decide)
            rwa [show zpad 128 (encM m 1) = encM m 1 by unfold zpad; rw [HL1.out]; simp] at this
          have hy2 : Bytes w7 (some ⟨g2, 0, none⟩) (encM q 2) := by
            have := hf2.bytes (by decide)
            rwa [show zpad 128 (encM q 2) = encM q 2 by unfold zpad; rw [HL2.out]; simp] at this
          have HY1 := Lib.hid hy1
          have HY2 := Lib.hid hy2
          clear hf1 hf2 hy1 hy2 HG1 HG2 HZe
          have HAl : Hid (∀ x ∈ (encM m 1), x < 256) := encM_lt _ _
          have HBl : Hid (∀ x ∈ (encM q 2), x < 256) := encM_lt _ _
          have HOK := Lib.hid (mix_ok wh hw0 hw1 m q HM0.out.1 HM0.out.2 1 2 (by decide) (by decide) HNe.out)
          clear hc0 hc1 hd0 hd1
          go_wp2_with fail
          go_loopw [11, 12] (fun v t wr => ∃ k : Nat, k ≤ 8 ∧ t = .int .i64 k ∧ ∃ ma mc, v = .slice ma (16 * k) mc ∧ wr.ownsRow w7.heap.size U8 1 (.slice ma (16 * k) mc) (16 * k) (cellsB (mixM wh (encM m 1) (encM q 2) k)) ∧ Below w7.heap.size w7 wr) (fun _ t _ => 8 - (intOf t).toNat)
          case atStart => exact ⟨0, Nat.zero_le _, rfl, none, 0, rfl, ⟨by simp [mixM, cellsB], .inl ⟨rfl, rfl⟩⟩, Below.refl _ _⟩
          case round =>
            obtain ⟨k, hk, rfl, ma, mc, rfl, hO, hB⟩ := hrel
            have HO := Lib.hid hO
            have HB := Lib.hid hB
            have HLt : Hid (∀ x ∈ mixM wh (encM m 1) (encM q 2) k, x < 256) := fun x hx => by
              obtain ⟨i, _, h⟩ := List.mem_flatMap.1 hx
              split at h
              · exact HAl.out x (List.mem_of_mem_drop (List.mem_of_mem_take h))
              · exact HBl.out x (List.mem_of_mem_drop (List.mem_of_mem_take h))
            by_cases hlt : k < 8
            · by_cases hb : wh / 2 ^ k % 2 = 1
              · skip
                have HV := Lib.hid (mixM_succ wh (encM m 1) (encM q 2) k)
                rw [if_pos hb] at HV
                have hand : bits BinOp.and IntKind.u8 (wh / 2 ^ k) 1 = 1 := by rw [and_one8 wh k hw0 hw1]; exact hb
                have hcut := fun W => cut_sec g1 k hlt W
                have HSrc : Hid (Bytes wr (some ⟨g1, 16 * k, none⟩) (((encM m 1).drop (16 * k)).take 16) ∧ 16 = (((encM m 1).drop (16 * k)).take 16).length) := by
                  have hl := HL1.out
                  have := bytes_part (HY1.out.below hB) (16 * k) 16 (by omega) (by decide)
                  rw [Nat.zero_add] at this
                  exact ⟨this, by rw [List.length_take, List.length_drop]; omega⟩
                have hbz := hB.size
                clear hb hO hB
                go_wp2_with (at_builtin; refine wp_append_bytes rfl (.tmp 70) (.tmp 77) 30 rfl w7.heap.size U8 Try.underlying30 info_u8 (.slice ma (16 * k) mc) (16 * k) (mixM wh (encM m 1) (encM q 2) k) rfl HO.out HLt.out (some ⟨g1, 16 * k, none⟩) 16 (128 - 16 * k) (((encM m 1).drop (16 * k)).take 16) rfl HSrc.out.2 HSrc.out.1 (fun h => by cases h) (by omega) hbz ?_; intro a5 c5 w8 ho hgr hBy hN; have HO8 := Lib.hid ho; have HB8 := Lib.hid (HB.out.grown hgr HB.out.size (fun j e => (oblo HO.out e).1)); clear ho hgr hBy hN)
                go_roundw
                case rel => exact ⟨k + 1, by omega, by simp, a5, c5, rfl, by rw [HV.out]; exact HO8.out, HB8.out⟩
                case measure => simp [intOf]; omega
              · skip
                have HV := Lib.hid (mixM_succ wh (encM m 1) (encM q 2) k)
                rw [if_neg hb] at HV
                have hand : bits BinOp.and IntKind.u8 (wh / 2 ^ k) 1 = 0 := by rw [and_one8 wh k hw0 hw1]; omega
                have hcut := fun W => cut_sec g2 k hlt W
                have HSrc : Hid (Bytes wr (some ⟨g2, 16 * k, none⟩) (((encM q 2).drop (16 * k)).take 16) ∧ 16 = (((encM q 2).drop (16 * k)).take 16).length) := by
                  have hl := HL2.out
                  have := bytes_part (HY2.out.below hB) (16 * k) 16 (by omega) (by decide)
                  rw [Nat.zero_add] at this
                  exact ⟨this, by rw [List.length_take, List.length_drop]; omega⟩
                have hbz := hB.size
                clear hb hO hB
                go_wp2_with (at_builtin; refine wp_append_bytes rfl (.tmp 79) (.tmp 86) 30 rfl w7.heap.size U8 Try.underlying30 info_u8 (.slice ma (16 * k) mc) (16 * k) (mixM wh (encM m 1) (encM q 2) k) rfl HO.out HLt.out (some ⟨g2, 16 * k, none⟩) 16 (128 - 16 * k) (((encM q 2).drop (16 * k)).take 16) rfl HSrc.out.2 HSrc.out.1 (fun h => by cases h) (by omega) hbz ?_; intro a5 c5 w8 ho hgr hBy hN; have HO8 := Lib.hid ho; have HB8 := Lib.hid (HB.out.grown hgr HB.out.size (fun j e => (oblo HO.out e).1)); clear ho hgr hBy hN)
                go_roundw
                case rel => exact ⟨k + 1, by omega, by simp, a5, c5, rfl, by rw [HV.out]; exact HO8.out, HB8.out⟩
                case measure => simp [intOf]; omega
            · obtain rfl : 8 = k := by omega
              obtain ⟨_, _, e8, hcap⟩ := own_slice hO
              cases e8
              have HDe := Lib.hid (decode_any (w := wr) ma 128 mc (mixM wh (encM m 1) (encM q 2) 8) (mixM_len HL1.out HL2.out 8 (Nat.le_refl _)).symm hcap (by obtain ⟨a9, c9, e9, _, hb9, _⟩ := Bytes.own hO HLt.out; cases e9; exact hb9))
              have HB8 := Lib.hid (HB7.out.trans (hB.mono HB7.out.size))
              clear hO hB hcap HO HB HLt
              go_wp2_with fail
              refine HDe.out.mono ?_
              rintro e w9 ⟨hb9, hno, hyes⟩
              have HB9 := Lib.hid (HB8.out.trans (hb9.mono HB8.out.size))
              rw [HOK.out] at hno hyes
              by_cases hz : wh = 0 ∨ wh = 255
              · obtain ⟨fa9, fc9, ia9, ic9, av9, SB9, hy⟩ := hyes (decide_eq_true hz)
                have hq := hy.eq
                subst hq
                clear hno hyes hb9 hy HOK
                rcases hz with rfl | rfl
                · go_wp2
                  go_ret
                  exact ⟨rfl, HB9.out.trans ((sup_pc _ _).mono HB9.out.size)⟩
                · go_wp2
                  go_ret
                  exact ⟨rfl, HB9.out.trans ((sup_pc _ _).mono HB9.out.size)⟩
              · have hq := hno (decide_eq_false hz)
                subst hq
                have z1 : (wh == 0) = false := by simp; omega
                have z2 : (wh == 255) = false := by simp; omega
                clear hno hyes hb9 hz HOK
                go_wp2
                go_ret
                exact ⟨rfl, HB9.out.trans ((sup_pc _ _).mono HB9.out.size)⟩
      · have y1 : (m.e == q.e) = false := by simp [hE]
        have HNe : Hid (¬ (m.e = q.e ∧ m.c = q.c)) := fun h => hE h.1
        clear hE
        have c0 := HP3.out.cell 0
        have c1 := HP3.out.cell 1
        have c2 := HP3.out.cell 2
        have c3 := HP3.out.cell 3
        have c4 := HP3.out.cell 4
        have c5 := HP3.out.cell 5
        have c6 := HP3.out.cell 6
        simp [pcs] at c0 c1 c2 c3 c4 c5 c6
        go_wp2_with fail
        refine KP.out.own.mono ?_
        rintro e w4 ⟨oa, oc, ja, jd, rfl, hF4, hI4, hb4⟩
        have HB4 := Lib.hid (HB3.out.trans (hb4.mono HB3.out.size))
        have KQ4 := Lib.hid (KQ.out.later hb4)
        have HQ4 := Lib.hid (HQ3.out.later hb4)
        have KP4 := Lib.hid (KP.out.later hb4)
        have HP4 := Lib.hid (HP3.out.later hb4)
        have HE1 := Lib.hid (encode_any (w := w4) (m := m) 1 (by decide) KP.out.few KP.out.lbm hF4 hI4 KP.out.fnq KP.out.inq (fc := oc) (ic := jd))
        clear hF4 hI4 hb4 KQ HQ3 HP3 HB3 KP c0 c1 c2 c3 c4 c5 c6
        go_wp2_with fail
        refine HE1.out.mono ?_
        rintro e w5 ⟨a1, n1, k1, rfl, hg1, hb5⟩
        have HB5 := Lib.hid (HB4.out.trans (hb5.mono HB4.out.size))
        have KQ5 := Lib.hid (KQ4.out.later hb5)
        have HQ5 := Lib.hid (HQ4.out.later hb5)
        have KP5 := Lib.hid (KP4.out.later hb5)
        have HP5 := Lib.hid (HP4.out.later hb5)
        have HG1 := Lib.hid hg1
        clear hb5 hg1 KQ4 HQ4 KP4 HP4 HB4 HE1
        have d0 := HQ5.out.cell 0
        have d1 := HQ5.out.cell 1
        have d2 := HQ5.out.cell 2
        have d3 := HQ5.out.cell 3
        have d4 := HQ5.out.cell 4
        have d5 := HQ5.out.cell 5
        have d6 := HQ5.out.cell 6
        simp [pcs] at d0 d1 d2 d3 d4 d5 d6
        go_wp2_with fail
        refine KQ5.out.own.mono ?_
        rintro e w6 ⟨pa, pc, qa, qd, rfl, hF6, hI6, hb6⟩
        have HB6 := Lib.hid (HB5.out.trans (hb6.mono HB5.out.size))
        have KP6 := Lib.hid (KP5.out.later hb6)
        have HP6 := Lib.hid (HP5.out.later hb6)
        have KQ6 := Lib.hid (KQ5.out.later hb6)
        have HQ6 := Lib.hid (HQ5.out.later hb6)
        have HE2 := Lib.hid (encode_any (w := w6) (m := q) 2 (by decide) KQ5.out.few KQ5.out.lbm hF6 hI6 KQ5.out.fnq KQ5.out.inq (fc := pc) (ic := qd))
        have HG6 : Hid (chkM m = 0 → ∃ g, a1 = some ⟨g, 0, none⟩ ∧ n1 = 128 ∧ k1 = 128 ∧ Fil w6 g 128 (encM m 1)) := fun h => by
          obtain ⟨g, e1, e2, e3, _, e4⟩ := HG1.out h
          exact ⟨g, e1, e2, e3, e4.later hb6⟩
        clear hF6 hI6 hb6 KQ5 HQ5 KP5 HP5 HB5 HG1 d0 d1 d2 d3 d4 d5 d6
        go_wp2_with fail
        refine HE2.out.mono ?_
        rintro e w7 ⟨a2, n2, k2, rfl, hg2, hb7⟩
        have HB7 := Lib.hid (HB6.out.trans (hb7.mono HB6.out.size))
        have KP7 := Lib.hid (KP6.out.later hb7)
        have HP7 := Lib.hid (HP6.out.later hb7)
        have KQ7 := Lib.hid (KQ6.out.later hb7)
        have HQ7 := Lib.hid (HQ6.out.later hb7)
        have HG2 : Hid (chkM q = 0 → ∃ g, a2 = some ⟨g, 0, none⟩ ∧ n2 = 128 ∧ k2 = 128 ∧ Fil w7 g 128 (encM q 2)) := fun h => by
          obtain ⟨g, e1, e2, e3, _, e4⟩ := hg2 h
          exact ⟨g, e1, e2, e3, e4⟩
        have HG1 : Hid (chkM m = 0 → ∃ g, a1 = some ⟨g, 0, none⟩ ∧ n1 = 128 ∧ k1 = 128 ∧ Fil w7 g 128 (encM m 1)) := fun h => by
          obtain ⟨g, e1, e2, e3, e4⟩ := HG6.out h
          exact ⟨g, e1, e2, e3, e4.later hb7⟩
        clear hg2 hb7 HG6 HE2 HB6 KP6 HP6 KQ6 HQ6
        have HZ1 : Hid (∀ z, chkM m = z → z = 0 → chkM m = 0) := fun z h1 h2 => h1.trans h2
        obtain ⟨z1, hz1⟩ : ∃ z, chkM m = z := ⟨_, rfl⟩
        obtain ⟨z2, hz2⟩ : ∃ z, chkM q = z := ⟨_, rfl⟩
        rw [hz1, hz2]
        have HZe := Lib.hid (show chkM m = z1 ∧ chkM q = z2 from ⟨hz1, hz2⟩)
        clear hz1 hz2 HZ1
        by_cases hk1 : z1 = 0
        case neg =>
          have x1 : (z1 != 0) = true := by simp [hk1]
          go_wp2_with fail
          go_ret
          exact ⟨rfl, HB7.out⟩
        have x1 : (z1 != 0) = false := by simp [hk1]
        by_cases hk2 : z2 = 0
        case neg =>
          have x2 : (z2 != 0) = true := by simp [hk2]
          go_wp2_with fail
          go_ret
          exact ⟨rfl, HB7.out⟩
        have x2 : (z2 != 0) = false := by simp [hk2]
        have HM0 : Hid (chkM m = 0 ∧ chkM q = 0) := ⟨HZe.out.1.trans hk1, HZe.out.2.trans hk2⟩
        obtain ⟨g1, rfl, rfl, rfl, hf1⟩ := HG1.out HM0.out.1
        obtain ⟨g2, rfl, rfl, rfl, hf2⟩ := HG2.out HM0.out.2
        have HL1 := Lib.hid (encM_len m 1 (good_of HM0.out.1))
        have HL2 := Lib.hid (encM_len q 2 (good_of HM0.out.2))
        have hy1 : Bytes w7 (some ⟨g1, 0, none⟩) (encM m 1) := by
          have := hf1.bytes (by decide)
          rwa [show zpad 128 (encM m 1) = encM m 1 by unfold zpad; rw [HL1.out]; simp] at this
        have hy2 : Bytes w7 (some ⟨g2, 0, none⟩) (encM q 2) := by
          have := hf2.bytes (by decide)
          rwa [show zpad 128 (encM q 2) = encM q 2 by unfold zpad; rw [HL2.out]; simp] at this
        have HY1 := Lib.hid hy1
        have HY2 := Lib.hid hy2
        clear hf1 hf2 hy1 hy2 HG1 HG2 HZe
        have HAl : Hid (∀ x ∈ (encM m 1), x < 256) := encM_lt _ _
        have HBl : Hid (∀ x ∈ (encM q 2), x < 256) := encM_lt _ _
        have HOK := Lib.hid (mix_ok wh hw0 hw1 m q HM0.out.1 HM0.out.2 1 2 (by decide) (by decide) HNe.out)
        clear hc0 hc1 hd0 hd1
        go_wp2_with fail
        go_loopw [11, 12] (fun v t wr => ∃ k : Nat, k ≤ 8 ∧ t = .int .i64 k ∧ ∃ ma mc, v = .slice ma (16 * k) mc ∧ wr.ownsRow w7.heap.size U8 1 (.slice ma (16 * k) mc) (16 * k) (cellsB (mixM wh (encM m 1) (encM q 2) k)) ∧ Below w7.heap.size w7 wr) (fun _ t _ => 8 - (intOf t).toNat)
        case atStart => exact ⟨0, Nat.zero_le _, rfl, none, 0, rfl, ⟨by simp [mixM, cellsB], .inl ⟨rfl, rfl⟩⟩, Below.refl _ _⟩
        case round =>
          obtain ⟨k, hk, rfl, ma, mc, rfl, hO, hB⟩ := hrel
          have HO := Lib.hid hO
          have HB := Lib.hid hB
          have HLt : Hid (∀ x ∈ mixM wh (encM m 1) (encM q 2) k, x < 256) := fun x hx => by
            obtain ⟨i, _, h⟩ := List.mem_flatMap.1 hx
            split at h
            · exact HAl.out x (List.mem_of_mem_drop (List.mem_of_mem_take h))
            · exact HBl.out x (List.mem_of_mem_drop (List.mem_of_mem_take h))
          by_cases hlt : k < 8
          · by_cases hb : wh / 2 ^ k % 2 = 1
            · skip
              have HV := Lib.hid (mixM_succ wh (encM m 1) (encM q 2) k)
              rw [if_pos hb] at HV
              have hand : bits BinOp.and IntKind.u8 (wh / 2 ^ k) 1 = 1 := by rw [and_one8 wh k hw0 hw1]; exact hb
              have hcut := fun W => cut_sec g1 k hlt W
              have HSrc : Hid (Bytes wr (some ⟨g1, 16 * k, none⟩) (((encM m 1).drop (16 * k)).take 16) ∧ 16 = (((encM m 1).drop (16 * k)).take 16).length) := by
                have hl := HL1.out
                have := bytes_part (HY1.out.below hB) (16 * k) 16 (by omega) (by decide)
                rw [Nat.zero_add] at this
                exact ⟨this, by rw [List.length_take, List.length_drop]; omega⟩
              have hbz := hB.size
              clear hb hO hB
              go_wp2_with (at_builtin; refine wp_append_bytes rfl (.tmp 70) (.tmp 77) 30 rfl w7.heap.size U8 Try.underlying30 info_u8 (.slice ma (16 * k) mc) (16 * k) (mixM wh (encM m 1) (encM q 2) k) rfl HO.out HLt.out (some ⟨g1, 16 * k, none⟩) 16 (128 - 16 * k) (((encM m 1).drop (16 * k)).take 16) rfl HSrc.out.2 HSrc.out.1 (fun h => by cases h) (by omega) hbz ?_; intro a5 c5 w8 ho hgr hBy hN; have HO8 := Lib.hid ho; have HB8 := Lib.hid (HB.out.grown hgr HB.out.size (fun j e => (oblo HO.out e).1)); clear ho hgr hBy hN)
              go_roundw
              case rel => exact ⟨k + 1, by omega, by simp, a5, c5, rfl, by rw [HV.out]; exact HO8.out, HB8.out⟩
              case measure => simp [intOf]; omega
            · skip
              have HV := Lib.hid (mixM_succ wh (encM m 1) (encM q 2) k)
              rw [if_neg hb] at HV
              have hand : bits BinOp.and IntKind.u8 (wh / 2 ^ k) 1 = 0 := by rw [and_one8 wh k hw0 hw1]; omega
              have hcut := fun W => cut_sec g2 k hlt W
              have HSrc : Hid (Bytes wr (some ⟨g2, 16 * k, none⟩) (((encM q 2).drop (16 * k)).take 16) ∧ 16 = (((encM q 2).drop (16 * k)).take 16).length) := by
                have hl := HL2.out
                have := bytes_part (HY2.out.below hB) (16 * k) 16 (by omega) (by decide)
                rw [Nat.zero_add] at this
                exact ⟨this, by rw [List.length_take, List.length_drop]; omega⟩
              have hbz := hB.size
              clear hb hO hB
              go_wp2_with (at_builtin; refine wp_append_bytes rfl (.tmp 79) (.tmp 86) 30 rfl w7.heap.size U8 Try.underlying30 info_u8 (.slice ma (16 * k) mc) (16 * k) (mixM wh (encM m 1) (encM q 2) k) rfl HO.out HLt.out (some ⟨g2, 16 * k, none⟩) 16 (128 - 16 * k) (((encM q 2).drop (16 * k)).take 16) rfl HSrc.out.2 HSrc.out.1 (fun h => by cases h) (by omega) hbz ?_; intro a5 c5 w8 ho hgr hBy hN; have HO8 := Lib.hid ho; have HB8 := Lib.hid (HB.out.grown hgr HB.out.size (fun j e => (oblo HO.out e).1)); clear ho hgr hBy hN)
              go_roundw
              case rel => exact ⟨k + 1, by omega, by simp, a5, c5, rfl, by rw [HV.out]; exact HO8.out, HB8.out⟩
              case measure => simp [intOf]; omega
          · obtain rfl : 8 = k := by omega
            obtain ⟨_, _, e8, hcap⟩ := own_slice hO
            cases e8
            have HDe := Lib.hid (decode_any (w := wr) ma 128 mc (mixM wh (encM m 1) (encM q 2) 8) (mixM_len HL1.out HL2.out 8 (Nat.le_refl _)).symm hcap (by obtain ⟨a9, c9, e9, _, hb9, _⟩ := Bytes.own hO HLt.out; cases e9; exact hb9))
            have HB8 := Lib.hid (HB7.out.trans (hB.mono HB7.out.size))
            clear hO hB hcap HO HB HLt
            go_wp2_with fail
            refine HDe.out.mono ?_
            rintro e w9 ⟨hb9, hno, hyes⟩
            have HB9 := Lib.hid (HB8.out.trans (hb9.mono HB8.out.size))
            rw [HOK.out] at hno hyes
            by_cases hz : wh = 0 ∨ wh = 255
            · obtain ⟨fa9, fc9, ia9, ic9, av9, SB9, hy⟩ := hyes (decide_eq_true hz)
              have hq := hy.eq
              subst hq
              clear hno hyes hb9 hy HOK
              rcases hz with rfl | rfl
              · go_wp2
                go_ret
                exact ⟨rfl, HB9.out.trans ((sup_pc _ _).mono HB9.out.size)⟩
              · go_wp2
                go_ret
                exact ⟨rfl, HB9.out.trans ((sup_pc _ _).mono HB9.out.size)⟩
            · have hq := hno (decide_eq_false hz)
              subst hq
              have z1 : (wh == 0) = false := by simp; omega
              have z2 : (wh == 255) = false := by simp; omega
              clear hno hyes hb9 hz HOK
              go_wp2
              go_ret
              exact ⟨rfl, HB9.out.trans ((sup_pc _ _).mono HB9.out.size)⟩
end Go.Proofs.Ytkdjfhbdcfjnnaa
