/-
  The walk of SummaryOne: two summaries have the same blocks just if they, and their sums, are the same.
-/
import Derived.Test.YtkdjfhbdcfjnnaaSwMixM
import Derived.Test.YtkdjfhbdcfjnnaaSwSame
import Derived.Test.YtkdjfhbdcfjnnaaQuiet
import Derived.BigQuiet
import Derived.Deep.DeepCutAuto
import Derived.Deep.RegionLaw
namespace Go.Proofs.Ytkdjfhbdcfjnnaa
open Go.RowKit

theorem enc_inj {m q : Sm} {s t : Nat} (hm : chkM m = 0) (hq : chkM q = 0) (hs : s < 4294967296) (ht : t < 4294967296) (h : encM m s = encM q t) : m = q ∧ s = t := by
  have h1 := enc_back m s (good_of hm) hs
  have h2 := enc_back q t (good_of hq) ht
  rw [h] at h1
  exact ⟨h1.1.symm.trans h2.1, h1.2.2.symm.trans h2.2.2⟩
/-- What stands behind Encode of what Own answers. -/
def EncR (m : Sm) (s : Nat) (w0 : World) (a e : Value) (W : World) : Prop := ∃ ad n c, a = .slice ad n c ∧ e = .int .i64 (chkM m) ∧ (chkM m = 0 → ∃ g, ad = some ⟨g, 0, none⟩ ∧ n = 128 ∧ c = 128 ∧ Fil W g 128 (encM m s)) ∧ Below w0.heap.size w0 W
set_option maxRecDepth 100000 in
set_option maxHeartbeats 8000000 in
theorem summaryOne_walk (m : Sm) (fa : Option Addr) (fn fc : Nat) (ia : Option Addr) (inn ic : Nat) (q : Sm) (fb : Option Addr) (gn gc : Nat) (ib : Option Addr) (jnn jc : Nat) (s0 s1 : Nat) (w : World) (hp : PartIn w m fa fn fc ia inn ic) (hq : PartIn w q fb gn gc ib jnn jc) (hs0 : s0 < 4294967296) (hs1 : s1 < 4294967296) :
    Calls Try.prog 8 #[part m.e m.c m.i m.p m.x fa fn fc ia inn ic, part q.e q.c q.i q.p q.x fb gn gc ib jnn jc, .agg #[.int .u32 (s0 : Nat), .int .u32 (s1 : Nat)]] w fun e w' => e = .returned (.bool true) ∧ Below w.heap.size w w' := by
  have hb00 : Below w.heap.size w ((w.alloc (.cells (pcs m fa fn fc ia inn ic) 25)).alloc (.cells (pcs q fb gn gc ib jnn jc) 25)) := (sup_pc w _).trans ((sup_pc _ _).mono (by simp))
  have hb0 : Below w.heap.size w (((w.alloc (.cells (pcs m fa fn fc ia inn ic) 25)).alloc (.cells (pcs q fb gn gc ib jnn jc) 25)).alloc (.cells #[.int .u32 (s0 : Nat), .int .u32 (s1 : Nat)] 49)) := hb00.trans ((sup_pc _ _).mono hb00.size)
  have hxp : Blo (((w.alloc (.cells (pcs m fa fn fc ia inn ic) 25)).alloc (.cells (pcs q fb gn gc ib jnn jc) 25)).alloc (.cells #[.int .u32 (s0 : Nat), .int .u32 (s1 : Nat)] 49)) w.heap.size 25 (pcs m fa fn fc ia inn ic) := ((blo_laid w 25 (pcs m fa fn fc ia inn ic)).alloc _).alloc _
  have hxs : Blo (((w.alloc (.cells (pcs m fa fn fc ia inn ic) 25)).alloc (.cells (pcs q fb gn gc ib jnn jc) 25)).alloc (.cells #[.int .u32 (s0 : Nat), .int .u32 (s1 : Nat)] 49)) (w.heap.size + 2) 49 #[.int .u32 (s0 : Nat), .int .u32 (s1 : Nat)] := by
    have := blo_laid ((w.alloc (.cells (pcs m fa fn fc ia inn ic) 25)).alloc (.cells (pcs q fb gn gc ib jnn jc) 25)) 49 #[.int .u32 (s0 : Nat), .int .u32 (s1 : Nat)]
    rwa [World.size_alloc, World.size_alloc] at this
  have hxq : Blo (((w.alloc (.cells (pcs m fa fn fc ia inn ic) 25)).alloc (.cells (pcs q fb gn gc ib jnn jc) 25)).alloc (.cells #[.int .u32 (s0 : Nat), .int .u32 (s1 : Nat)] 49)) (w.heap.size + 1) 25 (pcs q fb gn gc ib jnn jc) := by
    have := blo_laid (w.alloc (.cells (pcs m fa fn fc ia inn ic) 25)) 25 (pcs q fb gn gc ib jnn jc)
    rw [World.size_alloc] at this
    exact this.alloc _
  have HS0 := Lib.hid hxs
  have HB0 := Lib.hid hb0
  have HP0 := Lib.hid hxp
  have HQ0 := Lib.hid hxq
  clear hb00 hb0 hxp hxq hxs
  have HIp := Lib.hid hp
  have HIq := Lib.hid hq
  clear hp hq
  go_enter Try.func8, Try.ntmps8
  go_wp2_with fail
  refine (awake_any _).mono ?_
  rintro e w1 ⟨rfl, hb1⟩
  have HB1 := Lib.hid (HB0.out.trans (hb1.mono HB0.out.size))
  have HP1 := Lib.hid (HP0.out.later hb1)
  have HQ1 := Lib.hid (HQ0.out.later hb1)
  have HS1 := Lib.hid (HS0.out.later hb1)
  clear hb1 HB0 HP0 HQ0 HS0
  have c0 := HP1.out.cell 0
  have c1 := HP1.out.cell 1
  have c2 := HP1.out.cell 2
  have c3 := HP1.out.cell 3
  have c4 := HP1.out.cell 4
  have c5 := HP1.out.cell 5
  have c6 := HP1.out.cell 6
  simp [pcs] at c0 c1 c2 c3 c4 c5 c6
  go_wp2_with fail
  refine (few_any m fa fn fc ia inn ic (HIp.out.fin.fis.later HB1.out) HIp.out.fin.leq HIp.out.ins.leq HIp.out.fin.lenm HIp.out.ins.lenm HIp.out.fin.lb).mono ?_
  rintro e w2 ⟨rfl, hb2⟩
  have HB2 := Lib.hid (HB1.out.trans (hb2.mono HB1.out.size))
  have HP2 := Lib.hid (HP1.out.later hb2)
  have HQ2 := Lib.hid (HQ1.out.later hb2)
  have HS2 := Lib.hid (HS1.out.later hb2)
  clear hb2 HB1 HP1 HQ1 HS1 c0 c1 c2 c3 c4 c5 c6
  cases hf1 : few6 m with
  | false =>
    go_wp2_with fail
    refine (awake_any _).mono ?_
    rintro e wz ⟨rfl, hbz⟩
    have HBz := Lib.hid (HB2.out.trans (hbz.mono HB2.out.size))
    clear hbz
    go_wp2
    go_ret
    exact ⟨rfl, HBz.out⟩
  | true =>
    have d0 := HQ2.out.cell 0
    have d1 := HQ2.out.cell 1
    have d2 := HQ2.out.cell 2
    have d3 := HQ2.out.cell 3
    have d4 := HQ2.out.cell 4
    have d5 := HQ2.out.cell 5
    have d6 := HQ2.out.cell 6
    simp [pcs] at d0 d1 d2 d3 d4 d5 d6
    go_wp2_with fail
    refine (few_any q fb gn gc ib jnn jc (HIq.out.fin.fis.later HB2.out) HIq.out.fin.leq HIq.out.ins.leq HIq.out.fin.lenm HIq.out.ins.lenm HIq.out.fin.lb).mono ?_
    rintro e w3 ⟨rfl, hb3⟩
    have HB3 := Lib.hid (HB2.out.trans (hb3.mono HB2.out.size))
    have HP3 := Lib.hid (HP2.out.later hb3)
    have HQ3 := Lib.hid (HQ2.out.later hb3)
    have HS3 := Lib.hid (HS2.out.later hb3)
    clear hb3 HB2 HP2 HQ2 HS2 d0 d1 d2 d3 d4 d5 d6
    cases hf2 : few6 q with
    | false =>
      go_wp2_with fail
      refine (awake_any _).mono ?_
      rintro e wz ⟨rfl, hbz⟩
      have HBz := Lib.hid (HB3.out.trans (hbz.mono HB3.out.size))
      clear hbz
      go_wp2
      go_ret
      exact ⟨rfl, HBz.out⟩
    | true =>
      have KP := Lib.hid ((HIp.out.k hf1).later HB3.out)
      have KQ := Lib.hid ((HIq.out.k hf2).later HB3.out)
      clear hf1 hf2
      have c0 := HP3.out.cell 0
      have c1 := HP3.out.cell 1
      have c2 := HP3.out.cell 2
      have c3 := HP3.out.cell 3
      have c4 := HP3.out.cell 4
      have c5 := HP3.out.cell 5
      have c6 := HP3.out.cell 6
      simp [pcs] at c0 c1 c2 c3 c4 c5 c6
      have sm1 := HS3.out.cell 0
      simp at sm1
      have sz1 := HP3.out.lt
      have sy1 := HS3.out.lt
      go_wp2_with fail
      go_cut [7, 8] (fun a e wx => EncR m s0 w3 a e wx)
      case first =>
        go_region_law (first
          | (go_simp; go_at_call 11; refine ((KP.out.later ((Below.refl _ w3).drew)).own).mono ?_; rintro e wo ⟨oa, oc, ja, jd, rfl, hFo, hIo, hbo⟩; have hbo' : Below w3.heap.size w3 wo := ((Below.refl _ w3).drew).trans hbo; have HBo := Lib.hid hbo'; have HE := Lib.hid (encode_any (w := wo) (m := m) (fa := oa) (fc := oc) (ia := ja) (ic := jd) s0 (by omega) KP.out.few KP.out.lbm hFo hIo KP.out.fnq KP.out.inq); have smo := (HS3.out.later hbo').cell 0; simp at smo; clear hFo hIo hbo hbo')
          | (go_simp; go_at_call 12; refine HE.out.mono ?_; rintro e wp ⟨ad, n9, c9, rfl, hgd, hbp⟩; have HR : Hid (EncR m s0 w3 (.slice ad n9 c9) (.int .i64 (chkM m)) wp) := ⟨ad, n9, c9, rfl, rfl, fun h => (by obtain ⟨g, e1, e2, e3, _, e4⟩ := hgd h; exact ⟨g, e1, e2, e3, e4⟩), HBo.out.trans (hbp.mono HBo.out.size)⟩; clear hgd hbp HE)
          | (go_simp; done))
        all_goals (go_wp2_with fail; go_meet; exact HR.out)
      case rest =>
        obtain ⟨a1, n1, k1, rfl, rfl, hg1, hb4⟩ := hcut
        rename World => w4
        have HB4 := Lib.hid (HB3.out.trans (hb4.mono HB3.out.size))
        have KP4 := Lib.hid (KP.out.later hb4)
        have HP4 := Lib.hid (HP3.out.later hb4)
        have KQ4 := Lib.hid (KQ.out.later hb4)
        have HQ4 := Lib.hid (HQ3.out.later hb4)
        have HS4 := Lib.hid (HS3.out.later hb4)
        have HG1 := Lib.hid hg1
        clear hg1 hb4 KP HP3 KQ HQ3 HS3 HB3 c0 c1 c2 c3 c4 c5 c6 sm1 sz1 sy1
        have d0 := HQ4.out.cell 0
        have d1 := HQ4.out.cell 1
        have d2 := HQ4.out.cell 2
        have d3 := HQ4.out.cell 3
        have d4 := HQ4.out.cell 4
        have d5 := HQ4.out.cell 5
        have d6 := HQ4.out.cell 6
        simp [pcs] at d0 d1 d2 d3 d4 d5 d6
        have sm2 := HS4.out.cell 1
        simp at sm2
        have sz2 := HQ4.out.lt
        have sy2 := HS4.out.lt
        go_wp2_with fail
        go_cut [9, 10] (fun a e wx => EncR q s1 w4 a e wx)
        case first =>
          go_region_law (first
            | (go_simp; go_at_call 11; refine ((KQ4.out.later ((Below.refl _ w4).drew)).own).mono ?_; rintro e wo ⟨oa, oc, ja, jd, rfl, hFo, hIo, hbo⟩; have hbo' : Below w4.heap.size w4 wo := ((Below.refl _ w4).drew).trans hbo; have HBo := Lib.hid hbo'; have HE := Lib.hid (encode_any (w := wo) (m := q) (fa := oa) (fc := oc) (ia := ja) (ic := jd) s1 (by omega) KQ4.out.few KQ4.out.lbm hFo hIo KQ4.out.fnq KQ4.out.inq); have smo := (HS4.out.later hbo').cell 1; simp at smo; clear hFo hIo hbo hbo')
            | (go_simp; go_at_call 12; refine HE.out.mono ?_; rintro e wp ⟨ad, n9, c9, rfl, hgd, hbp⟩; have HR : Hid (EncR q s1 w4 (.slice ad n9 c9) (.int .i64 (chkM q)) wp) := ⟨ad, n9, c9, rfl, rfl, fun h => (by obtain ⟨g, e1, e2, e3, _, e4⟩ := hgd h; exact ⟨g, e1, e2, e3, e4⟩), HBo.out.trans (hbp.mono HBo.out.size)⟩; clear hgd hbp HE)
            | (go_simp; done))
          all_goals (go_wp2_with fail; go_meet; exact HR.out)
        case rest =>
          obtain ⟨a2, n2, k2, rfl, rfl, hg2, hb5⟩ := hcut
          rename World => w5
          have HB5 := Lib.hid (HB4.out.trans (hb5.mono HB4.out.size))
          have KP5 := Lib.hid (KP4.out.later hb5)
          have HP5 := Lib.hid (HP4.out.later hb5)
          have KQ5 := Lib.hid (KQ4.out.later hb5)
          have HQ5 := Lib.hid (HQ4.out.later hb5)
          have HS5 := Lib.hid (HS4.out.later hb5)
          have HG2 := Lib.hid hg2
          have HG5 : Hid (chkM m = 0 → ∃ g, a1 = some ⟨g, 0, none⟩ ∧ n1 = 128 ∧ k1 = 128 ∧ Fil w5 g 128 (encM m s0)) := fun h => by
            obtain ⟨g, e1, e2, e3, e4⟩ := HG1.out h
            exact ⟨g, e1, e2, e3, e4.later hb5⟩
          clear hg2 hb5 HG1 KP4 HP4 KQ4 HQ4 HS4 HB4 d0 d1 d2 d3 d4 d5 d6 sm2 sz2 sy2
          obtain ⟨z1, hz1⟩ : ∃ z, chkM m = z := ⟨_, rfl⟩
          obtain ⟨z2, hz2⟩ : ∃ z, chkM q = z := ⟨_, rfl⟩
          rw [hz1, hz2]
          have HZe := Lib.hid (show chkM m = z1 ∧ chkM q = z2 from ⟨hz1, hz2⟩)
          clear hz1 hz2
          by_cases hk1 : z1 = 0
          case neg =>
            have x1 : (z1 != 0) = true := by simp [hk1]
            go_wp2_with fail
            go_ret
            exact ⟨rfl, HB5.out⟩
          have x1 : (z1 != 0) = false := by simp [hk1]
          by_cases hk2 : z2 = 0
          case neg =>
            have x2 : (z2 != 0) = true := by simp [hk2]
            go_wp2_with fail
            go_ret
            exact ⟨rfl, HB5.out⟩
          have x2 : (z2 != 0) = false := by simp [hk2]
          have HM0 : Hid (chkM m = 0 ∧ chkM q = 0) := ⟨HZe.out.1.trans hk1, HZe.out.2.trans hk2⟩
          obtain ⟨g1, rfl, rfl, rfl, hf1⟩ := HG5.out HM0.out.1
          obtain ⟨g2, rfl, rfl, rfl, hf2⟩ := HG2.out HM0.out.2
          have HL1 := Lib.hid (encM_len m s0 (good_of HM0.out.1))
          have HL2 := Lib.hid (encM_len q s1 (good_of HM0.out.2))
          have hy1 : Bytes w5 (some ⟨g1, 0, none⟩) (encM m s0) := by
            have := hf1.bytes (by decide)
            rwa [show zpad 128 (encM m s0) = encM m s0 by unfold zpad; rw [HL1.out]; simp] at this
          have hy2 : Bytes w5 (some ⟨g2, 0, none⟩) (encM q s1) := by
            have := hf2.bytes (by decide)
            rwa [show zpad 128 (encM q s1) = encM q s1 by unfold zpad; rw [HL2.out]; simp] at this
          have HSm := Lib.hid (fun W (hW : Below w5.heap.size w5 W) => same_any (w := W) m q fa fn fc ia inn ic fb gn gc ib jnn jc (KP5.out.fis.later hW) (KQ5.out.fis.later hW) KP5.out.fnq KQ5.out.fnq (by have := few6_yes KP5.out.few; have := KP5.out.fnq; omega) (fun x hx => by have := lb_le x hx; have := few6_yes KP5.out.few; omega) (KP5.out.ints.below hW) (KQ5.out.ints.below hW) KP5.out.inq KQ5.out.inq (by have := few6_yes KP5.out.few; have := KP5.out.inq; omega))
          have v1 : ∀ y : Kept w5, (convert 30 9 (.slice (some ⟨g1, 0, none⟩) 128 128)).run Try.prog y.at_ = .ok (.string (strOf (encM m s0))) y.at_ := fun y => run_str y.at_ 30 9 5 Try.underlying30 Try.underlying5 Try.underlying9 _ _ 128 128 HL1.out.symm (hy1.below y.below)
          have v2 : ∀ y : Kept w5, (convert 30 9 (.slice (some ⟨g2, 0, none⟩) 128 128)).run Try.prog y.at_ = .ok (.string (strOf (encM q s1))) y.at_ := fun y => run_str y.at_ 30 9 5 Try.underlying30 Try.underlying5 Try.underlying9 _ _ 128 128 HL2.out.symm (hy2.below y.below)
          have HLt1 : Hid (∀ x ∈ encM m s0, x < 256) := encM_lt _ _
          have HLt2 : Hid (∀ x ∈ encM q s1, x < 256) := encM_lt _ _
          have HInj : Hid (encM m s0 = encM q s1 → m = q ∧ s0 = s1) := enc_inj HM0.out.1 HM0.out.2 hs0 hs1
          have p0 : ∀ y : Kept w5, y.at_.cell? ⟨w.heap.size, 0, none⟩ = some (.int .i64 m.e) := fun y => (HP5.out.later y.below).cell 0
          have p1 : ∀ y : Kept w5, y.at_.cell? ⟨w.heap.size, 1, none⟩ = some (.int .i64 m.c) := fun y => (HP5.out.later y.below).cell 1
          have p2 : ∀ y : Kept w5, y.at_.cell? ⟨w.heap.size, 2, none⟩ = some (.int .i64 m.i) := fun y => (HP5.out.later y.below).cell 2
          have p3 : ∀ y : Kept w5, y.at_.cell? ⟨w.heap.size, 3, none⟩ = some (.int .i64 m.p) := fun y => (HP5.out.later y.below).cell 3
          have p4 : ∀ y : Kept w5, y.at_.cell? ⟨w.heap.size, 4, none⟩ = some (.int .i64 m.x) := fun y => (HP5.out.later y.below).cell 4
          have p5 : ∀ y : Kept w5, y.at_.cell? ⟨w.heap.size, 5, none⟩ = some (.slice fa fn fc) := fun y => (HP5.out.later y.below).cell 5
          have p6 : ∀ y : Kept w5, y.at_.cell? ⟨w.heap.size, 6, none⟩ = some (.slice ia inn ic) := fun y => (HP5.out.later y.below).cell 6
          have r0 : ∀ y : Kept w5, y.at_.cell? ⟨w.heap.size + 1, 0, none⟩ = some (.int .i64 q.e) := fun y => (HQ5.out.later y.below).cell 0
          have r1 : ∀ y : Kept w5, y.at_.cell? ⟨w.heap.size + 1, 1, none⟩ = some (.int .i64 q.c) := fun y => (HQ5.out.later y.below).cell 1
          have r2 : ∀ y : Kept w5, y.at_.cell? ⟨w.heap.size + 1, 2, none⟩ = some (.int .i64 q.i) := fun y => (HQ5.out.later y.below).cell 2
          have r3 : ∀ y : Kept w5, y.at_.cell? ⟨w.heap.size + 1, 3, none⟩ = some (.int .i64 q.p) := fun y => (HQ5.out.later y.below).cell 3
          have r4 : ∀ y : Kept w5, y.at_.cell? ⟨w.heap.size + 1, 4, none⟩ = some (.int .i64 q.x) := fun y => (HQ5.out.later y.below).cell 4
          have r5 : ∀ y : Kept w5, y.at_.cell? ⟨w.heap.size + 1, 5, none⟩ = some (.slice fb gn gc) := fun y => (HQ5.out.later y.below).cell 5
          have r6 : ∀ y : Kept w5, y.at_.cell? ⟨w.heap.size + 1, 6, none⟩ = some (.slice ib jnn jc) := fun y => (HQ5.out.later y.below).cell 6
          have t0 : ∀ y : Kept w5, y.at_.cell? ⟨w.heap.size + 2, 0, none⟩ = some (.int .u32 (s0 : Nat)) := fun y => (HS5.out.later y.below).cell 0
          have t1 : ∀ y : Kept w5, y.at_.cell? ⟨w.heap.size + 2, 1, none⟩ = some (.int .u32 (s1 : Nat)) := fun y => (HS5.out.later y.below).cell 1
          clear hf1 hf2 hy1 hy2 HG5 HG2 HZe
          by_cases hmq : m = q
          · have HMq := Lib.hid hmq
            by_cases hss : s0 = s1
            · have he : encM m s0 = encM q s1 := by rw [hmq, hss]
              have e1 : ((strOf (encM m s0)).toList == (strOf (encM q s1)).toList) = true := by rw [he]; simp
              have e2 : ((s0 : Int) == (s1 : Int)) = true := by rw [hss]; simp
              clear he hss hmq
              have HCz : Hid (∀ y : Kept w5, Calls Try.prog 19 #[part m.e m.c m.i m.p m.x fa fn fc ia inn ic, part q.e q.c q.i q.p q.x fb gn gc ib jnn jc] y.at_ fun e w' => e = .returned (.bool true) ∧ Below y.at_.heap.size y.at_ w') := fun y => by
                refine (HSm.out y.at_ y.below).mono ?_
                rintro e w' ⟨⟨b, rfl, hb⟩, hbb⟩
                exact ⟨by rw [hb.2 HMq.out], hbb⟩
              clear HSm
              go_wp2_with fail
              refine wp_region_kept (by kernel_rfl) (by kernel_rfl) ?_
              repeat (first | go_big_quiet_step ((go_at_call 19; with_reducible exact kept_call _ (HCz.out _))) | simp only [e1, e2])
              refine wpQuiet_nil ?_
              rintro W ⟨wx, rfl⟩
              have HBz := Lib.hid (HB5.out.trans (wx.below.mono HB5.out.size))
              clear p0 p1 p2 p3 p4 p5 p6 r0 r1 r2 r3 r4 r5 r6 t0 t1 v1 v2
              go_wp2_with fail
              go_ret
              exact ⟨rfl, HBz.out⟩
            · have hne : encM m s0 ≠ encM q s1 := fun h => hss (HInj.out h).2
              have e1 := str_ne HLt1.out HLt2.out hne
              have e2 : ((s0 : Int) == (s1 : Int)) = false := by simp; omega
              clear hne hss hmq
              have HCz : Hid (∀ y : Kept w5, Calls Try.prog 19 #[part m.e m.c m.i m.p m.x fa fn fc ia inn ic, part q.e q.c q.i q.p q.x fb gn gc ib jnn jc] y.at_ fun e w' => e = .returned (.bool true) ∧ Below y.at_.heap.size y.at_ w') := fun y => by
                refine (HSm.out y.at_ y.below).mono ?_
                rintro e w' ⟨⟨b, rfl, hb⟩, hbb⟩
                exact ⟨by rw [hb.2 HMq.out], hbb⟩
              clear HSm
              go_wp2_with fail
              refine wp_region_kept (by kernel_rfl) (by kernel_rfl) ?_
              repeat (first | go_big_quiet_step ((go_at_call 19; with_reducible exact kept_call _ (HCz.out _))) | simp only [e1, e2])
              refine wpQuiet_nil ?_
              rintro W ⟨wx, rfl⟩
              have HBz := Lib.hid (HB5.out.trans (wx.below.mono HB5.out.size))
              clear p0 p1 p2 p3 p4 p5 p6 r0 r1 r2 r3 r4 r5 r6 t0 t1 v1 v2
              go_wp2_with fail
              go_ret
              exact ⟨rfl, HBz.out⟩
          · have HMq := Lib.hid hmq
            have hne : encM m s0 ≠ encM q s1 := fun h => hmq (HInj.out h).1
            have e1 := str_ne HLt1.out HLt2.out hne
            have e2 : True := trivial
            clear hne hmq
            have HCz : Hid (∀ y : Kept w5, Calls Try.prog 19 #[part m.e m.c m.i m.p m.x fa fn fc ia inn ic, part q.e q.c q.i q.p q.x fb gn gc ib jnn jc] y.at_ fun e w' => e = .returned (.bool false) ∧ Below y.at_.heap.size y.at_ w') := fun y => by
              refine (HSm.out y.at_ y.below).mono ?_
              rintro e w' ⟨⟨b, rfl, hb⟩, hbb⟩
              exact ⟨by cases b with | false => rfl | true => exact absurd (hb.1 rfl) HMq.out, hbb⟩
            clear HSm
            go_wp2_with fail
            refine wp_region_kept (by kernel_rfl) (by kernel_rfl) ?_
            repeat (first | go_big_quiet_step ((go_at_call 19; with_reducible exact kept_call _ (HCz.out _))) | simp only [e1, e2])
            refine wpQuiet_nil ?_
            rintro W ⟨wx, rfl⟩
            have HBz := Lib.hid (HB5.out.trans (wx.below.mono HB5.out.size))
            clear p0 p1 p2 p3 p4 p5 p6 r0 r1 r2 r3 r4 r5 r6 t0 t1 v1 v2
            go_wp2_with fail
            go_ret
            exact ⟨rfl, HBz.out⟩
end Go.Proofs.Ytkdjfhbdcfjnnaa
