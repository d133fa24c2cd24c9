/-
  The walk of SummaryWrites: what is written is what the document writes.
-/
import Derived.Test.YtkdjfhbdcfjnnaaSwWrM
import Derived.Test.YtkdjfhbdcfjnnaaSwRChk
import Derived.Test.YtkdjfhbdcfjnnaaSwSame
import Derived.Test.YtkdjfhbdcfjnnaaSwOwnM
import Derived.Test.YtkdjfhbdcfjnnaaQuiet
import Derived.Test.YtkdjfhbdcfjnnaaLaterKit
import Derived.BigQuiet
import Derived.Deep.DeepCutAuto
import Derived.Deep.RegionLaw
namespace Go.Proofs.Ytkdjfhbdcfjnnaa
open Go.RowKit

def PBY (l : List Nat) : ObjL := fun v W => ∃ xa xc, v = .slice xa 128 xc ∧ Bytes W xa l
theorem later_pby (l : List Nat) : LaterP (PBY l) := fun v W W' hb h => by
  obtain ⟨xa, xc, rfl, hy⟩ := h
  exact ⟨xa, xc, rfl, hy.below hb⟩
set_option maxRecDepth 100000 in
set_option maxHeartbeats 16000000 in
theorem summaryWrites_walk (m : Sm) (fa : Option Addr) (fn fc : Nat) (ia : Option Addr) (inn ic : Nat) (x : Int) (w : World) (hp : PartIn w m fa fn fc ia inn ic) (hx : (Lit.int .u32 x).wf = true) :
    Calls Try.prog 3 #[part m.e m.c m.i m.p m.x fa fn fc ia inn ic, .int .u32 x] w fun e w' => e = .returned (.bool true) ∧ Below w.heap.size w w' := by
  obtain ⟨s, rfl, hs⟩ : ∃ s : Nat, x = (s : Int) ∧ s < 4294967296 := by
    simp [Lit.wf, IntKind.min, IntKind.max, IntKind.signed, IntKind.bits] at hx
    exact ⟨x.toNat, by omega, by omega⟩
  clear hx
  have HP0 := Lib.hid (blo_laid w 25 (pcs m fa fn fc ia inn ic))
  have HB0 := Lib.hid (sup_pc w (.cells (pcs m fa fn fc ia inn ic) 25))
  have HIp := Lib.hid hp
  clear hp
  go_enter Try.func3, Try.ntmps3
  go_wp2_with fail
  refine (awake_any _).mono ?_
  rintro e w1 ⟨rfl, hb1⟩
  have HB1 := Lib.hid (HB0.out.trans (hb1.mono HB0.out.size))
  have HP1 := Lib.hid (HP0.out.later hb1)
  clear hb1 HB0 HP0
  have c0 := HP1.out.cell 0
  have c1 := HP1.out.cell 1
  have c2 := HP1.out.cell 2
  have c3 := HP1.out.cell 3
  have c4 := HP1.out.cell 4
  have c5 := HP1.out.cell 5
  have c6 := HP1.out.cell 6
  simp [pcs] at c0 c1 c2 c3 c4 c5 c6
  go_wp2_with fail
  refine (few_any m fa fn fc ia inn ic (HIp.out.fin.fis.later HB1.out) HIp.out.fin.leq HIp.out.ins.leq HIp.out.fin.lenm HIp.out.ins.lenm HIp.out.fin.lb).mono ?_
  rintro e w2 ⟨rfl, hb2⟩
  have HB2 := Lib.hid (HB1.out.trans (hb2.mono HB1.out.size))
  have HP2 := Lib.hid (HP1.out.later hb2)
  clear hb2 HB1 HP1 c0 c1 c2 c3 c4 c5 c6
  cases hf1 : few6 m with
  | false =>
    go_wp2_with fail
    refine (awake_any _).mono ?_
    rintro e wz ⟨rfl, hbz⟩
    have HBz := Lib.hid (HB2.out.trans (hbz.mono HB2.out.size))
    clear hbz
    go_wp2
    go_ret
    exact ⟨rfl, HBz.out⟩
  | true =>
    have KP := Lib.hid (HIp.out.k hf1)
    have hfy := few6_yes hf1
    have hnf : m.fs.length ≤ 40 := hfy.1
    have hni : m.is.length ≤ 150 := hfy.2.1
    have HLb : Hid (∀ x ∈ m.fs, ∀ n ∈ x.lb, -9223372036854775808 ≤ n ∧ n ≤ 9223372036854775807) := fun x hx n hn => Go.bounds_i64 ((HIp.out.fin.wf x hx).2.2 n hn)
    have HSz := Lib.hid (show szF m.fs ≤ 1000000000 by have := szF_eq m.fs; have := hfy.2.2; omega)
    clear hf1 HIp hfy
    have c0 := HP2.out.cell 0
    have c1 := HP2.out.cell 1
    have c2 := HP2.out.cell 2
    have c3 := HP2.out.cell 3
    have c4 := HP2.out.cell 4
    have c5 := HP2.out.cell 5
    have c6 := HP2.out.cell 6
    simp [pcs] at c0 c1 c2 c3 c4 c5 c6
    go_wp2_with fail
    refine (KP.out.later HB2.out).own.mono ?_
    rintro e w3 ⟨oa, oc, ja, jd, rfl, hF3, hI3, hb3⟩
    have HB3 := Lib.hid (HB2.out.trans (hb3.mono HB2.out.size))
    have HP3 := Lib.hid (HP2.out.later hb3)
    have HIn3 := Lib.hid (blo_laid w3 25 #[.int .i64 m.e, .int .i64 m.c, .int .i64 m.i, .int .i64 m.p, .int .i64 m.x, .slice oa fn oc, .slice ja inn jd])
    have HBa := Lib.hid (HB3.out.trans ((sup_pc w3 (.cells #[.int .i64 m.e, .int .i64 m.c, .int .i64 m.i, .int .i64 m.p, .int .i64 m.x, .slice oa fn oc, .slice ja inn jd] 25)).mono HB3.out.size))
    have HPa := Lib.hid (HP3.out.later (sup_pc w3 (.cells #[.int .i64 m.e, .int .i64 m.c, .int .i64 m.i, .int .i64 m.p, .int .i64 m.x, .slice oa fn oc, .slice ja inn jd] 25)))
    have hFa := hF3.later (sup_pc w3 (.cells #[.int .i64 m.e, .int .i64 m.c, .int .i64 m.i, .int .i64 m.p, .int .i64 m.x, .slice oa fn oc, .slice ja inn jd] 25))
    have hIa := hI3.below (sup_pc w3 (.cells #[.int .i64 m.e, .int .i64 m.c, .int .i64 m.i, .int .i64 m.p, .int .i64 m.x, .slice oa fn oc, .slice ja inn jd] 25))
    have HFa := Lib.hid hFa
    have HIa := Lib.hid hIa
    have HE1 := Lib.hid (encode_all (w := w3.alloc (.cells #[.int .i64 m.e, .int .i64 m.c, .int .i64 m.i, .int .i64 m.p, .int .i64 m.x, .slice oa fn oc, .slice ja inn jd] 25)) (m := m) s hs KP.out.few KP.out.lbm hFa hIa KP.out.fnq KP.out.inq (fc := oc) (ic := jd))
    clear hF3 hI3 hFa hIa hb3 HB2 HP2 c0 c1 c2 c3 c4 c5 c6
    go_wp2_with fail
    refine HE1.out.mono ?_
    rintro e w4 ⟨a1, n1, k1, rfl, hg1, hg0, hb4⟩
    have HB4 := Lib.hid (HBa.out.trans (hb4.mono HBa.out.size))
    have HP4 := Lib.hid (HPa.out.later hb4)
    have HI4 := Lib.hid (HIn3.out.later hb4)
    have HFi4 := Lib.hid (HFa.out.later hb4)
    have HIi4 := Lib.hid (HIa.out.below hb4)
    have KP4 := Lib.hid (KP.out.later HB4.out)
    have HG1 := Lib.hid hg1
    have HG0 := Lib.hid hg0
    have hPl : w.heap.size < w3.heap.size := HP3.out.lt
    clear hb4 hg1 hg0 HB3 HP3 HE1 HBa HPa HIn3 HFa HIa KP
    have c0 := HP4.out.cell 0
    have c1 := HP4.out.cell 1
    have c2 := HP4.out.cell 2
    have c3 := HP4.out.cell 3
    have c4 := HP4.out.cell 4
    have c5 := HP4.out.cell 5
    have c6 := HP4.out.cell 6
    simp [pcs] at c0 c1 c2 c3 c4 c5 c6
    have HC1 : Hid (Calls Try.prog 13 #[part m.e m.c m.i m.p m.x fa fn fc ia inn ic] w4 fun en w' => en = .returned (.int .i64 (chkM m)) ∧ Below w4.heap.size w4 w') :=
      rcheck_any m.e m.c m.i m.p m.x m.fs m.is fa fn fc ia inn ic KP4.out.fis KP4.out.fnq HSz.out KP4.out.ints KP4.out.inq (by have := KP4.out.inq; omega) HLb.out
    go_wp2_with fail
    refine HC1.out.mono ?_
    rintro e w5 ⟨rfl, hb5⟩
    have HB5 := Lib.hid (HB4.out.trans (hb5.mono HB4.out.size))
    have HP5 := Lib.hid (HP4.out.later hb5)
    have HI5 := Lib.hid (HI4.out.later hb5)
    have HFi5 := Lib.hid (HFi4.out.later hb5)
    have HIi5 := Lib.hid (HIi4.out.below hb5)
    have KP5 := Lib.hid (KP4.out.later hb5)
    have HG5 : Hid (chkM m = 0 → ∃ g, a1 = some ⟨g, 0, none⟩ ∧ n1 = 128 ∧ k1 = 128 ∧ Fil w5 g 128 (encM m s)) := fun h => by
      obtain ⟨g, e1, e2, e3, _, e4⟩ := HG1.out h
      exact ⟨g, e1, e2, e3, e4.later hb5⟩
    clear hb5 HC1 HB4 HP4 HI4 HFi4 HIi4 KP4 HG1 c0 c1 c2 c3 c4 c5 c6
    have hi9 : inn ≤ 1000000000 := by have := KP5.out.inq; omega
    have HK1 : Hid (∀ y : Kept w5, Calls Try.prog 14 #[part m.e m.c m.i m.p m.x oa fn oc ja inn jd] y.at_ fun e w' => e = .returned (.int .i64 (chkM m)) ∧ Below y.at_.heap.size y.at_ w') := fun y =>
      check_any m.e m.c m.i m.p m.x m.fs m.is oa fn oc ja inn jd (HFi5.out.later y.below) KP5.out.fnq HSz.out (HIi5.out.below y.below) KP5.out.inq hi9 KP5.out.lbm
    have HK2 : Hid (∀ y : Kept w5, Calls Try.prog 15 #[part m.e m.c m.i m.p m.x oa fn oc ja inn jd] y.at_ fun e w' => e = .returned (.int .i64 ((10 + inn + szF m.fs : Nat) : Int)) ∧ Below y.at_.heap.size y.at_ w') := fun y =>
      size_any m.e m.c m.i m.p m.x oa fn oc ja inn jd (HFi5.out.later y.below) KP5.out.fnq HSz.out hi9
    have HK3 : Hid (∀ y : Kept w5, Calls Try.prog 16 #[part m.e m.c m.i m.p m.x fa fn fc ia inn ic] y.at_ fun e w' => e = .returned (.int .i64 ((10 + inn + szF m.fs : Nat) : Int)) ∧ Below y.at_.heap.size y.at_ w') := fun y =>
      rsize_any m.e m.c m.i m.p m.x fa fn fc ia inn ic (KP5.out.fis.later y.below) KP5.out.fnq HSz.out hi9
    have HK4 : Hid (∀ y : Kept w5, Calls Try.prog 17 #[part m.e m.c m.i m.p m.x oa fn oc ja inn jd] y.at_ fun e w' => e = .returned (.int .i64 ((2 + inn + blF m.fs : Nat) : Int)) ∧ Below y.at_.heap.size y.at_ w') := fun y =>
      sblocks_any m.e m.c m.i m.p m.x oa fn oc ja inn jd (HFi5.out.later y.below) KP5.out.fnq HSz.out hi9
    have HK5 : Hid (∀ y : Kept w5, Calls Try.prog 18 #[part m.e m.c m.i m.p m.x fa fn fc ia inn ic] y.at_ fun e w' => e = .returned (.int .i64 ((2 + inn + blF m.fs : Nat) : Int)) ∧ Below y.at_.heap.size y.at_ w') := fun y =>
      rblocks_any m.e m.c m.i m.p m.x fa fn fc ia inn ic (KP5.out.fis.later y.below) KP5.out.fnq HSz.out hi9
    have HK6 : Hid (∀ y : Kept w5, Calls Try.prog 19 #[part m.e m.c m.i m.p m.x oa fn oc ja inn jd, part m.e m.c m.i m.p m.x fa fn fc ia inn ic] y.at_ fun e w' => e = .returned (.bool true) ∧ Below y.at_.heap.size y.at_ w') := fun y => by
      refine (same_any (w := y.at_) m m oa fn oc ja inn jd fa fn fc ia inn ic (HFi5.out.later y.below) (KP5.out.fis.later y.below) KP5.out.fnq KP5.out.fnq (by have := KP5.out.fnq; omega) (fun x hx => by have := lb_le x hx; have := few6_yes KP5.out.few; omega) (HIi5.out.below y.below) (KP5.out.ints.below y.below) KP5.out.inq KP5.out.inq (by have := KP5.out.inq; omega)).mono ?_
      rintro e w' ⟨⟨b, rfl, hb⟩, hbb⟩
      exact ⟨by rw [hb.2 rfl], hbb⟩
    have HZ : Hid (chkM m = chkM m) := rfl
    generalize ((10 + inn + szF m.fs : Nat) : Int) = zs at *
    generalize ((2 + inn + blF m.fs : Nat) : Int) = zb at *
    generalize hz : chkM m = z at *
    have HZz := Lib.hid hz
    clear hz HZ
    have eb1 : (z != z) = false := by simp
    have eb2 : (zs != zs) = false := by simp
    have eb3 : (zb != zb) = false := by simp
    have p0 : ∀ y : Kept w5, y.at_.cell? ⟨w.heap.size, 0, none⟩ = some (.int .i64 m.e) := fun y => (HP5.out.later y.below).cell 0
    have p1 : ∀ y : Kept w5, y.at_.cell? ⟨w.heap.size, 1, none⟩ = some (.int .i64 m.c) := fun y => (HP5.out.later y.below).cell 1
    have p2 : ∀ y : Kept w5, y.at_.cell? ⟨w.heap.size, 2, none⟩ = some (.int .i64 m.i) := fun y => (HP5.out.later y.below).cell 2
    have p3 : ∀ y : Kept w5, y.at_.cell? ⟨w.heap.size, 3, none⟩ = some (.int .i64 m.p) := fun y => (HP5.out.later y.below).cell 3
    have p4 : ∀ y : Kept w5, y.at_.cell? ⟨w.heap.size, 4, none⟩ = some (.int .i64 m.x) := fun y => (HP5.out.later y.below).cell 4
    have p5 : ∀ y : Kept w5, y.at_.cell? ⟨w.heap.size, 5, none⟩ = some (.slice fa fn fc) := fun y => (HP5.out.later y.below).cell 5
    have p6 : ∀ y : Kept w5, y.at_.cell? ⟨w.heap.size, 6, none⟩ = some (.slice ia inn ic) := fun y => (HP5.out.later y.below).cell 6
    have r0 : ∀ y : Kept w5, y.at_.cell? ⟨w3.heap.size, 0, none⟩ = some (.int .i64 m.e) := fun y => (HI5.out.later y.below).cell 0
    have r1 : ∀ y : Kept w5, y.at_.cell? ⟨w3.heap.size, 1, none⟩ = some (.int .i64 m.c) := fun y => (HI5.out.later y.below).cell 1
    have r2 : ∀ y : Kept w5, y.at_.cell? ⟨w3.heap.size, 2, none⟩ = some (.int .i64 m.i) := fun y => (HI5.out.later y.below).cell 2
    have r3 : ∀ y : Kept w5, y.at_.cell? ⟨w3.heap.size, 3, none⟩ = some (.int .i64 m.p) := fun y => (HI5.out.later y.below).cell 3
    have r4 : ∀ y : Kept w5, y.at_.cell? ⟨w3.heap.size, 4, none⟩ = some (.int .i64 m.x) := fun y => (HI5.out.later y.below).cell 4
    have r5 : ∀ y : Kept w5, y.at_.cell? ⟨w3.heap.size, 5, none⟩ = some (.slice oa fn oc) := fun y => (HI5.out.later y.below).cell 5
    have r6 : ∀ y : Kept w5, y.at_.cell? ⟨w3.heap.size, 6, none⟩ = some (.slice ja inn jd) := fun y => (HI5.out.later y.below).cell 6
    go_wp2_with fail
    refine wp_region_kept (by kernel_rfl) (by kernel_rfl) ?_
    repeat (first | go_big_quiet_step (first | (go_at_call 14; with_reducible exact kept_call _ (HK1.out _)) | (go_at_call 15; with_reducible exact kept_call _ (HK2.out _)) | (go_at_call 16; with_reducible exact kept_call _ (HK3.out _)) | (go_at_call 17; with_reducible exact kept_call _ (HK4.out _)) | (go_at_call 18; with_reducible exact kept_call _ (HK5.out _)) | (go_at_call 19; with_reducible exact kept_call _ (HK6.out _))) | simp only [eb1, eb2, eb3])
    refine wpQuiet_nil ?_
    rintro W ⟨wx, rfl⟩
    have HBx := Lib.hid (HB5.out.trans (wx.below.mono HB5.out.size))
    have HPx := Lib.hid (HP5.out.later wx.below)
    have KPx := Lib.hid (KP5.out.later wx.below)
    have HGx : Hid (z = 0 → ∃ g, a1 = some ⟨g, 0, none⟩ ∧ n1 = 128 ∧ k1 = 128 ∧ Fil wx.at_ g 128 (encM m s)) := fun h => by
      obtain ⟨g, e1, e2, e3, e4⟩ := HG5.out h
      exact ⟨g, e1, e2, e3, e4.later wx.below⟩
    clear p0 p1 p2 p3 p4 p5 p6 r0 r1 r2 r3 r4 r5 r6 HK1 HK2 HK3 HK4 HK5 HK6 HB5 HP5 KP5 HI5 HFi5 HIi5 HG5
    by_cases hk : z = 0
    case neg =>
      have x1 : (z != 0) = true := by simp [hk]
      obtain ⟨rfl, rfl, rfl⟩ := HG0.out hk
      go_wp2_with fail
      go_ret
      exact ⟨rfl, HBx.out⟩
    have x1 : (z != 0) = false := by simp [hk]
    obtain ⟨g, rfl, rfl, rfl, hf⟩ := HGx.out hk
    subst hk
    have HM0 : Hid (chkM m = 0) := HZz.out
    have HL := Lib.hid (encM_len m s (good_of HM0.out))
    have hy : Bytes wx.at_ (some ⟨g, 0, none⟩) (encM m s) := by
      have := hf.bytes (by decide)
      rwa [show zpad 128 (encM m s) = encM m s by unfold zpad; rw [HL.out]; simp] at this
    have HD := Lib.hid (decode_any (w := wx.at_) (some ⟨g, 0, none⟩) 128 128 (encM m s) HL.out.symm (Nat.le_refl _) hy)
    have HY := Lib.hid hy
    clear hf hy HGx HG0 HZz
    generalize wx.at_ = w6 at *
    go_wp2_with fail
    refine HD.out.mono ?_
    rintro e w7 ⟨hb7, -, hyes⟩
    obtain ⟨fq, kq, iq, cq, av, SB, hdy⟩ := hyes (ok_enc m s HM0.out hs)
    have hdk := dec_enc HM0.out hs hdy
    have hq := hdk.eq
    subst hq
    have HB7 := Lib.hid (HBx.out.trans (hb7.mono HBx.out.size))
    have HP7 := Lib.hid (HPx.out.later hb7)
    have KP7 := Lib.hid (KPx.out.later hb7)
    have HY7 := Lib.hid (HY.out.below hb7)
    have HF7 := Lib.hid (hdk.fo.fis rfl)
    have HI7 := Lib.hid (Ints.own hdk.ino)
    clear hb7 hyes hdy hdk HD HBx HPx KPx HY
    go_wp2_with fail
    have hl8 := sup_pc w7 (.cells #[.int .i64 m.e, .int .i64 m.c, .int .i64 m.i, .int .i64 m.p, .int .i64 m.x, .slice fq m.fs.length kq, .slice iq m.is.length cq] 25)
    have HQ8 := Lib.hid (blo_laid w7 25 #[.int .i64 m.e, .int .i64 m.c, .int .i64 m.i, .int .i64 m.p, .int .i64 m.x, .slice fq m.fs.length kq, .slice iq m.is.length cq])
    have HB8 := Lib.hid (HB7.out.trans (hl8.mono HB7.out.size))
    have HP8 := Lib.hid (HP7.out.later hl8)
    have KP8 := Lib.hid (KP7.out.later hl8)
    have HY8 := Lib.hid (HY7.out.below hl8)
    have HF8 := Lib.hid (HF7.out.later hl8)
    have HI8 := Lib.hid (HI7.out.below hl8)
    clear hl8 HB7 HP7 KP7 HY7 HF7 HI7
    generalize (w7.alloc (.cells #[.int .i64 m.e, .int .i64 m.c, .int .i64 m.i, .int .i64 m.p, .int .i64 m.x, .slice fq m.fs.length kq, .slice iq m.is.length cq] 25)) = w8 at *
    generalize w7.heap.size = gq at *
    have HCv : Hid (∀ (W : World) (a : Option Addr) (cp : Nat), Bytes W a (encM m s) → (convert 30 9 (.slice a 128 cp)).run Try.prog W = .ok (.string (strOf (encM m s))) W) := fun W a cp h => run_str W 30 9 5 Try.underlying30 Try.underlying5 Try.underlying9 _ _ 128 cp HL.out.symm h
    have HEn : Hid (∀ W, Below w8.heap.size w8 W → Calls Try.prog 21 #[part m.e m.c m.i m.p m.x fa fn fc ia inn ic, .int .u32 s] W (REnc W (encM m s))) := fun W hW => rencode_any s hs HM0.out (KP8.out.fis.later hW) (KP8.out.ints.below hW) KP8.out.fnq KP8.out.inq
    have HSa : Hid (∀ W, Below w8.heap.size w8 W → Calls Try.prog 19 #[part m.e m.c m.i m.p m.x fq m.fs.length kq iq m.is.length cq, part m.e m.c m.i m.p m.x fa fn fc ia inn ic] W fun e w' => e = .returned (.bool true) ∧ Below W.heap.size W w') := fun W hW => by
      refine (same_any (w := W) m m fq m.fs.length kq iq m.is.length cq fa fn fc ia inn ic (HF8.out.later hW) (KP8.out.fis.later hW) rfl KP8.out.fnq (by omega) (fun x hx => by have := lb_le x hx; have := few6_yes KP8.out.few; omega) (HI8.out.below hW) (KP8.out.ints.below hW) rfl KP8.out.inq (by omega)).mono ?_
      rintro e w' ⟨⟨b, rfl, hb⟩, hbb⟩
      exact ⟨by rw [hb.2 rfl], hbb⟩
    have e1 : ((strOf (encM m s)).toList == (strOf (encM m s)).toList) = true := by simp
    have e2 : ((s : Int) == (s : Int)) = true := by simp
    have hcvd := HCv.out w8.drew (some ⟨g, 0, none⟩) 128 (HY8.out.below (Below.refl _ w8).drew)
    have c0 := HP8.out.cell 0
    have c1 := HP8.out.cell 1
    have c2 := HP8.out.cell 2
    have c3 := HP8.out.cell 3
    have c4 := HP8.out.cell 4
    have c5 := HP8.out.cell 5
    have c6 := HP8.out.cell 6
    simp [pcs] at c0 c1 c2 c3 c4 c5 c6
    have sz8 := HP8.out.lt
    go_wp2_with fail
    obtain ⟨RL, hRL⟩ : ∃ RL : List (Nat × ObjL), RL = [(4, PBY (encM m s))] := ⟨_, rfl⟩
    obtain ⟨TL, hTL⟩ : ∃ TL : List (Nat × Value), TL = [(0, .slice (some ⟨g, 0, none⟩) 128 128), (1, .string (strOf (encM m s))), (2, .agg (pcs m fa fn fc ia inn ic)), (3, .int .u32 (s : Int)), (5, .string (strOf (encM m s))), (6, .bool true), (7, .bool true), (8, .int .i64 0), (9, .bool true), (10, .bool true), (11, .bool true), (12, .int .u32 (s : Int)), (13, .int .u32 (s : Int)), (14, .bool true), (15, .bool true), (16, .bool true), (17, .agg #[.int .i64 m.e, .int .i64 m.c, .int .i64 m.i, .int .i64 m.p, .int .i64 m.x, .slice fq m.fs.length kq, .slice iq m.is.length cq]), (18, .agg (pcs m fa fn fc ia inn ic)), (19, .bool true), (20, .bool true)] := ⟨_, rfl⟩
    have hKB : keysL RL := by intro x hx y hy e; simp only [hRL, List.mem_cons, List.not_mem_nil, or_false] at hx hy; rcases hx with rfl <;> rcases hy with rfl <;> first | rfl | (exfalso; simp at e; done) | fail
    have hLB : ∀ x ∈ RL, LaterP x.2 := by intro x hx; simp only [hRL, List.mem_cons, List.not_mem_nil, or_false] at hx; rcases hx with rfl; exact later_pby _
    refine wp_region_inv (n := 21) [(0, 70), (1, 71), (2, 72), (3, 73), (4, 74), (5, 75), (6, 76), (7, 77), (8, 78), (9, 79), (10, 80), (11, 81), (12, 82), (13, 83), (14, 84), (15, 85), (16, 86), (17, 87), (18, 88), (19, 89), (20, 90)] (GL RL TL w8) (by kernel_rfl) (by kernel_rfl) (by kernel_rfl) (fun X => by simp only [putL, Act.put, List.setIfInBounds_toArray, List.set_cons_zero, List.set_cons_succ]; rfl) (fun X => GL.start (Below.refl _ _).drew) ?_ ?_
    · show StepsI _ _ _ _ _ 0 [_, _, _, _, _, _, _, _, _, _, _, _, _, _, _, _, _, _, _, _, _]
      refine ⟨fun D X W hD hd hI K hK => ?_, ?_⟩
      · exact stepO_run (v := .slice (some ⟨g, 0, none⟩) 128 128) (w' := W) (by simp [Region.wanted]) (by simp [go_sem, execOp]) (hK _ _ (hI.tell hLB 0 _ (Below.refl _ _) (by simp [hRL]) (by simp [hTL])))
      refine ⟨fun D X W hD hd hI K hK => ?_, ?_⟩
      · have a0 := hI.dt (0, .slice (some ⟨g, 0, none⟩) 128 128) (by simp [hTL]) (hd ⟨0, .data⟩ (by simp) rfl)
        have hcv := HCv.out W (some ⟨g, 0, none⟩) 128 (HY8.out.below hI.b)
        exact stepO_run (v := .string (strOf (encM m s))) (w' := W) (by simp [Region.wanted]) (by simp [go_sem, execOp, a0, hcv]) (hK _ _ (hI.tell hLB 1 _ (Below.refl _ _) (by simp [hRL]) (by simp [hTL])))
      refine ⟨fun D X W hD hd hI K hK => ?_, ?_⟩
      · exact stepO_load_row (by simp [Region.wanted]) 25 (.tmp 2) rfl w.heap.size rfl 25 (pcs m fa fn fc ia inn ic) (0, 0) _ (HP8.out.later hI.b) Try.underlying25 rfl (by kernel_rfl) (hK _ _ (hI.tell hLB 2 _ (Below.refl _ _) (by simp [hRL]) (by simp [hTL])))
      refine ⟨fun D X W hD hd hI K hK => ?_, ?_⟩
      · exact stepO_run (v := .int .u32 (s : Int)) (w' := W) (by simp [Region.wanted]) (by simp [go_sem, execOp]) (hK _ _ (hI.tell hLB 3 _ (Below.refl _ _) (by simp [hRL]) (by simp [hTL])))
      refine ⟨fun D X W hD hd hI K hK => ?_, ?_⟩
      · have a2 := hI.dt (2, .agg (pcs m fa fn fc ia inn ic)) (by simp [hTL]) (hd ⟨2, .data⟩ (by simp) rfl)
        have a3 := hI.dt (3, .int .u32 (s : Int)) (by simp [hTL]) (hd ⟨3, .data⟩ (by simp) rfl)
        refine stepO_call (f := 21) (args := #[.agg (pcs m fa fn fc ia inn ic), .int .u32 (s : Int)]) (by simp [Region.wanted]) (by simp [go_sem, execOp, a2, a3]) (HEn.out W hI.b) (fun e W' hr => ?_)
        obtain ⟨xa, xc, he, hy, hb⟩ := hr
        exact ⟨_, he, hK _ _ (hI.fresh hKB hLB 4 _ (PBY (encM m s)) (by simp [hRL]) hb ⟨xa, xc, rfl, hy⟩ (by simp [hTL]))⟩
      refine ⟨fun D X W hD hd hI K hK => ?_, ?_⟩
      · have r4 := hI.rows (4, PBY (encM m s)) (by simp [hRL]) (hd ⟨4, .data⟩ (by simp) rfl)
        obtain ⟨xa, xc, hx, hy⟩ := r4
        have hx2 : X 4 = _ := hx
        have hcv := HCv.out W xa xc hy
        exact stepO_run (v := .string (strOf (encM m s))) (w' := W) (by simp [Region.wanted]) (by simp [go_sem, execOp, hx2, hcv]) (hK _ _ (hI.tell hLB 5 _ (Below.refl _ _) (by simp [hRL]) (by simp [hTL])))
      refine ⟨fun D X W hD hd hI K hK => ?_, ?_⟩
      · have a1 := hI.dt (1, .string (strOf (encM m s))) (by simp [hTL]) (hd ⟨1, .data⟩ (by simp) rfl)
        have a5 := hI.dt (5, .string (strOf (encM m s))) (by simp [hTL]) (hd ⟨5, .data⟩ (by simp) rfl)
        exact stepO_run (v := .bool true) (w' := W) (by simp [Region.wanted]) (by simp [go_sem, execOp, a1, a5, e1]) (hK _ _ (hI.tell hLB 6 _ (Below.refl _ _) (by simp [hRL]) (by simp [hTL])))
      refine ⟨fun D X W hD hd hI K hK => ?_, ?_⟩
      · have a6 := hI.dt (6, .bool true) (by simp [hTL]) (hd ⟨6, .data⟩ (by simp) rfl)
        exact stepO_run (v := .bool true) (w' := W) (by simp [Region.wanted]) (by simp [go_sem, execOp, a6]) (hK _ _ (hI.tell hLB 7 _ (Below.refl _ _) (by simp [hRL]) (by simp [hTL])))
      refine ⟨fun D X W hD hd hI K hK => ?_, ?_⟩
      · have a7 := hI.dt (7, .bool true) (by simp [hTL]) (hd ⟨7, .guard⟩ (by simp) rfl)
        exact stepO_run (v := .int .i64 0) (w' := W) (by simp [Region.wanted, yielded, a7]) (by simp [go_sem, execOp, a7]) (hK _ _ (hI.tell hLB 8 _ (Below.refl _ _) (by simp [hRL]) (by simp [hTL])))
      refine ⟨fun D X W hD hd hI K hK => ?_, ?_⟩
      · have a7 := hI.dt (7, .bool true) (by simp [hTL]) (hd ⟨7, .guard⟩ (by simp) rfl)
        have a8 := hI.dt (8, .int .i64 0) (by simp [hTL]) (hd ⟨8, .data⟩ (by simp) rfl)
        exact stepO_run (v := .bool true) (w' := W) (by simp [Region.wanted, yielded, a7]) (by simp [go_sem, execOp, a7, a8]) (hK _ _ (hI.tell hLB 9 _ (Below.refl _ _) (by simp [hRL]) (by simp [hTL])))
      refine ⟨fun D X W hD hd hI K hK => ?_, ?_⟩
      · have a7 := hI.dt (7, .bool true) (by simp [hTL]) (hd ⟨7, .data⟩ (by simp) rfl)
        have a9 := hI.dt (9, .bool true) (by simp [hTL]) (hd ⟨9, .data⟩ (by simp) rfl)
        exact stepO_run (v := .bool true) (w' := W) (by simp [Region.wanted]) (by simp [go_sem, execOp, a7, a9]) (hK _ _ (hI.tell hLB 10 _ (Below.refl _ _) (by simp [hRL]) (by simp [hTL])))
      refine ⟨fun D X W hD hd hI K hK => ?_, ?_⟩
      · have a10 := hI.dt (10, .bool true) (by simp [hTL]) (hd ⟨10, .data⟩ (by simp) rfl)
        exact stepO_run (v := .bool true) (w' := W) (by simp [Region.wanted]) (by simp [go_sem, execOp, a10]) (hK _ _ (hI.tell hLB 11 _ (Below.refl _ _) (by simp [hRL]) (by simp [hTL])))
      refine ⟨fun D X W hD hd hI K hK => ?_, ?_⟩
      · have a11 := hI.dt (11, .bool true) (by simp [hTL]) (hd ⟨11, .guard⟩ (by simp) rfl)
        exact stepO_run (v := .int .u32 (s : Int)) (w' := W) (by simp [Region.wanted, yielded, a11]) (by simp [go_sem, execOp, a11]) (hK _ _ (hI.tell hLB 12 _ (Below.refl _ _) (by simp [hRL]) (by simp [hTL])))
      refine ⟨fun D X W hD hd hI K hK => ?_, ?_⟩
      · have a11 := hI.dt (11, .bool true) (by simp [hTL]) (hd ⟨11, .guard⟩ (by simp) rfl)
        exact stepO_run (v := .int .u32 (s : Int)) (w' := W) (by simp [Region.wanted, yielded, a11]) (by simp [go_sem, execOp, a11]) (hK _ _ (hI.tell hLB 13 _ (Below.refl _ _) (by simp [hRL]) (by simp [hTL])))
      refine ⟨fun D X W hD hd hI K hK => ?_, ?_⟩
      · have a11 := hI.dt (11, .bool true) (by simp [hTL]) (hd ⟨11, .guard⟩ (by simp) rfl)
        have a12 := hI.dt (12, .int .u32 (s : Int)) (by simp [hTL]) (hd ⟨12, .data⟩ (by simp) rfl)
        have a13 := hI.dt (13, .int .u32 (s : Int)) (by simp [hTL]) (hd ⟨13, .data⟩ (by simp) rfl)
        exact stepO_run (v := .bool true) (w' := W) (by simp [Region.wanted, yielded, a11]) (by simp [go_sem, execOp, a11, a12, a13, e2]) (hK _ _ (hI.tell hLB 14 _ (Below.refl _ _) (by simp [hRL]) (by simp [hTL])))
      refine ⟨fun D X W hD hd hI K hK => ?_, ?_⟩
      · have a11 := hI.dt (11, .bool true) (by simp [hTL]) (hd ⟨11, .data⟩ (by simp) rfl)
        have a14 := hI.dt (14, .bool true) (by simp [hTL]) (hd ⟨14, .data⟩ (by simp) rfl)
        exact stepO_run (v := .bool true) (w' := W) (by simp [Region.wanted]) (by simp [go_sem, execOp, a11, a14]) (hK _ _ (hI.tell hLB 15 _ (Below.refl _ _) (by simp [hRL]) (by simp [hTL])))
      refine ⟨fun D X W hD hd hI K hK => ?_, ?_⟩
      · have a15 := hI.dt (15, .bool true) (by simp [hTL]) (hd ⟨15, .data⟩ (by simp) rfl)
        exact stepO_run (v := .bool true) (w' := W) (by simp [Region.wanted]) (by simp [go_sem, execOp, a15]) (hK _ _ (hI.tell hLB 16 _ (Below.refl _ _) (by simp [hRL]) (by simp [hTL])))
      refine ⟨fun D X W hD hd hI K hK => ?_, ?_⟩
      · have a16 := hI.dt (16, .bool true) (by simp [hTL]) (hd ⟨16, .guard⟩ (by simp) rfl)
        exact stepO_load_row (by simp [Region.wanted, yielded, a16]) 25 (.tmp 9) rfl gq rfl 25 #[.int .i64 m.e, .int .i64 m.c, .int .i64 m.i, .int .i64 m.p, .int .i64 m.x, .slice fq m.fs.length kq, .slice iq m.is.length cq] (0, 0) _ (HQ8.out.later hI.b) Try.underlying25 rfl (by kernel_rfl) (hK _ _ (hI.tell hLB 17 _ (Below.refl _ _) (by simp [hRL]) (by simp [hTL])))
      refine ⟨fun D X W hD hd hI K hK => ?_, ?_⟩
      · have a16 := hI.dt (16, .bool true) (by simp [hTL]) (hd ⟨16, .guard⟩ (by simp) rfl)
        exact stepO_load_row (by simp [Region.wanted, yielded, a16]) 25 (.tmp 2) rfl w.heap.size rfl 25 (pcs m fa fn fc ia inn ic) (0, 0) _ (HP8.out.later hI.b) Try.underlying25 rfl (by kernel_rfl) (hK _ _ (hI.tell hLB 18 _ (Below.refl _ _) (by simp [hRL]) (by simp [hTL])))
      refine ⟨fun D X W hD hd hI K hK => ?_, ?_⟩
      · have a16 := hI.dt (16, .bool true) (by simp [hTL]) (hd ⟨16, .chain⟩ (by simp) rfl)
        have a17 := hI.dt (17, .agg #[.int .i64 m.e, .int .i64 m.c, .int .i64 m.i, .int .i64 m.p, .int .i64 m.x, .slice fq m.fs.length kq, .slice iq m.is.length cq]) (by simp [hTL]) (hd ⟨17, .data⟩ (by simp) rfl)
        have a18 := hI.dt (18, .agg (pcs m fa fn fc ia inn ic)) (by simp [hTL]) (hd ⟨18, .data⟩ (by simp) rfl)
        refine stepO_call (f := 19) (args := #[.agg #[.int .i64 m.e, .int .i64 m.c, .int .i64 m.i, .int .i64 m.p, .int .i64 m.x, .slice fq m.fs.length kq, .slice iq m.is.length cq], .agg (pcs m fa fn fc ia inn ic)]) (by simp [Region.wanted, yielded, a16]) (by simp [go_sem, execOp, a16, a17, a18]) (HSa.out W hI.b) (fun e W' hr => ⟨_, hr.1, hK _ _ ?_⟩)
        exact hI.tell hLB 19 _ hr.2 (by simp [hRL]) (by simp [hTL])
      refine ⟨fun D X W hD hd hI K hK => ?_, ?_⟩
      · have a16 := hI.dt (16, .bool true) (by simp [hTL]) (hd ⟨16, .data⟩ (by simp) rfl)
        have a19 := hI.dt (19, .bool true) (by simp [hTL]) (hd ⟨19, .data⟩ (by simp) rfl)
        exact stepO_run (v := .bool true) (w' := W) (by simp [Region.wanted]) (by simp [go_sem, execOp, a16, a19]) (hK _ _ (hI.tell hLB 20 _ (Below.refl _ _) (by simp [hRL]) (by simp [hTL])))
      exact True.intro
    · intro D X W hD hI
      have a20 := hI.dt (20, .bool true) (by simp [hTL]) (hD 20 (by decide))
      have a20b : X 20 = .bool true := a20
      have HBx := Lib.hid (HB8.out.trans (hI.b.mono HB8.out.size))
      clear hI hD a20 hKB hLB hRL hTL HCv HEn HSa c0 c1 c2 c3 c4 c5 c6 hcvd HP8 HQ8 HY8 HF8 HI8 KP8
      rw [a20b]
      simp only [List.drop_succ_cons, List.drop_zero]
      go_wp2_with fail
      go_ret
      exact ⟨rfl, HBx.out⟩
end Go.Proofs.Ytkdjfhbdcfjnnaa
