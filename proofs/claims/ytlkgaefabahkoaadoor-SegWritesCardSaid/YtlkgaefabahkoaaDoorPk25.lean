/-
  SgWsM · SgWs: these texts in one.
-/
import Derived.Test.YtlkgaefabahkoaaDoorPk24
import Derived.Test.YtlkgaefabahkoaaDoorPk21
import Derived.Test.YtlkgaefabahkoaaDoorPk19
import Derived.BigQuiet
/-
  SegWrites: what both Reads answer, told at once.
-/
namespace Go.Proofs.YtlkgaefabahkoaaDoor
open Go.RowKit

def m00 : Sm := ⟨0, 0, 0, 0, 0, [], []⟩
def uA (d : Dm) (addr : Int) : Int := if readC d addr = 0 then addr else 0
def uM (d : Dm) (addr : Int) : Sm := if readC d addr = 0 then rdM d addr.toNat else m00
def uN (d : Dm) (addr : Int) : Nat := if readC d addr = 0 then rdN (rdM d addr.toNat) else 0
def uF (d : Dm) (addr : Int) : Nat → List Nat := rdF d addr.toNat
theorem readC_ok {d : Dm} {addr : Int} (h : readC d addr = 0) : okB (rdL d addr.toNat) = true := by
  unfold readC at h
  split at h
  · cases h
  · split at h
    · cases h
    · rename_i h1 h2
      cases e : okB (rdL d addr.toNat) with
      | true => rfl
      | false => exact absurd e h2
theorem uM_small (d : Dm) (addr : Int) : (uM d addr).fs.length ≤ 1000 ∧ (∀ x ∈ (uM d addr).fs, x.lb.length ≤ 1000) ∧ (uM d addr).is.length ≤ 1000 ∧ uN d addr ≤ 1000 := by
  unfold uM uN
  split
  · rename_i h
    have hc := okB_chk (readC_ok h)
    have hg := (good_of hc).size
    have hs : ∀ l : List Fi, szF l = 4 * l.length + 2 * blF l := fun l => by
      induction l with
      | nil => rfl
      | cons a l ih => simp only [szF, blF, List.map_cons, List.sum_cons, List.length_cons] at ih ⊢; omega
    have hl := lb_blF (rdM d addr.toNat).fs
    have e := hs (rdM d addr.toNat).fs
    have hg2 : 10 + szF (rdM d addr.toNat).fs + (rdM d addr.toNat).is.length ≤ 88 := by unfold rdM; omega
    refine ⟨by omega, fun x hx => by have := hl x hx; omega, by omega, by unfold rdN; omega⟩
  · refine ⟨by decide, ?_, by decide, by decide⟩
    intro x hx
    simp [m00] at hx
theorem ReadS.u {d : Dm} {addr : Int} {w w' : World} {e : Ending} (h : ReadS d addr w e w') : ∃ fa fc ia ic ba bc G, e = .returned (.tuple #[.agg (fdc (uA d addr) (uM d addr) fa fc ia ic ba (uN d addr) bc), .int .i64 (readC d addr)]) ∧ Fis w' fa (uM d addr).fs ∧ Ints w' ia (uM d addr).is ∧ RowB w' w.heap.size (.slice ba (uN d addr) bc) (uN d addr) G (uF d addr) ∧ Below w.heap.size w w' := by
  obtain ⟨h1, h2, h3⟩ := h
  unfold uA uM uN uF
  by_cases hr : readC d addr = 0
  · obtain ⟨fa, fc, ia, ic, ba, bc, G, he, hp, hb⟩ := h3 hr
    rw [if_pos hr, if_pos hr, if_pos hr]
    exact ⟨fa, fc, ia, ic, ba, bc, G, by rw [hr]; exact he, hp.fis, hp.ints, hb, h1⟩
  · rw [if_neg hr, if_neg hr, if_neg hr]
    exact ⟨none, 0, none, 0, none, 0, fun _ => 0, h2 hr, Fis.nil _ _, Ints.nil _ _, ⟨⟨by simp [cellsG], .inl ⟨rfl, rfl⟩⟩, fun i hi => by omega, fun i hi => by omega, fun i j hi => by omega⟩, h1⟩
theorem ReadM.u {d : Dm} {addr : Int} {w w' : World} {e : Ending} (h : ReadM d addr w e w') : ∃ fa fc ia ic ta tc, e = .returned (.tuple #[.agg (fdr (uA d addr) (uM d addr) fa fc ia ic (.slice ta (uN d addr) tc)), .int .i64 (readC d addr)]) ∧ Fis w' fa (uM d addr).fs ∧ Ints w' ia (uM d addr).is ∧ Rds w' ta (cellsS (uF d addr) (uN d addr)) ∧ Below w.heap.size w w' := by
  obtain ⟨h1, h2, h3⟩ := h
  unfold uA uM uN uF
  by_cases hr : readC d addr = 0
  · obtain ⟨fa, fc, ia, ic, ta, tc, he, hp, hb⟩ := h3 hr
    rw [if_pos hr, if_pos hr, if_pos hr]
    exact ⟨fa, fc, ia, ic, ta, tc, by rw [hr]; exact he, hp.fis, hp.ints, hb, h1⟩
  · rw [if_neg hr, if_neg hr, if_neg hr]
    exact ⟨none, 0, none, 0, none, 0, h2 hr, Fis.nil _ _, Ints.nil _ _, fun j u hj => by simp [cellsS] at hj, h1⟩
/-- Behind what was written: the disk, and the document's in a box. -/
structure WsK (w : World) (g8 : Nat) (sa qa : Option Addr) (sc qc : Nat) (L : Dl) (d : Dm) (W : World) : Prop where
  c : ClW w g8 sa qa sc qc d W
  dk : Dk w.heap.size W L d
theorem WsK.later {w W w' : World} {g8 : Nat} {sa qa : Option Addr} {sc qc : Nat} {L : Dl} {d : Dm} (h : WsK w g8 sa qa sc qc L d W) (hb : Below W.heap.size W w') : WsK w g8 sa qa sc qc L d w' := ⟨h.c.later hb, h.dk.later hb⟩
end Go.Proofs.YtlkgaefabahkoaaDoor
/-
  The walk of SegWrites.
-/
namespace Go.Proofs.YtlkgaefabahkoaaDoor
open Go.RowKit

def PTl (F : Nat → List Nat) (n : Nat) : ObjL := fun v W => ∃ ta tc, v = .slice ta n tc ∧ Rds W ta (cellsS F n)
theorem later_ptl (F : Nat → List Nat) (n : Nat) : LaterP (PTl F n) := fun v W W' hb h => by
  obtain ⟨ta, tc, rfl, h⟩ := h
  exact ⟨ta, tc, rfl, h.later hb⟩
def PBr (base : Nat) : ObjL := fun v W => ∃ g, v = .pointer (some ⟨g, 0, none⟩) ∧ base ≤ g ∧ Blo W g RDT zdk
theorem later_pbr (base : Nat) : LaterP (PBr base) := fun v W W' hb h => by
  obtain ⟨g, rfl, hg, h⟩ := h
  exact ⟨g, rfl, hg, h.later hb⟩
/-- Behind the store of the document's disk. -/
structure WsR (w5 : World) (c : Int) (D : Nat → Bool) (X : Nat → Value) (W : World) : Prop where
  d13 : D 13 = true
  all : ∀ j, j ≠ 11 → j < 13 → D j = true
  x9 : ∃ v, X 9 = .tuple #[v, .int .i64 c]
  x11 : D 11 = true → X 11 = .int .i64 c
  x14 : D 14 = true → X 14 = .int .i64 c
  below : Below w5.heap.size w5 W
theorem WsR.put {w5 W : World} {c : Int} {D : Nat → Bool} {X : Nat → Value} (h : WsR w5 c D X W) (i : Nat) (h9 : i ≠ 9) (_ : i ≠ 13) (_ : i ≠ 12) : WsR w5 c (updD D i) (updV X i (.int .i64 c)) W := by
  obtain ⟨a, b, ⟨t, k⟩, k11, k14, m⟩ := h
  have aux : ∀ j, (D j = true → X j = .int .i64 c) → updD D i j = true → updV X i (.int .i64 c) j = .int .i64 c := fun j hk hd => by
    by_cases e : j = i
    · subst e; rw [updV_at]
    · rw [updV_ne X i _ e]; rw [updD_ne D i e] at hd; exact hk hd
  exact ⟨updD_upO a, fun j h1 h2 => updD_upO (b j h1 h2), ⟨t, by rw [updV_ne X i _ (fun e => h9 e.symm)]; exact k⟩, aux 11 k11, aux 14 k14, m⟩
def WsI (RL : List (Nat × ObjL)) (TL : List (Nat × Value)) (w5 : World) (c : Int) (D : Nat → Bool) (X : Nat → Value) (W : World) : Prop :=
  (D 13 = false ∧ D 14 = false ∧ GL RL TL w5 D X W) ∨ WsR w5 c D X W
theorem ws_stored {w5 W : World} {c : Int} {D : Nat → Bool} {X : Nat → Value} (hA6 : D 14 = false) (hall : ∀ j, j ≠ 11 → j < 13 → D j = true) (p9 : ∃ v, X 9 = .tuple #[v, .int .i64 c]) (k11 : D 11 = true → X 11 = .int .i64 c) (hb : Below w5.heap.size w5 W) : WsR w5 c (updD D 13) (updV X 13 undef) W := by
  obtain ⟨t, h9⟩ := p9
  refine ⟨updD_at D 13, fun j h1 h2 => updD_upO (hall j h1 h2), ⟨t, by rw [updV_ne X 13 _ (by decide)]; exact h9⟩, fun h => ?_, fun h => ?_, hb⟩
  · rw [updD_ne D 13 (by decide)] at h; rw [updV_ne X 13 _ (by decide)]; exact k11 h
  · rw [updD_ne D 13 (by decide), hA6] at h; cases h
section
variable {w : World}
set_option maxRecDepth 100000 in
set_option maxHeartbeats 8000000 in
theorem segWrites_walk (a : Option Addr) (n cap : Nat) (K : Nat → Pz) (b : Option Addr) (m mc : Nat) (A : Nat → Option Addr) (C : Nat → Nat) (ls : List (List Nat)) (addr : Int) (w : World) (hL : Tab w ∧ 0 < w.heap.size) (hP : n ≤ 9223372036854775807 ∧ Pzs w a n K) (hB : Lists w b m A C ls) (haw : (Lit.int .i64 addr).wf = true) :
    Calls Tryd.prog 3 #[.slice a n cap, .slice b m mc, .int .i64 addr] w fun e w' => e = .returned (.bool true) ∧ Below w.heap.size w w' := by
  have HT := Lib.hid (show ∀ W, Below w.heap.size w W → Tab W ∧ 0 < W.heap.size from fun W hb => ⟨hL.1.below hb hL.2, by have := hb.size; have := hL.2; omega⟩)
  have HP := Lib.hid hP.2
  have HB := Lib.hid hB
  have HAw := Lib.hid (fun (W : World) (hb : Below w.heap.size w W) => awake_any W (HT.out W hb).1 (HT.out W hb).2)
  have HWn : Hid (∀ W, Below w.heap.size w W → Calls Tryd.prog 10 #[.int .i64 60, .slice a n cap] W (WrtO 60 K n W)) := fun W hb => written_any 60 (by decide) (by decide) a n cap K W hP.1 (HT.out W hb) ⟨fun i hi => by
    obtain ⟨b, o, e, hc⟩ := HP.out.at_ i hi
    exact ⟨b, o, e, fun j u hj => cell_later hb (hc j u hj)⟩, fun i hi => (HP.out.each i hi).later hb⟩
  have HRm : Hid (Rm (wtD 60 K (min n 12)) 1600) := (wtD_rm 60 K (min n 12) (by omega)).mono (by omega)
  have HRd : Hid (Rd (wtD 60 K (min n 12)) 1600) := (wtD_rd 60 (by decide) (by decide) K (fun i hi => (HP.out.each i hi).data.1) (min n 12) (by omega) (by omega)).mono (by omega)
  have HNn : Hid ((wtD 60 K (min n 12)).n = 60) := wtD_n 60 K (min n 12)
  have HQl : Hid ((wtD 60 K (min n 12)).Q.length ≤ 100000) := by show _ ≤ _; rw [(sur_wt 60 K (min n 12)).1.q]; decide
  have HAd := Lib.hid (Go.bounds_i64 haw)
  have HML : Hid (m = ls.length ∧ m ≤ 9223372036854775807) := ⟨hB.len, hB.le⟩
  have HNz := Lib.hid hP.1
  clear hL hP hB haw
  unfold WrtO at HWn
  generalize wtD 60 K (min n 12) = d1 at *
  by_cases hm60 : m > 60
  · have hm6 : ((m : Nat) : Int) > 60 := by omega
    clear hm60
    go_enter Tryd.func3, Tryd.ntmps3
    go_wp2_with fail
    refine (HAw.out _ (Below.refl _ _)).mono ?_
    rintro e w1 ⟨rfl, hb1⟩
    have HB1 := Lib.hid hb1
    clear hb1
    go_wp2_with fail
    refine (HAw.out _ HB1.out).mono ?_
    rintro e w2 ⟨rfl, hb2⟩
    have HB2 := Lib.hid (HB1.out.trans (hb2.mono HB1.out.size))
    clear hb2 HB1 HAw HWn HT HP HB
    go_wp2
    go_ret
    exact ⟨rfl, HB2.out⟩
  have hm6 : ¬ ((m : Nat) : Int) > 60 := by omega
  have HM60 : Hid (m ≤ 60) := by show _ ≤ _; omega
  clear hm60
  go_enter Tryd.func3, Tryd.ntmps3
  go_wp2_with fail
  refine (HAw.out _ (Below.refl _ _)).mono ?_
  rintro e w1 ⟨rfl, hb1⟩
  have HB1 := Lib.hid hb1
  clear hb1 HAw
  go_wp2_with fail
  refine (HWn.out _ HB1.out).mono ?_
  rintro e w2 ⟨L, sa, qa, sc, qc, rfl, hD, hM, hb2⟩
  have hal := sup_pc w2 (.cells (agR sa qa sc qc d1) RDT)
  have HS3 := Lib.hid (show WsK w w2.heap.size sa qa sc qc L d1 (w2.alloc (.cells (agR sa qa sc qc d1) RDT)) from ⟨⟨blo_laid w2 RDT _, hM.later hal, (HB1.out.trans (hb2.mono HB1.out.size)).trans (hal.mono (Nat.le_trans HB1.out.size hb2.size))⟩, (hD.deeper HB1.out.size).later hal⟩)
  clear hD hM hb2 hal HWn hm6
  unfold agR
  unfold agR at HS3
  go_upto_region 4 with (fail)
  generalize w2.alloc (.cells #[.slice sa d1.n sc, .slice qa d1.Q.length qc, .int .i64 d1.steps, .int .i64 (lfD d1)] RDT) = w3 at *
  generalize w2.heap.size = g8 at *
  have HTl := Lib.hid (tells_any sa qa sc qc HS3.out.dk HS3.out.c.mr)
  have y0 := HS3.out.c.box.cell 0
  have y1 := HS3.out.c.box.cell 1
  have y2 := HS3.out.c.box.cell 2
  have y3 := HS3.out.c.box.cell 3
  simp [agR] at y0 y1 y2 y3
  go_wp2_with fail
  refine HTl.out.mono ?_
  rintro e w4 ⟨rfl, hb4⟩
  have HS4 := Lib.hid (HS3.out.later hb4)
  clear hb4 HTl HS3 HB1 y0 y1 y2 y3
  go_wp2_with fail
  go_loopw [10] (fun t wr => ∃ q : Nat, q ≤ 62 ∧ t = .int .i64 (((q : Nat) : Int) - 1) ∧ WsK w g8 sa qa sc qc L d1 wr) (fun t _ => 62 - (intOf t + 1).toNat)
  case atStart => exact ⟨0, by omega, rfl, HS4.out⟩
  case round =>
    clear HS4
    obtain ⟨q, hq, rfl, hS⟩ := hrel
    have HS := Lib.hid hS
    clear hS
    by_cases hlt : q < 62
    · obtain ⟨ii, hii⟩ : ∃ ii : Int, ((q : Nat) : Int) - 1 = ii := ⟨_, rfl⟩
      have hii2 : ii ≤ 60 := by omega
      have HI := Lib.hid hii
      rw [hii]
      clear hii
      have hT := HT.out _ HS.out.c.below
      have HR1 := Lib.hid (segRead_any (w := wr) ii HS.out.dk hT.1 hT.2)
      clear hT
      go_wp2_with fail
      refine HR1.out.mono ?_
      intro e wa hr
      obtain ⟨fa, fc, ia, ic, ba, bc, G, rfl, hf1, hi1, hb1, hba⟩ := hr.u
      have hal := sup_pc wa (.cells (fdc (uA d1 ii) (uM d1 ii) fa fc ia ic ba (uN d1 ii) bc) 38)
      have HSa := Lib.hid ((HS.out.later hba).later hal)
      have HF1 := Lib.hid (hf1.later hal)
      have HI1 := Lib.hid (hi1.below hal)
      have HB1 := Lib.hid (hb1.later hal)
      have HX1 := Lib.hid (blo_laid wa 38 (fdc (uA d1 ii) (uM d1 ii) fa fc ia ic ba (uN d1 ii) bc))
      clear hr hf1 hi1 hb1 hba hal HR1 HS
      go_upto_region 10 with (fail)
      generalize wa.alloc (.cells (fdc (uA d1 ii) (uM d1 ii) fa fc ia ic ba (uN d1 ii) bc) 38) = wb at *
      generalize wa.heap.size = g11 at *
      have HMr := Lib.hid (mread_any (w := wb) (d := d1) ii HQl.out (by rw [HNn.out]; decide) (fun i => ⟨HSa.out.dk.now.len i, HSa.out.dk.now.byte i⟩) HSa.out.c.mr)
      have y0 := HSa.out.c.box.cell 0
      have y1 := HSa.out.c.box.cell 1
      have y2 := HSa.out.c.box.cell 2
      have y3 := HSa.out.c.box.cell 3
      simp [agR] at y0 y1 y2 y3
      go_wp2_with fail
      refine HMr.out.mono ?_
      intro e wc hr
      obtain ⟨fb, fd, ib, id_, ta, tc, rfl, hf2, hi2, hs2, hbc⟩ := hr.u
      have hal := sup_pc wc (.cells (fdr (uA d1 ii) (uM d1 ii) fb fd ib id_ (.slice ta (uN d1 ii) tc)) RFT)
      have hbb := hbc.trans (hal.mono hbc.size)
      have HSd := Lib.hid (HSa.out.later hbb)
      have HFd := Lib.hid (HF1.out.later hbb)
      have HId := Lib.hid (HI1.out.below hbb)
      have HBd := Lib.hid (HB1.out.later hbb)
      have HXd := Lib.hid (HX1.out.later hbb)
      have HF2 := Lib.hid (hf2.later hal)
      have HI2 := Lib.hid (hi2.below hal)
      have HR2 := Lib.hid (hs2.later hal)
      have HX2 := Lib.hid (blo_laid wc RFT (fdr (uA d1 ii) (uM d1 ii) fb fd ib id_ (.slice ta (uN d1 ii) tc)))
      clear hr hf2 hi2 hs2 hbc hal hbb HMr HSa HF1 HI1 HB1 HX1 y0 y1 y2 y3
      go_upto_region 11 with (fail)
      generalize wc.alloc (.cells (fdr (uA d1 ii) (uM d1 ii) fb fd ib id_ (.slice ta (uN d1 ii) tc)) RFT) = wd at *
      generalize wc.heap.size = g13 at *
      have HSmall := Lib.hid (uM_small d1 ii)
      generalize uA d1 ii = AD at *
      generalize uM d1 ii = M at *
      generalize uN d1 ii = NB at *
      generalize uF d1 ii = F at *
      generalize readC d1 ii = rc at *
      have q1 : (rc != rc) = false := by simp
      have HK : Hid (∀ W, Below wd.heap.size wd W → (W.cell? ⟨g11, 0, none⟩ = some (.int .i64 AD) ∧ W.cell? ⟨g11, 1, none⟩ = some (.int .i64 M.e) ∧ W.cell? ⟨g11, 2, none⟩ = some (.int .i64 M.c) ∧ W.cell? ⟨g11, 3, none⟩ = some (.int .i64 M.i) ∧ W.cell? ⟨g11, 4, none⟩ = some (.int .i64 M.p) ∧ W.cell? ⟨g11, 5, none⟩ = some (.int .i64 M.x) ∧ W.cell? ⟨g11, 6, none⟩ = some (.slice fa M.fs.length fc) ∧ W.cell? ⟨g11, 7, none⟩ = some (.slice ia M.is.length ic) ∧ W.cell? ⟨g11, 8, none⟩ = some (.slice ba NB bc) ∧ W.cell? ⟨g13, 0, none⟩ = some (.int .i64 AD) ∧ W.cell? ⟨g13, 1, none⟩ = some (.int .i64 M.e) ∧ W.cell? ⟨g13, 2, none⟩ = some (.int .i64 M.c) ∧ W.cell? ⟨g13, 3, none⟩ = some (.int .i64 M.i) ∧ W.cell? ⟨g13, 4, none⟩ = some (.int .i64 M.p) ∧ W.cell? ⟨g13, 5, none⟩ = some (.int .i64 M.x) ∧ W.cell? ⟨g13, 6, none⟩ = some (.slice fb M.fs.length fd) ∧ W.cell? ⟨g13, 7, none⟩ = some (.slice ib M.is.length id_) ∧ W.cell? ⟨g13, 8, none⟩ = some (.slice ta NB tc))) := fun W hb => by
        have hF := HXd.out.later hb
        have hX := HX2.out.later hb
        exact ⟨hF.cell 0, hF.cell 1, hF.cell 2, hF.cell 3, hF.cell 4, hF.cell 5, hF.cell 6, hF.cell 7, hF.cell 8, hX.cell 0, hX.cell 1, hX.cell 2, hX.cell 3, hX.cell 4, hX.cell 5, hX.cell 6, hX.cell 7, hX.cell 8⟩
      have HRf : Hid (∀ W, Below wd.heap.size wd W → Calls Tryd.prog 15 #[.agg (fdc AD M fa fc ia ic ba NB bc)] W (RefO W AD M fa fc ia ic NB F)) := fun W hb => ref_any AD M fa fc ia ic (HBd.out.later hb) (by have := HSmall.out.2.2.2; omega)
      have HSm : Hid (∀ W tx ty, Below wd.heap.size wd W → Rds W tx (cellsS F NB) → Calls Tryd.prog 14 #[.agg (fdr AD M fa fc ia ic (.slice tx NB ty)), .agg (fdr AD M fb fd ib id_ (.slice ta NB tc))] W fun e w' => e = .returned (.bool true) ∧ Below W.heap.size W w') := fun W tx ty hb h1 =>
        same15_yes (w := W) (n := NB) AD M fa fc ia ic fb fd ib id_ tx ty ta tc F (HFd.out.later hb) (HF2.out.later hb) (by have := HSmall.out.1; omega) (fun x hx => by have := HSmall.out.2.1 x hx; omega) (HId.out.below hb) (HI2.out.below hb) (by have := HSmall.out.2.2.1; omega) h1 (HR2.out.later hb) (by have := HSmall.out.2.2.2; omega)
      first
        | (go_region_held (fun W => W.cell? ⟨g11, 0, none⟩ = some (.int .i64 AD) ∧ W.cell? ⟨g11, 1, none⟩ = some (.int .i64 M.e) ∧ W.cell? ⟨g11, 2, none⟩ = some (.int .i64 M.c) ∧ W.cell? ⟨g11, 3, none⟩ = some (.int .i64 M.i) ∧ W.cell? ⟨g11, 4, none⟩ = some (.int .i64 M.p) ∧ W.cell? ⟨g11, 5, none⟩ = some (.int .i64 M.x) ∧ W.cell? ⟨g11, 6, none⟩ = some (.slice fa M.fs.length fc) ∧ W.cell? ⟨g11, 7, none⟩ = some (.slice ia M.is.length ic) ∧ W.cell? ⟨g11, 8, none⟩ = some (.slice ba NB bc) ∧ W.cell? ⟨g13, 0, none⟩ = some (.int .i64 AD) ∧ W.cell? ⟨g13, 1, none⟩ = some (.int .i64 M.e) ∧ W.cell? ⟨g13, 2, none⟩ = some (.int .i64 M.c) ∧ W.cell? ⟨g13, 3, none⟩ = some (.int .i64 M.i) ∧ W.cell? ⟨g13, 4, none⟩ = some (.int .i64 M.p) ∧ W.cell? ⟨g13, 5, none⟩ = some (.int .i64 M.x) ∧ W.cell? ⟨g13, 6, none⟩ = some (.slice fb M.fs.length fd) ∧ W.cell? ⟨g13, 7, none⟩ = some (.slice ib M.is.length id_) ∧ W.cell? ⟨g13, 8, none⟩ = some (.slice ta NB tc))
            (first | exact HK.out _ ((Below.refl _ _).drew) | exact HK.out _ HBy2.out | exact HK.out _ HBw.out | fail)
            (first
              | (go_at_call 15; (with_reducible refine (HRf.out _ ((Below.refl _ _).drew)).mono ?_); rintro e wf ⟨tx, ty, rfl, hTa, hba⟩; have HTa := Lib.hid hTa; have HBw := Lib.hid (show Below wd.heap.size wd wf from ((Below.refl wd.heap.size wd).drew).trans (hba.mono (Nat.le_refl _))); clear hTa hba)
              | (go_at_call 14; (with_reducible refine (HSm.out _ _ _ HBw.out HTa.out).mono ?_); rintro e wg ⟨rfl, hbd⟩; have HBy2 := Lib.hid (HBw.out.trans (hbd.mono HBw.out.size)); clear hbd)
              | fail))
        | fail
      rename_i hHeld
      have HS9 := Lib.hid (HSd.out.later HBy2.out)
      clear hHeld HK HRf HSm HTa HBw HBy2 HSd HFd HId HBd HXd HF2 HI2 HR2 HX2 q1 HSmall
      have hlo : -1 ≤ ii := by have := HI.out; omega
      go_wp2_with fail
      go_roundw
      case rel => exact ⟨q + 1, by omega, by rw [show ii + 1 = (((q + 1 : Nat)) : Int) - 1 from by have := HI.out; omega], HS9.out⟩
      case measure => simp [intOf]; have := HI.out; omega
    · obtain rfl : q = 62 := by omega
      by_cases hn0 : n = 0
      · subst hn0
        go_wp2_with fail
        go_ret
        exact ⟨rfl, HS.out.c.below⟩
      · obtain ⟨b0, o0, rfl, hc0⟩ := HP.out.at_ 0 (by omega)
        have hE := HP.out.each 0 (by omega)
        obtain ⟨p, hp⟩ : ∃ p, K 0 = p := ⟨_, rfl⟩
        rw [hp] at hc0 hE
        clear hp
        obtain ⟨ad, m0, fa, fn, fc, ia, inn, ic, da, dn, dc, dt⟩ := p
        have HE := Lib.hid hE
        have hn0i : (0 : Int) < ((n : Nat) : Int) := by omega
        have hn0e : (((n : Nat) : Int) == 0) = false := by rw [beq_eq_false_iff_ne]; omega
        have HC : Hid (∀ W, Below w.heap.size w W → ∀ j u, (pieceA ad m0 fa fn fc ia inn ic da dn dc)[j]? = some u → W.cell? ⟨b0, o0 + j, none⟩ = some u) := fun W hb j u hj => by
          have := cell_later hb (hc0 j u hj)
          rwa [show o0 + 0 * 9 + j = o0 + j by omega] at this
        have c0 := HC.out wr HS.out.c.below 0 _ rfl
        have c1 := HC.out wr HS.out.c.below 1 _ rfl
        have c2 := HC.out wr HS.out.c.below 2 _ rfl
        have c3 := HC.out wr HS.out.c.below 3 _ rfl
        have c4 := HC.out wr HS.out.c.below 4 _ rfl
        have c5 := HC.out wr HS.out.c.below 5 _ rfl
        have c6 := HC.out wr HS.out.c.below 6 _ rfl
        have c7 := HC.out wr HS.out.c.below 7 _ rfl
        have c8 := HC.out wr HS.out.c.below 8 _ rfl
        simp only [pieceA, Nat.add_zero] at c0 c1 c2 c3 c4 c5 c6 c7 c8
        have HFn : Hid (fn = m0.fs.length) := hE.part.fin.leq
        have HIn : Hid (inn = m0.is.length) := hE.part.ins.leq
        have HFw := Lib.hid (few15_any (w := wr) ad m0.e m0.c m0.i m0.p m0.x m0.fs m0.is fa fn fc ia inn ic da dn dc (hE.part.fin.fis.later HS.out.c.below) HFn.out HIn.out hE.part.fin.lenm hE.part.ins.lenm hE.le hE.part.fin.lb)
        clear hE hc0 hn0
        cases hfew : few15 m0.fs m0.is dn with
        | false =>
          rw [hfew] at HFw
          clear hfew
          go_wp2_with fail
          refine HFw.out.mono ?_
          rintro e wx ⟨rfl, hbx⟩
          have HBx := Lib.hid (HS.out.c.below.trans (hbx.mono HS.out.c.below.size))
          clear hbx HFw HS c0 c1 c2 c3 c4 c5 c6 c7 c8
          go_wp2_with fail
          go_ret
          exact ⟨rfl, HBx.out⟩
        | true =>
          rw [hfew] at HFw
          have hq := few15_yes hfew
          have hsz := few15_szF hfew
          have HLb : Hid (∀ x ∈ m0.fs, ∀ n ∈ x.lb, -9223372036854775808 ≤ n ∧ n ≤ 9223372036854775807) := fun x hx n hn => Go.bounds_i64 ((HE.out.part.fin.wf x hx).2.2 n hn)
          have HQ : Hid (fn ≤ 300000 ∧ inn ≤ 300000 ∧ szF m0.fs ≤ 400) := ⟨by have := HFn.out; omega, by have := HIn.out; omega, hsz⟩
          clear hfew hq hsz
          go_wp2_with fail
          refine HFw.out.mono ?_
          rintro e wx ⟨rfl, hbx⟩
          have HSx := Lib.hid (HS.out.later hbx)
          clear hbx HFw HS c0 c1 c2 c3 c4 c5 c6 c7 c8
          go_wp2_with fail
          go_loopw [80] (fun t wq => ∃ k : Nat, k ≤ m ∧ t = .int .i64 ((k : Nat) : Int) ∧ WsK w g8 sa qa sc qc L d1 wq) (fun t _ => m - (intOf t).toNat)
          case atStart => exact ⟨0, Nat.zero_le _, rfl, HSx.out⟩
          case round =>
            clear HSx
            obtain ⟨k, hk, rfl, hS⟩ := hrel
            have HS := Lib.hid hS
            clear hS
            by_cases hkm : k < m
            · obtain ⟨bb, oo, rfl, hcell⟩ := HB.out.at_ (by omega)
              have ck := cell_later HS.out.c.below (hcell k hkm)
              have k0 : (0 : Int) ≤ ((k : Nat) : Int) := by omega
              have k1 : ((k : Nat) : Int) < ((m : Nat) : Int) := by omega
              obtain ⟨lk, hlk⟩ : ∃ lk : Nat, (nthL ls k).length = lk := ⟨_, rfl⟩
              rw [hlk] at ck
              clear hcell hlk
              by_cases hlen : lk > 200
              · have h1 : ((lk : Nat) : Int) > 200 := by omega
                clear hlen
                go_wp2_with fail
                go_ret
                exact ⟨rfl, HS.out.c.below⟩
              · have h1 : ¬ ((lk : Nat) : Int) > 200 := by omega
                clear hlen
                go_wp2_with fail
                go_roundw
                case rel => exact ⟨k + 1, by omega, by simp, HS.out⟩
                case measure => simp [intOf]; omega
            · obtain rfl : m = k := by omega
              have hTw := HT.out _ HS.out.c.below
              obtain ⟨⟨d', c'⟩, hcp⟩ : ∃ cp, segW d1 addr m0 ls = cp := ⟨_, rfl⟩
              have HWr := Lib.hid (segWrite_any (w := wr) addr m0 fa fn fc ia inn ic (HE.out.part.fin.fis.later HS.out.c.below) HFn.out (by have := HQ.out.2.2; omega) (HE.out.part.ins.ints.below HS.out.c.below) HIn.out (by have := HQ.out.2.1; omega) (fun x hx n hn => (HLb.out x hx n hn).1) b m mc A C ls (lists_lsk HB.out HS.out.c.below HS.out.dk) hTw.1 hTw.2 (HRm.out.mono (by have := HM60.out; omega)) HS.out.dk)
              rw [hcp] at HWr
              have HCq := Lib.hid hcp
              have HCc : Hid (∀ W, Below w.heap.size w W → (W.cell? ⟨b0, o0 + 1, none⟩ = some (.int .i64 m0.e) ∧ W.cell? ⟨b0, o0 + 2, none⟩ = some (.int .i64 m0.c) ∧ W.cell? ⟨b0, o0 + 3, none⟩ = some (.int .i64 m0.i) ∧ W.cell? ⟨b0, o0 + 4, none⟩ = some (.int .i64 m0.p) ∧ W.cell? ⟨b0, o0 + 5, none⟩ = some (.int .i64 m0.x) ∧ W.cell? ⟨b0, o0 + 6, none⟩ = some (.slice fa fn fc) ∧ W.cell? ⟨b0, o0 + 7, none⟩ = some (.slice ia inn ic) ∧ W.cell? ⟨b0, o0 + 1 + 1, none⟩ = some (.int .i64 m0.c) ∧ W.cell? ⟨b0, o0 + 1 + 2, none⟩ = some (.int .i64 m0.i) ∧ W.cell? ⟨b0, o0 + 1 + 3, none⟩ = some (.int .i64 m0.p) ∧ W.cell? ⟨b0, o0 + 1 + 4, none⟩ = some (.int .i64 m0.x) ∧ W.cell? ⟨b0, o0 + 1 + 5, none⟩ = some (.slice fa fn fc) ∧ W.cell? ⟨b0, o0 + 1 + 6, none⟩ = some (.slice ia inn ic))) := fun W hb => by
                have h := HC.out W hb
                exact ⟨h 1 _ rfl, h 2 _ rfl, h 3 _ rfl, h 4 _ rfl, h 5 _ rfl, h 6 _ rfl, h 7 _ rfl, by rw [show o0 + 1 + 1 = o0 + 2 by omega]; exact h 2 _ rfl, by rw [show o0 + 1 + 2 = o0 + 3 by omega]; exact h 3 _ rfl, by rw [show o0 + 1 + 3 = o0 + 4 by omega]; exact h 4 _ rfl, by rw [show o0 + 1 + 4 = o0 + 5 by omega]; exact h 5 _ rfl, by rw [show o0 + 1 + 5 = o0 + 6 by omega]; exact h 6 _ rfl, by rw [show o0 + 1 + 6 = o0 + 7 by omega]; exact h 7 _ rfl⟩
              obtain ⟨k0, k1, k2, k3, k4, k5, k6, j1, j2, j3, j4, j5, j6⟩ := HCc.out wr HS.out.c.below
              clear hcp hTw hk hkm
              go_wp2_with fail
              refine HWr.out.mono ?_
              intro e w5 hO
              obtain ⟨rfl, q5, -, ho5, -⟩ := hO
              have HC5 := Lib.hid (HS.out.c.out HS.out.dk (Nat.le_refl _) ho5)
              clear ho5 HWr HS k0 k1 k2 k3 k4 k5 k6 j1 j2 j3 j4 j5 j6
              have HBx8 := Lib.hid HC5.out.box
              have HCp := Lib.hid (fun W (hb : Below w5.heap.size w5 W) => HCc.out W (HC5.out.below.trans (hb.mono HC5.out.below.size)))
              have HTx : Hid (∀ W, Below w5.heap.size w5 W → Calls Tryd.prog 19 #[.slice b m mc] W (TxsO W m (nthL ls))) := fun W hb => ltexts_any (HB.out.below (HC5.out.below.trans (hb.mono HC5.out.below.size))) (by have := HM60.out; omega)
              have HMw : Hid (∀ W ta tc, Below w5.heap.size w5 W → Rds W ta (cellsS (nthL ls) m) → Calls Tryd.prog 18 #[.agg (agR sa qa sc qc d1), .int .i64 addr, part m0.e m0.c m0.i m0.p m0.x fa fn fc ia inn ic, .slice ta m tc] W (MrO W d' c')) := fun W ta tc hb hR => by
                have hbw := HC5.out.below.trans (hb.mono HC5.out.below.size)
                have h := mwrite_any (w := W) addr m0 fa fn fc ia inn ic (HE.out.part.fin.fis.later hbw) HFn.out (by have := HQ.out.2.2; omega) (HE.out.part.ins.ints.below hbw) HIn.out (by have := HQ.out.2.1; omega) HLb.out ta m tc ls HML.out.1 (by have := HM60.out; omega) hR (fun l hl x hx => by
                  obtain ⟨i, hi, rfl⟩ := List.getElem_of_mem hl
                  have h1 := (HB.out.each i (by rw [HML.out.1]; exact hi)).1.1 x
                  unfold nthL at h1
                  rw [List.getD_eq_getElem?_getD, List.getElem?_eq_getElem hi] at h1
                  exact h1 hx) (HRd.out.mono (by have := HM60.out; omega)) (HC5.out.mr.later hb)
                rw [HCq.out] at h
                exact h
              go_upto_region 22 with (fail)
              obtain ⟨RL, hRL⟩ : ∃ RL : List (Nat × ObjL), RL = [(7, PTl (nthL ls) m), (8, PWr d' c'), (9, PWr d' c'), (10, PAg d'), (12, PBr w5.heap.size)] := ⟨_, rfl⟩
              obtain ⟨TL, hTL⟩ : ∃ TL : List (Nat × Value), TL = [(0, .agg (agR sa qa sc qc d1)), (1, .int .i64 addr), (2, .slice (some ⟨b0, o0, none⟩) n cap), (3, .pointer (some ⟨b0, o0, none⟩)), (4, .pointer (some ⟨b0, o0 + 1, none⟩)), (5, .agg #[.int .i64 m0.e, .int .i64 m0.c, .int .i64 m0.i, .int .i64 m0.p, .int .i64 m0.x, .slice fa fn fc, .slice ia inn ic]), (6, .slice b m mc), (11, .int .i64 c')] := ⟨_, rfl⟩
              have hKB : keysL RL := by intro x hx y hy e; simp only [hRL, List.mem_cons, List.not_mem_nil, or_false] at hx hy; rcases hx with rfl | rfl | rfl | rfl | rfl <;> rcases hy with rfl | rfl | rfl | rfl | rfl <;> first | rfl | (exfalso; simp at e; done) | fail
              have hLB : ∀ x ∈ RL, LaterP x.2 := by intro x hx; simp only [hRL, List.mem_cons, List.not_mem_nil, or_false] at hx; rcases hx with rfl | rfl | rfl | rfl | rfl <;> first | exact later_ptl _ _ | exact later_pwr _ _ | exact later_pag _ | exact later_pbr _ | fail
              refine wp_region_inv (n := 15) [(0, 97), (1, 98), (2, 99), (3, 100), (4, 101), (5, 102), (6, 103), (7, 104), (8, 105), (9, 96), (10, 106), (11, 107), (12, 18), (14, 19)] (WsI RL TL w5 c') (by kernel_rfl) (by kernel_rfl) (by kernel_rfl) (fun X => by simp only [putL, Act.put, List.setIfInBounds_toArray, List.set_cons_zero, List.set_cons_succ]; rfl) (fun X => .inl ⟨rfl, rfl, GL.start (Below.refl _ _).drew⟩) ?_ ?_
              · show StepsI _ _ _ _ _ 0 [_, _, _, _, _, _, _, _, _, _, _, _, _, _, _]
                refine ⟨fun D X W hD hd hI Kx hK => ?_, ?_⟩
                · rcases hI with ⟨hA, hA6, hI⟩ | hR
                  case inr => exact absurd (hR.all 0 (by decide) (by decide)) (by rw [hD]; simp)
                  replace hK := fun v W' (h : GL RL TL w5 (updD D 0) (updV X 0 v) W') => hK v W' (.inl ⟨(updD_ne D 0 (by decide)).trans hA, (updD_ne D 0 (by decide)).trans hA6, h⟩)
                  exact stepO_load_row (by simp [Region.wanted]) RDT (.tmp 8) rfl g8 rfl RDT (agR sa qa sc qc d1) (0, 0) _ (HBx8.out.later hI.b) Tryd.underlying29 rfl (by kernel_rfl) (hK _ _ (hI.tell hLB 0 _ (Below.refl _ _) (by simp [hRL]) (by simp [hTL])))
                refine ⟨fun D X W hD hd hI Kx hK => ?_, ?_⟩
                · rcases hI with ⟨hA, hA6, hI⟩ | hR
                  case inr => exact absurd (hR.all 1 (by decide) (by decide)) (by rw [hD]; simp)
                  replace hK := fun v W' (h : GL RL TL w5 (updD D 1) (updV X 1 v) W') => hK v W' (.inl ⟨(updD_ne D 1 (by decide)).trans hA, (updD_ne D 1 (by decide)).trans hA6, h⟩)
                  exact stepO_run (v := .int .i64 addr) (w' := W) (by simp [Region.wanted]) (by simp [go_sem, execOp]) (hK _ _ (hI.tell hLB 1 _ (Below.refl _ _) (by simp [hRL]) (by simp [hTL])))
                refine ⟨fun D X W hD hd hI Kx hK => ?_, ?_⟩
                · rcases hI with ⟨hA, hA6, hI⟩ | hR
                  case inr => exact absurd (hR.all 2 (by decide) (by decide)) (by rw [hD]; simp)
                  replace hK := fun v W' (h : GL RL TL w5 (updD D 2) (updV X 2 v) W') => hK v W' (.inl ⟨(updD_ne D 2 (by decide)).trans hA, (updD_ne D 2 (by decide)).trans hA6, h⟩)
                  exact stepO_run (v := .slice (some ⟨b0, o0, none⟩) n cap) (w' := W) (by simp [Region.wanted]) (by simp [go_sem, execOp]) (hK _ _ (hI.tell hLB 2 _ (Below.refl _ _) (by simp [hRL]) (by simp [hTL])))
                refine ⟨fun D X W hD hd hI Kx hK => ?_, ?_⟩
                · rcases hI with ⟨hA, hA6, hI⟩ | hR
                  case inr => exact absurd (hR.all 3 (by decide) (by decide)) (by rw [hD]; simp)
                  replace hK := fun v W' (h : GL RL TL w5 (updD D 3) (updV X 3 v) W') => hK v W' (.inl ⟨(updD_ne D 3 (by decide)).trans hA, (updD_ne D 3 (by decide)).trans hA6, h⟩)
                  have a2 := hI.dt (2, .slice (some ⟨b0, o0, none⟩) n cap) (by simp [hTL]) (hd ⟨2, .data⟩ (by simp) rfl)
                  exact stepO_run (v := .pointer (some ⟨b0, o0, none⟩)) (w' := W) (by simp [Region.wanted]) (by have hnz : ¬ n = 0 := (by omega); simp [go_sem, execOp, a2, hnz]) (hK _ _ (hI.tell hLB 3 _ (Below.refl _ _) (by simp [hRL]) (by simp [hTL])))
                refine ⟨fun D X W hD hd hI Kx hK => ?_, ?_⟩
                · rcases hI with ⟨hA, hA6, hI⟩ | hR
                  case inr => exact absurd (hR.all 4 (by decide) (by decide)) (by rw [hD]; simp)
                  replace hK := fun v W' (h : GL RL TL w5 (updD D 4) (updV X 4 v) W') => hK v W' (.inl ⟨(updD_ne D 4 (by decide)).trans hA, (updD_ne D 4 (by decide)).trans hA6, h⟩)
                  have a3 := hI.dt (3, .pointer (some ⟨b0, o0, none⟩)) (by simp [hTL]) (hd ⟨3, .data⟩ (by simp) rfl)
                  exact stepO_run (v := .pointer (some ⟨b0, o0 + 1, none⟩)) (w' := W) (by simp [Region.wanted]) (by simp [go_sem, execOp, a3]) (hK _ _ (hI.tell hLB 4 _ (Below.refl _ _) (by simp [hRL]) (by simp [hTL])))
                refine ⟨fun D X W hD hd hI Kx hK => ?_, ?_⟩
                · rcases hI with ⟨hA, hA6, hI⟩ | hR
                  case inr => exact absurd (hR.all 5 (by decide) (by decide)) (by rw [hD]; simp)
                  replace hK := fun v W' (h : GL RL TL w5 (updD D 5) (updV X 5 v) W') => hK v W' (.inl ⟨(updD_ne D 5 (by decide)).trans hA, (updD_ne D 5 (by decide)).trans hA6, h⟩)
                  have a4 := hI.dt (4, .pointer (some ⟨b0, o0 + 1, none⟩)) (by simp [hTL]) (hd ⟨4, .data⟩ (by simp) rfl)
                  obtain ⟨k0, k1, k2, k3, k4, k5, k6, j1, j2, j3, j4, j5, j6⟩ := HCp.out W hI.b
                  exact stepO_run (v := .agg #[.int .i64 m0.e, .int .i64 m0.c, .int .i64 m0.i, .int .i64 m0.p, .int .i64 m0.x, .slice fa fn fc, .slice ia inn ic]) (w' := W) (by simp [Region.wanted]) (by simp [go_sem, execOp, a4, k0, k1, k2, k3, k4, k5, k6]) (hK _ _ (hI.tell hLB 5 _ (Below.refl _ _) (by simp [hRL]) (by simp [hTL])))
                refine ⟨fun D X W hD hd hI Kx hK => ?_, ?_⟩
                · rcases hI with ⟨hA, hA6, hI⟩ | hR
                  case inr => exact absurd (hR.all 6 (by decide) (by decide)) (by rw [hD]; simp)
                  replace hK := fun v W' (h : GL RL TL w5 (updD D 6) (updV X 6 v) W') => hK v W' (.inl ⟨(updD_ne D 6 (by decide)).trans hA, (updD_ne D 6 (by decide)).trans hA6, h⟩)
                  exact stepO_run (v := .slice b m mc) (w' := W) (by simp [Region.wanted]) (by simp [go_sem, execOp]) (hK _ _ (hI.tell hLB 6 _ (Below.refl _ _) (by simp [hRL]) (by simp [hTL])))
                refine ⟨fun D X W hD hd hI Kx hK => ?_, ?_⟩
                · rcases hI with ⟨hA, hA6, hI⟩ | hR
                  case inr => exact absurd (hR.all 7 (by decide) (by decide)) (by rw [hD]; simp)
                  replace hK := fun v W' (h : GL RL TL w5 (updD D 7) (updV X 7 v) W') => hK v W' (.inl ⟨(updD_ne D 7 (by decide)).trans hA, (updD_ne D 7 (by decide)).trans hA6, h⟩)
                  have a6 := hI.dt (6, .slice b m mc) (by simp [hTL]) (hd ⟨6, .data⟩ (by simp) rfl)
                  refine stepO_call (f := 19) (args := #[.slice b m mc]) (by simp [Region.wanted]) (by simp [go_sem, execOp, a6]) (HTx.out W hI.b) (fun e W' hr => ?_)
                  obtain ⟨ta, tc, he, ht, hb⟩ := hr
                  exact ⟨_, he, hK _ _ (hI.fresh hKB hLB 7 _ (PTl (nthL ls) m) (by simp [hRL]) hb ⟨ta, tc, rfl, ht⟩ (by simp [hTL]))⟩
                refine ⟨fun D X W hD hd hI Kx hK => ?_, ?_⟩
                · rcases hI with ⟨hA, hA6, hI⟩ | hR
                  case inr => exact absurd (hR.all 8 (by decide) (by decide)) (by rw [hD]; simp)
                  replace hK := fun v W' (h : GL RL TL w5 (updD D 8) (updV X 8 v) W') => hK v W' (.inl ⟨(updD_ne D 8 (by decide)).trans hA, (updD_ne D 8 (by decide)).trans hA6, h⟩)
                  have a0 := hI.dt (0, .agg (agR sa qa sc qc d1)) (by simp [hTL]) (hd ⟨0, .data⟩ (by simp) rfl)
                  have a1 := hI.dt (1, .int .i64 addr) (by simp [hTL]) (hd ⟨1, .data⟩ (by simp) rfl)
                  have a5 := hI.dt (5, .agg #[.int .i64 m0.e, .int .i64 m0.c, .int .i64 m0.i, .int .i64 m0.p, .int .i64 m0.x, .slice fa fn fc, .slice ia inn ic]) (by simp [hTL]) (hd ⟨5, .data⟩ (by simp) rfl)
                  have r7 := hI.rows (7, PTl (nthL ls) m) (by simp [hRL]) (hd ⟨7, .data⟩ (by simp) rfl)
                  obtain ⟨ta, tc, hx, ht⟩ := r7
                  have hx2 : X 7 = _ := hx
                  refine stepO_call (f := 18) (args := #[.agg (agR sa qa sc qc d1), .int .i64 addr, .agg #[.int .i64 m0.e, .int .i64 m0.c, .int .i64 m0.i, .int .i64 m0.p, .int .i64 m0.x, .slice fa fn fc, .slice ia inn ic], .slice ta m tc]) (by simp [Region.wanted]) (by simp [go_sem, execOp, a0, a1, a5, hx2]) (HMw.out W ta tc hI.b ht) (fun e W' hr => ?_)
                  obtain ⟨sa2, qa2, sc2, qc2, he, hm, hb⟩ := hr
                  exact ⟨_, he, hK _ _ (hI.fresh hKB hLB 8 _ (PWr d' c') (by simp [hRL]) hb ⟨sa2, qa2, sc2, qc2, rfl, hm⟩ (by simp [hTL]))⟩
                refine ⟨fun D X W hD hd hI Kx hK => ?_, ?_⟩
                · rcases hI with ⟨hA, hA6, hI⟩ | hR
                  case inr => exact absurd (hR.all 9 (by decide) (by decide)) (by rw [hD]; simp)
                  replace hK := fun v W' (h : GL RL TL w5 (updD D 9) (updV X 9 v) W') => hK v W' (.inl ⟨(updD_ne D 9 (by decide)).trans hA, (updD_ne D 9 (by decide)).trans hA6, h⟩)
                  have r8 := hI.rows (8, PWr d' c') (by simp [hRL]) (hd ⟨8, .data⟩ (by simp) rfl)
                  obtain ⟨sa2, qa2, sc2, qc2, hx, hm⟩ := r8
                  have hx2 : X 8 = _ := hx
                  exact stepO_run (v := .tuple #[.agg (agR sa2 qa2 sc2 qc2 d'), .int .i64 c']) (w' := W) (by simp [Region.wanted]) (by simp [go_sem, execOp, hx2]) (hK _ _ (hI.fresh hKB hLB 9 _ (PWr d' c') (by simp [hRL]) (Below.refl _ _) ⟨sa2, qa2, sc2, qc2, rfl, hm⟩ (by simp [hTL])))
                refine ⟨fun D X W hD hd hI Kx hK => ?_, ?_⟩
                · rcases hI with ⟨hA, hA6, hI⟩ | hR
                  case inr => exact absurd (hR.all 10 (by decide) (by decide)) (by rw [hD]; simp)
                  replace hK := fun v W' (h : GL RL TL w5 (updD D 10) (updV X 10 v) W') => hK v W' (.inl ⟨(updD_ne D 10 (by decide)).trans hA, (updD_ne D 10 (by decide)).trans hA6, h⟩)
                  have r9 := hI.rows (9, PWr d' c') (by simp [hRL]) (hd ⟨9, .data⟩ (by simp) rfl)
                  obtain ⟨sa2, qa2, sc2, qc2, hx, hm⟩ := r9
                  have hx2 : X 9 = _ := hx
                  exact stepO_run (v := .agg (agR sa2 qa2 sc2 qc2 d')) (w' := W) (by simp [Region.wanted]) (by simp [go_sem, execOp, hx2]) (hK _ _ (hI.fresh hKB hLB 10 _ (PAg d') (by simp [hRL]) (Below.refl _ _) ⟨sa2, qa2, sc2, qc2, rfl, hm⟩ (by simp [hTL])))
                refine ⟨fun D X W hD hd hI Kx hK => ?_, ?_⟩
                · rcases hI with ⟨hA, hA6, hI⟩ | hR
                  case inr =>
                    obtain ⟨t9, k9⟩ := hR.x9
                    exact stepO_run (v := .int .i64 c') (w' := W) (by simp [Region.wanted]) (by simp [go_sem, execOp, k9]) (hK _ _ (.inr (hR.put 11 (by decide) (by decide) (by decide))))
                  replace hK := fun v W' (h : GL RL TL w5 (updD D 11) (updV X 11 v) W') => hK v W' (.inl ⟨(updD_ne D 11 (by decide)).trans hA, (updD_ne D 11 (by decide)).trans hA6, h⟩)
                  have r9 := hI.rows (9, PWr d' c') (by simp [hRL]) (hd ⟨9, .data⟩ (by simp) rfl)
                  obtain ⟨sa2, qa2, sc2, qc2, hx, hm⟩ := r9
                  have hx2 : X 9 = _ := hx
                  exact stepO_run (v := .int .i64 c') (w' := W) (by simp [Region.wanted]) (by simp [go_sem, execOp, hx2]) (hK _ _ (hI.tell hLB 11 _ (Below.refl _ _) (by simp [hRL]) (by simp [hTL])))
                refine ⟨fun D X W hD hd hI Kx hK => ?_, ?_⟩
                · rcases hI with ⟨hA, hA6, hI⟩ | hR
                  case inr => exact absurd (hR.all 12 (by decide) (by decide)) (by rw [hD]; simp)
                  replace hK := fun v W' (h : GL RL TL w5 (updD D 12) (updV X 12 v) W') => hK v W' (.inl ⟨(updD_ne D 12 (by decide)).trans hA, (updD_ne D 12 (by decide)).trans hA6, h⟩)
                  exact stepO_run (v := .pointer (some ⟨W.heap.size, 0, none⟩)) (w' := W.alloc (.cells zdk RDT)) (by simp [Region.wanted]) (by simp [go_sem, execOp, zdk]) (hK _ _ (hI.fresh hKB hLB 12 _ (PBr w5.heap.size) (by simp [hRL]) (sup_pc W _) ⟨W.heap.size, rfl, hI.b.size, blo_laid W _ _⟩ (by simp [hTL])))
                refine ⟨fun D X W hD hd hI Kx hK => ?_, ?_⟩
                · rcases hI with ⟨hA, hA6, hI⟩ | hR
                  case inr => have := hR.d13; rw [hD] at this; cases this
                  have hall : ∀ j, j ≠ 11 → j < 13 → D j = true := fun j h1 h3 => match j, h1, h3 with
                    | 0, _, _ => hd ⟨0, .phase⟩ (by simp) rfl
                    | 1, _, _ => hd ⟨1, .phase⟩ (by simp) rfl
                    | 2, _, _ => hd ⟨2, .phase⟩ (by simp) rfl
                    | 3, _, _ => hd ⟨3, .phase⟩ (by simp) rfl
                    | 4, _, _ => hd ⟨4, .phase⟩ (by simp) rfl
                    | 5, _, _ => hd ⟨5, .phase⟩ (by simp) rfl
                    | 6, _, _ => hd ⟨6, .phase⟩ (by simp) rfl
                    | 7, _, _ => hd ⟨7, .phase⟩ (by simp) rfl
                    | 8, _, _ => hd ⟨8, .phase⟩ (by simp) rfl
                    | 9, _, _ => hd ⟨9, .phase⟩ (by simp) rfl
                    | 10, _, _ => hd ⟨10, .phase⟩ (by simp) rfl
                    | 12, _, _ => hd ⟨12, .phase⟩ (by simp) rfl
                    | 11, h, _ => absurd rfl h
                  obtain ⟨sa3, qa3, sc3, qc3, hx9, -⟩ := hI.rows (9, PWr d' c') (by simp [hRL]) (hall 9 (by decide) (by decide))
                  obtain ⟨sa2, qa2, sc2, qc2, hx10, -⟩ := hI.rows (10, PAg d') (by simp [hRL]) (hall 10 (by decide) (by decide))
                  obtain ⟨g, hx12, hg, hbx⟩ := hI.rows (12, PBr w5.heap.size) (by simp [hRL]) (hall 12 (by decide) (by decide))
                  have k10 : X 10 = _ := hx10
                  have k12 : X 12 = _ := hx12
                  have k11 : D 11 = true → X 11 = .int .i64 c' := fun h => hI.dt (11, .int .i64 c') (by simp [hTL]) h
                  exact stepO_store (by simp [Region.wanted]) RDT (.tmp 18) (.tmp 106) rfl g (agR sa2 qa2 sc2 qc2 d') (by simp [go_sem, k12]) (by simp [go_sem, k10]) RDT _ hbx (by kernel_rfl) rfl (by simp [agR, Value.oneCell']) rfl undef (fun _ _ => hK undef _ (.inr (ws_stored hA6 hall ⟨_, hx9⟩ k11 (below_setRow hI.b hg _))))
                refine ⟨fun D X W hD hd hI Kx hK => ?_, ?_⟩
                · rcases hI with ⟨hA, -⟩ | hR
                  case inl => have h5 := hd ⟨13, .chain⟩ (by simp) rfl; rw [hA] at h5; cases h5
                  have k11 := hR.x11 (hd ⟨11, .data⟩ (by simp) rfl)
                  exact stepO_run (v := .int .i64 c') (w' := W) (by simp [Region.wanted]) (by simp [go_sem, execOp, k11]) (hK _ _ (.inr (hR.put 14 (by decide) (by decide) (by decide))))
                exact True.intro
              · intro D X W hD hI
                rcases hI with ⟨hA, -⟩ | hR
                case inl => rw [hD 13 (by decide)] at hA; cases hA
                have k14 := hR.x14 (hD 14 (by decide))
                have HBf := Lib.hid (HC5.out.below.trans (hR.below.mono HC5.out.below.size))
                clear hD hR hKB hLB hRL hTL HTx HMw HCp HBx8 HCc
                rw [k14]
                simp only [List.drop_succ_cons, List.drop_zero]
                clear k14
                have q1 : (c' == c') = true := by simp
                go_wp2_with fail
                go_ret
                exact ⟨rfl, HBf.out⟩
end
end Go.Proofs.YtlkgaefabahkoaaDoor
