/-
  marllaw13.same: a piece is the document's.
-/
import Derived.Test.YtonlhkhjdnaojaaPdSaM
import Derived.Test.YtonlhkhjdnaojaaPdItems
import Derived.Test.YtonlhkhjdnaojaaPdFits
import Derived.Test.YtonlhkhjdnaojaaApRow
import Derived.Test.YtonlhkhjdnaojaaPhase
import Derived.Test.YtonlhkhjdnaojaaPcSums
namespace Go.Proofs.Ytonlhkhjdnaojaa
open Go.RowKit

/-- Behind the first inode there are inodes only. -/
def NdS (l : List It) : Prop := ∀ (i j : Nat) (x y : It), i < j → l[i]? = some x → l[j]? = some y → x.f = 0 → y.f = 0
abbrev RPP := 43
abbrev pcV (b : Bool) (fa : Option Addr) (nf fc : Nat) (ia : Option Addr) (ni ic : Nat) : Value := .agg #[.bool b, .slice fa nf fc, .slice ia ni ic]
abbrev rpV (b : Bool) (sa : Option Addr) (ql sc : Nat) : Value := .agg #[.bool b, .slice sa ql sc]
structure BxS (w : World) (b : Bool) (fa : Option Addr) (nf fc : Nat) (ia : Option Addr) (ni ic : Nat) (sa : Option Addr) (ql sc : Nat) (wr : World) : Prop where
  bp : Blo wr w.heap.size PC #[.bool b, .slice fa nf fc, .slice ia ni ic]
  bw : Blo wr (w.heap.size + 1) RPP #[.bool b, .slice sa ql sc]
  below : Below w.heap.size w wr
section
variable {w wr w' : World} {b : Bool} {fa : Option Addr} {nf fc : Nat} {ia : Option Addr} {ni ic : Nat} {sa : Option Addr} {ql sc : Nat}
theorem BxS.later (h : BxS w b fa nf fc ia ni ic sa ql sc wr) (hb : Below wr.heap.size wr w') : BxS w b fa nf fc ia ni ic sa ql sc w' := ⟨h.bp.later hb, h.bw.later hb, h.below.trans (hb.mono h.below.size)⟩
theorem BxS.grown (h : BxS w b fa nf fc ia ni ic sa ql sc wr) {e : TypeId} {size n : Nat} {v : Value} {xs : List Value} (ho : wr.ownsRow w.heap.size e size v n xs) (h1 : e ≠ PC) (h2 : e ≠ RPP) (hg : wr.grownBy w' v.ownBlock) : BxS w b fa nf fc ia ni ic sa ql sc w' :=
  ⟨h.bp.grown hg (h.bp.row_apart ho h1), h.bw.grown hg (h.bw.row_apart ho h2), h.below.grown hg h.below.size (fun q e => (own_bd ho e).1)⟩
theorem BxS.put (h : BxS w b fa nf fc ia ni ic sa ql sc wr) {e : TypeId} {size n g cap : Nat} {xs : List Value} (ho : wr.ownsRow w.heap.size e size (.slice (some ⟨g, 0, none⟩) n cap) n xs) (h1 : e ≠ PC) (h2 : e ≠ RPP) (i : Nat) (u : Value) : BxS w b fa nf fc ia ni ic sa ql sc (wr.setCell ⟨g, i, none⟩ u) := by
  have e1 := h.bp.row_apart ho h1
  have e2 := h.bw.row_apart ho h2
  exact ⟨(Below.heap_setCell wr _ _ _ (fun e => e1 (by rw [e]; rfl))).trans h.bp, (Below.heap_setCell wr _ _ _ (fun e => e2 (by rw [e]; rfl))).trans h.bw, h.below.setCell (p := ⟨g, i, none⟩) (own_bd ho rfl).1 u⟩
end
theorem Fm.fis {w : World} {base n c : Nat} {a : Option Addr} {av : Nat → Value} {I V : Nat → Int} {z : Pz} (h : Fm w base (.slice a n c) av I V z) : Fis w a (fsZ I V z) := fun hne => by
  have hpos : 0 < z.nf := by
    rcases Nat.eq_zero_or_pos z.nf with e | e
    · exact absurd (by unfold fsZ; rw [e]; rfl) hne
    · exact e
  obtain ⟨g, cap, e, hg⟩ := own_some h.row hpos
  cases e
  refine ⟨g, 0, rfl, fun i hi => ?_⟩
  rw [fsZ_len] at hi
  rw [fsZ_get _ _ _ hi]
  obtain ⟨q1, q2, q3⟩ := flat3_get (fun k => (Value.int .i64 (I (z.fi k)), Value.int .i64 (V (z.fi k)), av (k + 1))) hi
  obtain ⟨a2, c2, e2, _⟩ := own_slice (h.ints (i + 1) (by omega))
  refine ⟨by rw [Nat.zero_add, h.row.cellAt _ (by omega)]; exact q1, by rw [Nat.zero_add, h.row.cellAt _ (by omega)]; exact q2, a2, c2, by rw [Nat.zero_add, h.row.cellAt _ (by omega), q3, e2], ?_⟩
  exact Ints.own (e2 ▸ h.ints (i + 1) (by omega))
/-- Behind an append whose slice is stored. -/
def Rst (ga o n : Nat) (u : Value) (P : World → Prop) (v : Value) (W : World) : Prop := ∃ a c, v = .slice a n c ∧ W.cell? ⟨ga, o, none⟩ = some u ∧ W.frozen? ⟨ga, o, none⟩ = false ∧ P (W.setCell ⟨ga, o, none⟩ v)
/-- Behind an append whose slice is kept. -/
def Rap (n : Nat) (P : Value → World → Prop) (v : Value) (W : World) : Prop := ∃ a c, v = .slice (some ⟨a, 0, none⟩) n c ∧ P v W
theorem Fm.at {w : World} {base n g c : Nat} {av : Nat → Value} {I V : Nat → Int} {z : Pz} (h : Fm w base (.slice (some ⟨g, 0, none⟩) n c) av I V z) (hn : z.nf = n) {k : Nat} (hk : k < n) : w.cell? ⟨g, k * 3 + 2, none⟩ = some (av (k + 1)) ∧ w.frozen? ⟨g, k * 3 + 2, none⟩ = false := by
  subst hn
  obtain ⟨q1, q2, q3⟩ := flat3_get (fun k => (Value.int .i64 (I (z.fi k)), Value.int .i64 (V (z.fi k)), av (k + 1))) hk
  exact ⟨by rw [h.row.cellAt _ (by omega)]; exact q3, h.row.frozenAt _⟩
theorem rst_done {w w3 w7 : World} {b : Bool} {fa : Option Addr} {nf fc : Nat} {ia : Option Addr} {ni ic : Nat} {sa : Option Addr} {ql sc m ga ca bl bc : Nat} {bg : Option Addr} {av : Nat → Value} {I V : Nat → Int} {z : Pz} {iv v' : Value} {x : Int}
    (hx : BxS w b fa nf fc ia ni ic sa ql sc w3) (hm : Fm w3 w.heap.size (.slice (some ⟨ga, 0, none⟩) (m + 1) ca) av I V z) (hz : z.nf = m + 1) (hav : av (m + 1) = .slice bg bl bc) (hbl : (z.li (m + 1)).length = bl) (h0 : av 0 = iv)
    (hown : w7.ownsRow w.heap.size IT 1 v' (bl + 1) (cellsI (z.li (m + 1)) ++ cellsI [x])) (hgrow : w3.grownBy w7 (Value.slice bg bl bc).ownBlock) (hat : v'.ownBlock = (Value.slice bg bl bc).ownBlock ∨ ∀ g, v'.ownBlock = some g → w3.heap.size ≤ g) (hv : ∃ a c, v' = .slice a (bl + 1) c) :
    Rst ga (m * 3 + 2) (bl + 1) (.slice bg bl bc) (fun W => BxS w b fa nf fc ia ni ic sa ql sc W ∧ ∃ av', av' 0 = iv ∧ Fm W w.heap.size (.slice (some ⟨ga, 0, none⟩) (m + 1) ca) av' I V (zAdd z (m + 1) x)) v' w7 := by
  obtain ⟨a, c, hv⟩ := hv
  rw [← hav] at hgrow hat
  have hi := hm.ints (m + 1) (by omega)
  have hO : Out (fun g => (av (m + 1)).ownBlock = some g) w3 w7 := Out.of_grown hgrow (fun g e => e)
  have hr := hm.row
  rw [hz] at hr
  have hr7 := hO.own hr (fun g e1 e2 => own_apart hr hi (by decide) g e1 e2)
  obtain ⟨q1, q2, q3⟩ := flat3_get (fun k => (Value.int .i64 (I (z.fi k)), Value.int .i64 (V (z.fi k)), av (k + 1))) (Nat.lt_succ_self m)
  refine ⟨a, c, hv, ?_, hr7.frozenAt _, (hx.grown hi (by decide) (by decide) hgrow).put hr7 (by decide) (by decide) _ _, upd av (m + 1) v', ?_, ?_⟩
  · rw [hr7.cellAt _ (by omega), q3, hav]
  · rw [upd_ne _ _ _ (by omega)]; exact h0
  · refine hm.addF (k := m) (by omega) (by rw [hz]) ?_ hgrow hat
    rw [hbl]
    simpa [cellsI] using hown
structure SaR (w : World) (b : Bool) (fa : Option Addr) (nf fc : Nat) (ia : Option Addr) (ni ic : Nat) (sa : Option Addr) (ql sc : Nat) (I V : Nat → Int) (l : List It) (k : Nat) (lv iv lastv : Value) (wr : World) : Prop where
  bx : BxS w b fa nf fc ia ni ic sa ql sc wr
  mem : ∃ av, av 0 = iv ∧ Fm wr w.heap.size lv av I V (bs (l.take k)).z
  last : ∃ d : Int, lastv = .int .i64 d ∧ ∀ x, l[k]? = some x → x.f ≠ 0 → d = if k = 0 then -2 else ((bs (l.take k)).last : Int) - 1
theorem bstep_z0 {S : Bs} {x : It} (h : x.f = 0) : (bstep S x).z = zAdd S.z 0 x.n := by unfold bstep; rw [if_pos h]
theorem bstep_zl {S : Bs} {x : It} (h : x.f ≠ 0) (h2 : S.last = x.f) : (bstep S x).z = zAdd S.z S.z.nf x.n := by unfold bstep; rw [if_neg h, if_pos h2]
theorem bstep_zn {S : Bs} {x : It} (h : x.f ≠ 0) (h2 : ¬ S.last = x.f) : (bstep S x).z = zAdd (zNew S.z x.f) (S.z.nf + 1) x.n := by unfold bstep; rw [if_neg h, if_neg h2]
section
variable {w : World} {fs : List Fi} {l : List It} (b : Bool) (fa : Option Addr) (nf fc : Nat) (ia : Option Addr) (ni ic : Nat) (sa : Option Addr) (ql sc : Nat) (xa : Option Addr) (xn xc : Nat)
set_option maxRecDepth 100000 in
set_option maxHeartbeats 16000000 in
theorem rsame_any (hF : Fis w fa (fsZ (inoOf fs) (verOf fs) (bs l).z)) (hnf : nf = (bs l).z.nf) (hI : Ints w ia ((bs l).z.li 0)) (hni : ni = ((bs l).z.li 0).length) (hT : ItR w sa l) (hql : ql = l.length) (hq64 : ql ≤ 64)
    (hX : Fis w xa fs) (hxn : xn = fs.length) (hx3 : xn ≤ 300) (hb : ∀ x ∈ l, x.f ≤ fs.length) (hS : NdS l) :
    Calls Try.prog 14 #[pcV b fa nf fc ia ni ic, rpV b sa ql sc, .slice xa xn xc] w fun e w' => e = .returned (.bool true) ∧ Below w.heap.size w w' := by
  have HF := Lib.hid hF
  have HNf := Lib.hid hnf
  have HI := Lib.hid hI
  have HNi := Lib.hid hni
  have HT := Lib.hid hT
  have HQl := Lib.hid hql
  have HXs := Lib.hid hX
  have HXn := Lib.hid hxn
  have HBf := Lib.hid hb
  have HS := Lib.hid hS
  clear hF hnf hI hni hT hql hX hxn hb hS
  go_enter Try.func14, Try.ntmps14
  go_upto_region 1 with (fail)
  obtain ⟨wa, hwa⟩ : ∃ wa, w.alloc (.cells #[.bool b, .slice fa nf fc, .slice ia ni ic] PC) = wa := ⟨_, rfl⟩
  have hba : Below w.heap.size w wa := hwa ▸ sup_pc _ _
  have hta : Blo wa w.heap.size PC #[.bool b, .slice fa nf fc, .slice ia ni ic] := hwa ▸ blo_laid w _ _
  have hsa : wa.heap.size = w.heap.size + 1 := by rw [← hwa]; simp
  obtain ⟨w1, hw1⟩ : ∃ w1, wa.alloc (.cells #[.bool b, .slice sa ql sc] RPP) = w1 := ⟨_, rfl⟩
  have hb1 : Below wa.heap.size wa w1 := hw1 ▸ sup_pc _ _
  have hr1 : Blo w1 wa.heap.size RPP #[.bool b, .slice sa ql sc] := hw1 ▸ blo_laid wa _ _
  rw [hsa] at hr1
  have HR1 : Hid (SaR w b fa nf fc ia ni ic sa ql sc (inoOf fs) (verOf fs) l 0 (.slice none 0 0) (.slice none 0 0) (.int .i64 (-2)) w1) := ⟨⟨hta.later hb1, hr1, hba.trans (hb1.mono hba.size)⟩, ⟨fun _ => .slice none 0 0, rfl, fm_nil _ _ _ _⟩, ⟨-2, rfl, fun x _ _ => (if_pos rfl).symm⟩⟩
  rw [hwa, hw1]
  clear hwa hw1 hba hta hsa hb1 hr1
  go_wp2_with fail
  go_loopw [7, 8, 9, 10, 11] (fun av lastv iv lv _ wr => ∃ k : Nat, k ≤ ql ∧ av = .int .i64 k ∧ SaR w b fa nf fc ia ni ic sa ql sc (inoOf fs) (verOf fs) l k lv iv lastv wr) (fun av _ _ _ _ _ => ql - (intOf av).toNat)
  case atStart => exact ⟨0, Nat.zero_le _, rfl, HR1.out⟩
  case round =>
    clear HR1
    obtain ⟨k, hk, rfl, hbx, ⟨av, rfl, hM⟩, ⟨d, rfl, hd⟩⟩ := hrel
    obtain ⟨Sk, hSk⟩ : ∃ Sk, bs (l.take k) = Sk := ⟨_, rfl⟩
    have hbok := bs_ok (l.take k)
    have hbn := bs_n (l.take k)
    rw [List.length_take, Nat.min_eq_left (by have := HQl.out; omega)] at hbn
    have hsum := bs_sum (l.take k)
    rw [hSk] at hbok hbn hM hd hsum
    have HSum := Lib.hid hsum
    have HBn := Lib.hid hbn
    obtain ⟨q, hq⟩ : ∃ q, Sk.z.nf = q := ⟨_, rfl⟩
    have hnfk := hbok.nf
    have hlik := hbok.li
    have hcurk := hbok.cur
    rw [hbn] at hnfk
    rw [hq] at hnfk hcurk
    have hrow := hM.row
    rw [hq] at hrow
    obtain ⟨lg, lc, rfl, -⟩ := own_slice hrow
    obtain ⟨ig, ic2, hig, -⟩ := own_slice (hM.ints 0 (Nat.zero_le _))
    obtain ⟨mi, hmi⟩ : ∃ mi, (Sk.z.li 0).length = mi := ⟨_, rfl⟩
    have hmi9 := hlik 0
    rw [hbn, hmi] at hmi9
    rw [hmi] at hig
    simp only [hig]
    have c1 := hbx.bw.cell 1
    simp at c1
    have HBx := Lib.hid hbx
    have HM := Lib.hid hM
    have HD := Lib.hid hd
    have HSk := Lib.hid hSk
    have HQ := Lib.hid hq
    have HMi := Lib.hid hmi
    have HIg := Lib.hid hig
    have hsz : w.heap.size ≤ wr.heap.size := hbx.below.size
    clear hbx hM hd hSk hq hmi hig hbok hbn hrow hsum
    by_cases hlt : k < ql
    · have hkl : k < l.length := by rw [← HQl.out]; exact hlt
      obtain ⟨x, hx⟩ : ∃ x, l[k]? = some x := ⟨l[k], List.getElem?_eq_getElem hkl⟩
      obtain ⟨ib, io, rfl, d1, d2⟩ := HT.out k x hx
      have d1 := cell_later HBx.out.below d1
      have d2 := cell_later HBx.out.below d2
      have HX := Lib.hid hx
      have hxb := HBf.out x (List.mem_of_getElem? hx)
      have hbt := bs_take l k x hx
      rw [HSk.out] at hbt
      have HBt := Lib.hid hbt
      have k0 : (0 : Int) ≤ (k : Int) := by omega
      have k1 : (k : Int) < (ql : Int) := by omega
      have hbl := blo_laid wr 62 #[.int .i64 ((x.f : Int) - 1), .int .i64 x.n]
      have hb2 := sup_pc wr (.cells #[.int .i64 ((x.f : Int) - 1), .int .i64 x.n] 62)
      have HBl := Lib.hid hbl
      have HM2 := Lib.hid (HM.out.later hb2)
      have HBx2 := Lib.hid (HBx.out.later hb2)
      clear hx hbl hb2 hbt HM HBx
      go_upto_region 7 with (fail)
      clear c1 d1 d2
      generalize wr.alloc (.cells #[.int .i64 ((x.f : Int) - 1), .int .i64 x.n] 62) = w2 at *
      generalize wr.heap.size = xb at *
      have y0 := HBl.out.cell 0
      have y1 := HBl.out.cell 1
      simp at y0 y1
      by_cases hx0 : x.f = 0
      · have j1 : ((x.f : Int) - 1) < 0 := by omega
        have hb3 := sup_pc w2 (.cells #[.int .i64 x.n] IT)
        have HM3 := Lib.hid (HM2.out.later hb3)
        have HBx3 := Lib.hid (HBx2.out.later hb3)
        have HO3 : Hid ((w2.alloc (.cells #[.int .i64 x.n] IT)).ownsRow w.heap.size IT 1 (.slice ig mi ic2) mi (cellsI (Sk.z.li 0))) := by
          have := HM3.out.ints 0 (Nat.zero_le _)
          rw [HIg.out, HMi.out] at this
          exact this
        have hz3 := HBx3.out.below.size
        clear hb3 HM2 HBx2
        go_wp2_with (at_builtin; refine wp_append_rowO rfl (.tmp 27) (.tmp 30) 23 rfl w.heap.size IT _ 1 8 Try.underlying23 info_it (by kernel_rfl) (by decide) (by decide) (.slice ig mi ic2) mi _ rfl HO3.out (some ⟨w2.heap.size, 0, none⟩) 1 1 (cellsI [x.n]) rfl rfl (laid_srcO w2 IT _ _ rfl) (ints_one _) (fun h => by cases h) (by omega) hz3 ?_; intro a3 cap3 w7 hown hgrow hat; have HBx7 := Lib.hid (HBx3.out.grown HO3.out (by decide) (by decide) hgrow); have HM7 := Lib.hid (HM3.out.addI (x := x.n) (v' := .slice a3 (mi + 1) cap3) (by rw [HMi.out]; simpa [cellsI] using hown) (by rw [HIg.out]; exact hgrow) (by rw [HIg.out]; exact hat.imp id (fun e g5 e5 => by rw [e] at e5; cases e5; exact Nat.le_refl _))); clear hown hgrow hat HM3 HBx3 HO3 hz3 y0 y1)
        go_roundw
        case rel =>
          refine ⟨k + 1, by omega, by simp, HBx7.out, ⟨upd av 0 (.slice a3 (mi + 1) cap3), upd_at _ _ _, ?_⟩, ⟨d, rfl, fun y hy hy0 => absurd (HS.out k (k + 1) x y (Nat.lt_succ_self k) HX.out hy hx0) hy0⟩⟩
          rw [HBt.out, bstep_z0 hx0, show Value.slice lg q lc = Value.slice lg q lc from rfl]
          exact HM7.out
        case measure => simp [intOf]; omega
      · have j1 : ¬ ((x.f : Int) - 1) < 0 := by omega
        obtain ⟨f1, hf1⟩ : ∃ f1, x.f = f1 + 1 := ⟨x.f - 1, by omega⟩
        have e1 : (x.f : Int) - 1 = (f1 : Int) := by rw [hf1]; omega
        rw [e1] at y0 j1 HBl
        simp only [e1]
        have hd := HD.out x HX.out hx0
        have hfl : f1 < fs.length := by omega
        obtain ⟨hb0, ho, hc, hcp, rfl, h0, h1, -, -⟩ := (HXs.out.later HBx2.out.below).at hfl
        have hI1 : inoOf fs x.f = (fs.getD f1 fi0).ino := by unfold inoOf; rw [hf1, Nat.add_sub_cancel]
        have hV1 : verOf fs x.f = (fs.getD f1 fi0).ver := by unfold verOf; rw [hf1, Nat.add_sub_cancel]
        obtain ⟨xi, hxi⟩ : ∃ xi, (fs.getD f1 fi0).ino = xi := ⟨_, rfl⟩
        obtain ⟨xv, hxv⟩ : ∃ xv, (fs.getD f1 fi0).ver = xv := ⟨_, rfl⟩
        rw [hxi] at h0 hI1
        rw [hxv] at h1 hV1
        have hxn2 : f1 < xn := by rw [HXn.out]; exact hfl
        have f0 : (0 : Int) ≤ (f1 : Int) := by omega
        have f2 : (f1 : Int) < (xn : Int) := by omega
        have f3 : ¬ xn ≤ f1 := by omega
        clear hxi hxv hfl hxb
        by_cases hdx : d = (f1 : Int)
        · have hk0 : k ≠ 0 := fun e => by rw [if_pos e] at hd; omega
          rw [if_neg hk0] at hd
          have hla : Sk.last = x.f := by omega
          obtain ⟨hq0, -, -⟩ := hcurk (by omega)
          obtain ⟨m, rfl⟩ : ∃ m, q = m + 1 := ⟨q - 1, by omega⟩
          have HZ : Hid ((bstep Sk x).z = zAdd Sk.z (m + 1) x.n) := by
            show _ = _
            rw [bstep_zl hx0 hla, HQ.out]
          obtain ⟨zq, hzq⟩ : ∃ zq, Sk.z = zq := ⟨_, rfl⟩
          rw [hzq] at HZ HM2
          have HZq : Hid (zq.nf = m + 1) := by rw [← hzq]; exact HQ
          have hlj : (zq.li (m + 1)).length ≤ 64 := by rw [← hzq]; have := hlik (m + 1); have := HBn.out; omega
          subst hdx
          have jn : ((f1 : Int) != (f1 : Int)) = false := by simp
          clear hlik hcurk hd hla hzq
          have hrw := HM2.out.row
          rw [HZq.out] at hrw
          obtain ⟨ga, ca, hga, -⟩ := own_some hrw (Nat.succ_pos m)
          cases hga
          clear hrw
          have HA0 : Hid (av 0 = .slice ig mi ic2) := HIg
          obtain ⟨bl, hbl⟩ : ∃ bl, (zq.li (m + 1)).length = bl := ⟨_, rfl⟩
          have hbi := HM2.out.ints (m + 1) (by rw [HZq.out]; exact Nat.le_refl _)
          rw [hbl] at hbi hlj
          obtain ⟨bg, bc, hbg, -⟩ := own_slice hbi
          rw [hbg] at hbi
          obtain ⟨x1, x2⟩ := HM2.out.at HZq.out (Nat.lt_succ_self m)
          rw [hbg] at x1
          have HAv := Lib.hid hbg
          have HBl9 := Lib.hid hbl
          have hb9 := sup_pc w2.drew (.cells #[.int .i64 x.n] IT)
          have HM9 := Lib.hid ((HM2.out.later (Below.refl _ _).drew).later hb9)
          have HBx9 := Lib.hid ((HBx2.out.later (Below.refl _ _).drew).later hb9)
          have HOw := Lib.hid (own_later (own_later hbi (Below.refl _ _).drew) hb9)
          have hz9 := HBx9.out.below.size
          have wm : IntKind.i64.wrap (m : Int) = (m : Int) := IntWalk.i64_in _ (by omega)
          have m0 : (0 : Int) ≤ (m : Int) := by omega
          have m1 : (m : Int) < (m : Int) + 1 := by omega
          have m2 : ¬ ((m : Int) + 1 ≤ (m : Int)) := by omega
          clear hbi hbg hbl hb9 x2 HM2 HBx2
          go_wp2_with fail
          obtain ⟨TL, hTL⟩ : ∃ TL : List (Nat × Value), TL = [(0, .slice (some ⟨ga, 0, none⟩) (m + 1) lc), (1, .slice (some ⟨ga, 0, none⟩) (m + 1) lc), (2, .int .i64 ((m : Int) + 1)), (3, .int .i64 (m : Int)), (4, .slice (some ⟨ga, 0, none⟩) (m + 1) lc), (5, .slice (some ⟨ga, 0, none⟩) (m + 1) lc), (6, .int .i64 ((m : Int) + 1)), (7, .int .i64 (m : Int)), (8, .pointer (some ⟨ga, m * 3, none⟩)), (9, .pointer (some ⟨ga, m * 3 + 2, none⟩)), (10, .slice bg bl bc), (11, .pointer (some ⟨xb, 1, none⟩)), (12, .int .i64 x.n), (13, .slice (some ⟨w2.heap.size, 0, none⟩) 1 1)] := ⟨_, rfl⟩
          obtain ⟨CL, hCL⟩ : ∃ CL : Nat → List Nat, CL = fun i => if i = 13 then [12] else if i = 14 then [10, 12, 13] else [] := ⟨_, rfl⟩
          refine wp_region_inv (n := 15) [(0, 54), (1, 55), (2, 56), (3, 57), (4, 58), (5, 59), (6, 60), (7, 61), (8, 62), (9, 63), (10, 64), (11, 65), (12, 66), (13, 67), (14, 68)] (PhI TL CL w2.drew (.cells #[.int .i64 x.n] IT) 13 14 (Rst ga (m * 3 + 2) (bl + 1) (.slice bg bl bc) fun W => BxS w b fa nf fc ia ni ic (some ⟨ib, io, none⟩) ql sc W ∧ ∃ av', av' 0 = .slice ig mi ic2 ∧ Fm W w.heap.size (.slice (some ⟨ga, 0, none⟩) (m + 1) lc) av' (inoOf fs) (verOf fs) (zAdd zq (m + 1) x.n))) (by kernel_rfl) (by kernel_rfl) (by kernel_rfl) (fun X => by simp only [putL, Act.put, List.setIfInBounds_toArray, List.set_cons_zero, List.set_cons_succ]; rfl) (fun X => PhI.start) ?_ ?_
          · show StepsI _ _ _ _ _ 0 [_, _, _, _, _, _, _, _, _, _, _, _, _, _, _]
            refine ⟨fun D X W hDi hd hI K hK => ?_, ?_⟩
            · exact stepO_run (v := .slice (some ⟨ga, 0, none⟩) (m + 1) lc) (w' := W) (by simp [Region.wanted]) (by simp [go_sem, execOp]) (hK _ _ (hI.tell 0 _ (by decide) (by decide) (by simp [hTL]) (fun a ha => by simp [hCL] at ha)))
            refine ⟨fun D X W hDi hd hI K hK => ?_, ?_⟩
            · exact stepO_run (v := .slice (some ⟨ga, 0, none⟩) (m + 1) lc) (w' := W) (by simp [Region.wanted]) (by simp [go_sem, execOp]) (hK _ _ (hI.tell 1 _ (by decide) (by decide) (by simp [hTL]) (fun a ha => by simp [hCL] at ha)))
            refine ⟨fun D X W hDi hd hI K hK => ?_, ?_⟩
            · have a1 := hI.dt (1, .slice (some ⟨ga, 0, none⟩) (m + 1) lc) (by simp [hTL]) (hd ⟨1, .data⟩ (by simp) rfl)
              exact stepO_run (v := .int .i64 ((m : Int) + 1)) (w' := W) (by simp [Region.wanted]) (by simp [go_sem, execOp, a1]) (hK _ _ (hI.tell 2 _ (by decide) (by decide) (by simp [hTL]) (fun a ha => by simp [hCL] at ha)))
            refine ⟨fun D X W hDi hd hI K hK => ?_, ?_⟩
            · have a2 := hI.dt (2, .int .i64 ((m : Int) + 1)) (by simp [hTL]) (hd ⟨2, .data⟩ (by simp) rfl)
              exact stepO_run (v := .int .i64 (m : Int)) (w' := W) (by simp [Region.wanted]) (by simp [go_sem, execOp, a2, wm]) (hK _ _ (hI.tell 3 _ (by decide) (by decide) (by simp [hTL]) (fun a ha => by simp [hCL] at ha)))
            refine ⟨fun D X W hDi hd hI K hK => ?_, ?_⟩
            · exact stepO_run (v := .slice (some ⟨ga, 0, none⟩) (m + 1) lc) (w' := W) (by simp [Region.wanted]) (by simp [go_sem, execOp]) (hK _ _ (hI.tell 4 _ (by decide) (by decide) (by simp [hTL]) (fun a ha => by simp [hCL] at ha)))
            refine ⟨fun D X W hDi hd hI K hK => ?_, ?_⟩
            · exact stepO_run (v := .slice (some ⟨ga, 0, none⟩) (m + 1) lc) (w' := W) (by simp [Region.wanted]) (by simp [go_sem, execOp]) (hK _ _ (hI.tell 5 _ (by decide) (by decide) (by simp [hTL]) (fun a ha => by simp [hCL] at ha)))
            refine ⟨fun D X W hDi hd hI K hK => ?_, ?_⟩
            · have a5 := hI.dt (5, .slice (some ⟨ga, 0, none⟩) (m + 1) lc) (by simp [hTL]) (hd ⟨5, .data⟩ (by simp) rfl)
              exact stepO_run (v := .int .i64 ((m : Int) + 1)) (w' := W) (by simp [Region.wanted]) (by simp [go_sem, execOp, a5]) (hK _ _ (hI.tell 6 _ (by decide) (by decide) (by simp [hTL]) (fun a ha => by simp [hCL] at ha)))
            refine ⟨fun D X W hDi hd hI K hK => ?_, ?_⟩
            · have a6 := hI.dt (6, .int .i64 ((m : Int) + 1)) (by simp [hTL]) (hd ⟨6, .data⟩ (by simp) rfl)
              exact stepO_run (v := .int .i64 (m : Int)) (w' := W) (by simp [Region.wanted]) (by simp [go_sem, execOp, a6, wm]) (hK _ _ (hI.tell 7 _ (by decide) (by decide) (by simp [hTL]) (fun a ha => by simp [hCL] at ha)))
            refine ⟨fun D X W hDi hd hI K hK => ?_, ?_⟩
            · have a4 := hI.dt (4, .slice (some ⟨ga, 0, none⟩) (m + 1) lc) (by simp [hTL]) (hd ⟨4, .data⟩ (by simp) rfl)
              have a7 := hI.dt (7, .int .i64 (m : Int)) (by simp [hTL]) (hd ⟨7, .data⟩ (by simp) rfl)
              exact stepO_run (v := .pointer (some ⟨ga, m * 3, none⟩)) (w' := W) (by simp [Region.wanted]) (by simp [go_sem, execOp, a4, a7, m2]) (hK _ _ (hI.tell 8 _ (by decide) (by decide) (by simp [hTL]) (fun a ha => by simp [hCL] at ha)))
            refine ⟨fun D X W hDi hd hI K hK => ?_, ?_⟩
            · have a8 := hI.dt (8, .pointer (some ⟨ga, m * 3, none⟩)) (by simp [hTL]) (hd ⟨8, .data⟩ (by simp) rfl)
              exact stepO_run (v := .pointer (some ⟨ga, m * 3 + 2, none⟩)) (w' := W) (by simp [Region.wanted]) (by simp [go_sem, execOp, a8]) (hK _ _ (hI.tell 9 _ (by decide) (by decide) (by simp [hTL]) (fun a ha => by simp [hCL] at ha)))
            refine ⟨fun D X W hDi hd hI K hK => ?_, ?_⟩
            · have a9 := hI.dt (9, .pointer (some ⟨ga, m * 3 + 2, none⟩)) (by simp [hTL]) (hd ⟨9, .data⟩ (by simp) rfl)
              have cW := hI.cell (i := 10) (by simp [hCL]) hDi x1
              exact stepO_run (v := .slice bg bl bc) (w' := W) (by simp [Region.wanted]) (by simp [go_sem, execOp, a9, cW]) (hK _ _ (hI.tell 10 _ (by decide) (by decide) (by simp [hTL]) (fun a ha => by simp [hCL] at ha)))
            refine ⟨fun D X W hDi hd hI K hK => ?_, ?_⟩
            · exact stepO_run (v := .pointer (some ⟨xb, 1, none⟩)) (w' := W) (by simp [Region.wanted]) (by simp [go_sem, execOp]) (hK _ _ (hI.tell 11 _ (by decide) (by decide) (by simp [hTL]) (fun a ha => by simp [hCL] at ha)))
            refine ⟨fun D X W hDi hd hI K hK => ?_, ?_⟩
            · have a11 := hI.dt (11, .pointer (some ⟨xb, 1, none⟩)) (by simp [hTL]) (hd ⟨11, .data⟩ (by simp) rfl)
              have cW := hI.cell (i := 12) (by simp [hCL]) hDi y1
              exact stepO_run (v := .int .i64 x.n) (w' := W) (by simp [Region.wanted]) (by simp [go_sem, execOp, a11, cW]) (hK _ _ (hI.tell 12 _ (by decide) (by decide) (by simp [hTL]) (fun a ha => by simp [hCL] at ha)))
            refine ⟨fun D X W hDi hd hI K hK => ?_, ?_⟩
            · have a12 := hI.dt (12, .int .i64 x.n) (by simp [hTL]) (hd ⟨12, .data⟩ (by simp) rfl)
              obtain ⟨hE, hA⟩ := hI.lay (.slice (some ⟨w2.heap.size, 0, none⟩) 1 1) hDi (by decide) (by simp [hCL]) (by simp [hTL]) (fun a ha => by simp [hCL] at ha; subst ha <;> first | exact hd ⟨12, .data⟩ (by simp) rfl)
              subst hE
              exact stepO_run (v := .slice (some ⟨w2.heap.size, 0, none⟩) 1 1) (w' := w2.drew.alloc (.cells #[.int .i64 x.n] IT)) (by simp [Region.wanted]) (by simp [go_sem, execOp, a12]) (hK _ _ hA)
            refine ⟨fun D X W hDi hd hI K hK => ?_, ?_⟩
            · have a10 := hI.dt (10, .slice bg bl bc) (by simp [hTL]) (hd ⟨10, .data⟩ (by simp) rfl)
              have a13 := hI.dt (13, .slice (some ⟨w2.heap.size, 0, none⟩) 1 1) (by simp [hTL]) (hd ⟨13, .data⟩ (by simp) rfl)
              obtain ⟨hE, hA⟩ := hI.app (hd ⟨13, .data⟩ (by simp) rfl) hDi (by decide) (by simp [hTL]) (fun a ha => by simp [hCL] at ha; rcases ha with rfl | rfl | rfl <;> first | exact hd ⟨10, .data⟩ (by simp) rfl | exact hI.cl 13 (hd ⟨13, .data⟩ (by simp) rfl) 12 (by simp [hCL]) | exact hd ⟨13, .data⟩ (by simp) rfl)
              subst hE
              have a10 := hI.dt (10, .slice bg bl bc) (by simp [hTL]) (hd ⟨10, .data⟩ (by simp) rfl)
              have a13 := hI.dt (13, .slice (some ⟨w2.heap.size, 0, none⟩) 1 1) (by simp [hTL]) (hd ⟨13, .data⟩ (by simp) rfl)
              refine step_append_row (by rfl) (.tmp 64) (.tmp 67) 23 (by rfl) w.heap.size IT _ 1 8 Try.underlying23 info_it (by kernel_rfl) (by decide) (by decide) (.slice bg bl bc) bl _ (by simp [go_sem, a10]) HOw.out (some ⟨w2.heap.size, 0, none⟩) 1 1 (cellsI [x.n]) (by simp [go_sem, a13]) (by rfl) (laid_srcO w2.drew IT _ _ rfl) (ints_one _) (fun h => by cases h) (by omega) hz9 (fun v' w7 hown hgrow hat => ?_)
              obtain ⟨gf, cf, rfl, hgf⟩ := own_slice hown
              exact hK _ _ (hA _ _ (rst_done HBx9.out HM9.out HZq.out HAv.out HBl9.out HA0.out hown hgrow (hat.imp id (fun e g5 e5 => by rw [e] at e5; cases e5; exact Nat.le_refl _)) ⟨gf, cf, rfl⟩))
            exact True.intro
          · intro D X W hD hI
            obtain ⟨a9, c9, a14, z1, z2, hx9, hm9⟩ := hI.at2 (hD 14 (by decide))
            have a0 : X 0 = .slice (some ⟨ga, 0, none⟩) (m + 1) lc := hI.dt (0, .slice (some ⟨ga, 0, none⟩) (m + 1) lc) (by simp [hTL]) (hD 0 (by decide))
            have a3 : X 3 = .int .i64 (m : Int) := hI.dt (3, .int .i64 (m : Int)) (by simp [hTL]) (hD 3 (by decide))
            rw [a14] at hx9 hm9
            have HBxE := Lib.hid hx9
            have HME := Lib.hid hm9
            clear hI hD hTL hCL hx9 hm9 HOw HM9 HBx9 hz9
            go_wp2_with fail
            go_roundw
            case rel =>
              have hb := HBxE.out
              obtain ⟨av', hav, hm⟩ := HME.out
              refine ⟨k + 1, by omega, by simp, hb, ⟨av', hav, ?_⟩, ⟨(f1 : Int), rfl, fun y _ _ => ?_⟩⟩
              · rw [HBt.out, HZ.out]; exact hm
              · rw [if_neg (Nat.succ_ne_zero k), HBt.out, bstep_last, hf1]; omega
            case measure => simp [intOf]; omega
        · have hla : ¬ Sk.last = x.f := fun e => by
            by_cases hk0 : k = 0
            · subst hk0
              have : Sk.last = 0 := by rw [← HSk.out]; rfl
              omega
            · rw [if_neg hk0] at hd; omega
          have HZ : Hid ((bstep Sk x).z = zAdd (zNew Sk.z x.f) (q + 1) x.n) := by
            show _ = _
            rw [bstep_zn hx0 hla, HQ.out]
          have jn : ((f1 : Int) != d) = true := by
            simp only [bne_iff_ne, ne_eq]
            exact fun e => hdx e.symm
          have hb5 := sup_pc w2.drew (.cells #[.int .i64 xi, .int .i64 xv, .slice none 0 0] FN)
          have HM5 := Lib.hid ((HM2.out.later (Below.refl _ _).drew).later hb5)
          have HBx5 := Lib.hid ((HBx2.out.later (Below.refl _ _).drew).later hb5)
          have HBl5 := Lib.hid ((HBl.out.later (Below.refl _ _).drew).later hb5)
          have HOw : Hid ((w2.drew.alloc (.cells #[.int .i64 xi, .int .i64 xv, .slice none 0 0] FN)).ownsRow w.heap.size FN 3 (.slice lg q lc) q (flat3 q fun k => (.int .i64 (inoOf fs (Sk.z.fi k)), .int .i64 (verOf fs (Sk.z.fi k)), av (k + 1)))) := by
            have := HM5.out.row
            have e := HQ.out
            unfold Hid
            rw [e] at this
            exact this
          have hz5 := HBx5.out.below.size
          clear hlik hcurk hd hla hb5 HM2 HBx2
          go_upto_region 10 with (fail)
          obtain ⟨TL, hTL⟩ : ∃ TL : List (Nat × Value), TL = [(0, .slice lg q lc), (1, .slice (some ⟨hb0, ho, none⟩) xn xc), (2, .pointer (some ⟨xb, 0, none⟩)), (3, .int .i64 (f1 : Int)), (4, .pointer (some ⟨hb0, ho + f1 * 3, none⟩)), (5, .pointer (some ⟨hb0, ho + f1 * 3, none⟩)), (6, .int .i64 xi), (7, .slice (some ⟨hb0, ho, none⟩) xn xc), (8, .pointer (some ⟨xb, 0, none⟩)), (9, .int .i64 (f1 : Int)), (10, .pointer (some ⟨hb0, ho + f1 * 3, none⟩)), (11, .pointer (some ⟨hb0, ho + f1 * 3 + 1, none⟩)), (12, .int .i64 xv), (13, .agg #[.int .i64 xi, .int .i64 xv, .slice none 0 0]), (14, .slice (some ⟨w2.heap.size, 0, none⟩) 1 1)] := ⟨_, rfl⟩
          obtain ⟨CL, hCL⟩ : ∃ CL : Nat → List Nat, CL = fun i => if i = 4 then [3] else if i = 5 then [3] else if i = 6 then [3] else if i = 10 then [9] else if i = 11 then [9] else if i = 12 then [9] else if i = 13 then [3, 6, 9, 12] else if i = 14 then [3, 6, 9, 12] else if i = 15 then [3, 6, 9, 12, 14] else [] := ⟨_, rfl⟩
          refine wp_region_inv (n := 16) [(0, 36), (1, 37), (2, 38), (3, 39), (4, 40), (5, 41), (6, 42), (7, 43), (8, 44), (9, 45), (10, 46), (11, 47), (12, 48), (13, 49), (14, 50), (15, 51)] (PhI TL CL w2.drew (.cells #[.int .i64 xi, .int .i64 xv, .slice none 0 0] FN) 14 15 (Rap (q + 1) fun v W => BxS w b fa nf fc ia ni ic (some ⟨ib, io, none⟩) ql sc W ∧ Fm W w.heap.size v (upd av (q + 1) (.slice none 0 0)) (inoOf fs) (verOf fs) (zNew Sk.z x.f) ∧ Blo W xb 62 #[.int .i64 (f1 : Int), .int .i64 x.n])) (by kernel_rfl) (by kernel_rfl) (by kernel_rfl) (fun X => by simp only [putL, Act.put, List.setIfInBounds_toArray, List.set_cons_zero, List.set_cons_succ]; rfl) (fun X => PhI.start) ?_ ?_
          · show StepsI _ _ _ _ _ 0 [_, _, _, _, _, _, _, _, _, _, _, _, _, _, _, _]
            refine ⟨fun D X W hDi hd hI K hK => ?_, ?_⟩
            · exact stepO_run (v := .slice lg q lc) (w' := W) (by simp [Region.wanted]) (by simp [go_sem, execOp]) (hK _ _ (hI.tell 0 _ (by decide) (by decide) (by simp [hTL]) (fun a ha => by simp [hCL] at ha)))
            refine ⟨fun D X W hDi hd hI K hK => ?_, ?_⟩
            · exact stepO_run (v := .slice (some ⟨hb0, ho, none⟩) xn xc) (w' := W) (by simp [Region.wanted]) (by simp [go_sem, execOp]) (hK _ _ (hI.tell 1 _ (by decide) (by decide) (by simp [hTL]) (fun a ha => by simp [hCL] at ha)))
            refine ⟨fun D X W hDi hd hI K hK => ?_, ?_⟩
            · exact stepO_run (v := .pointer (some ⟨xb, 0, none⟩)) (w' := W) (by simp [Region.wanted]) (by simp [go_sem, execOp]) (hK _ _ (hI.tell 2 _ (by decide) (by decide) (by simp [hTL]) (fun a ha => by simp [hCL] at ha)))
            refine ⟨fun D X W hDi hd hI K hK => ?_, ?_⟩
            · have a2 := hI.dt (2, .pointer (some ⟨xb, 0, none⟩)) (by simp [hTL]) (hd ⟨2, .data⟩ (by simp) rfl)
              have cW := hI.cell (i := 3) (by simp [hCL]) hDi y0
              exact stepO_run (v := .int .i64 (f1 : Int)) (w' := W) (by simp [Region.wanted]) (by simp [go_sem, execOp, a2, cW]) (hK _ _ (hI.tell 3 _ (by decide) (by decide) (by simp [hTL]) (fun a ha => by simp [hCL] at ha)))
            refine ⟨fun D X W hDi hd hI K hK => ?_, ?_⟩
            · have a1 := hI.dt (1, .slice (some ⟨hb0, ho, none⟩) xn xc) (by simp [hTL]) (hd ⟨1, .data⟩ (by simp) rfl)
              have a3 := hI.dt (3, .int .i64 (f1 : Int)) (by simp [hTL]) (hd ⟨3, .data⟩ (by simp) rfl)
              exact stepO_run (v := .pointer (some ⟨hb0, ho + f1 * 3, none⟩)) (w' := W) (by simp [Region.wanted]) (by simp [go_sem, execOp, a1, a3, f3]) (hK _ _ (hI.tell 4 _ (by decide) (by decide) (by simp [hTL]) (fun a ha => by simp [hCL] at ha; subst ha <;> first | exact hd ⟨3, .data⟩ (by simp) rfl)))
            refine ⟨fun D X W hDi hd hI K hK => ?_, ?_⟩
            · have a4 := hI.dt (4, .pointer (some ⟨hb0, ho + f1 * 3, none⟩)) (by simp [hTL]) (hd ⟨4, .data⟩ (by simp) rfl)
              exact stepO_run (v := .pointer (some ⟨hb0, ho + f1 * 3, none⟩)) (w' := W) (by simp [Region.wanted]) (by simp [go_sem, execOp, a4]) (hK _ _ (hI.tell 5 _ (by decide) (by decide) (by simp [hTL]) (fun a ha => by simp [hCL] at ha; subst ha <;> first | exact hI.cl 4 (hd ⟨4, .data⟩ (by simp) rfl) 3 (by simp [hCL]))))
            refine ⟨fun D X W hDi hd hI K hK => ?_, ?_⟩
            · have a5 := hI.dt (5, .pointer (some ⟨hb0, ho + f1 * 3, none⟩)) (by simp [hTL]) (hd ⟨5, .data⟩ (by simp) rfl)
              have cW := hI.cell (i := 6) (by simp [hCL]) hDi h0
              exact stepO_run (v := .int .i64 xi) (w' := W) (by simp [Region.wanted]) (by simp [go_sem, execOp, a5, cW]) (hK _ _ (hI.tell 6 _ (by decide) (by decide) (by simp [hTL]) (fun a ha => by simp [hCL] at ha; subst ha <;> first | exact hI.cl 5 (hd ⟨5, .data⟩ (by simp) rfl) 3 (by simp [hCL]))))
            refine ⟨fun D X W hDi hd hI K hK => ?_, ?_⟩
            · exact stepO_run (v := .slice (some ⟨hb0, ho, none⟩) xn xc) (w' := W) (by simp [Region.wanted]) (by simp [go_sem, execOp]) (hK _ _ (hI.tell 7 _ (by decide) (by decide) (by simp [hTL]) (fun a ha => by simp [hCL] at ha)))
            refine ⟨fun D X W hDi hd hI K hK => ?_, ?_⟩
            · exact stepO_run (v := .pointer (some ⟨xb, 0, none⟩)) (w' := W) (by simp [Region.wanted]) (by simp [go_sem, execOp]) (hK _ _ (hI.tell 8 _ (by decide) (by decide) (by simp [hTL]) (fun a ha => by simp [hCL] at ha)))
            refine ⟨fun D X W hDi hd hI K hK => ?_, ?_⟩
            · have a8 := hI.dt (8, .pointer (some ⟨xb, 0, none⟩)) (by simp [hTL]) (hd ⟨8, .data⟩ (by simp) rfl)
              have cW := hI.cell (i := 9) (by simp [hCL]) hDi y0
              exact stepO_run (v := .int .i64 (f1 : Int)) (w' := W) (by simp [Region.wanted]) (by simp [go_sem, execOp, a8, cW]) (hK _ _ (hI.tell 9 _ (by decide) (by decide) (by simp [hTL]) (fun a ha => by simp [hCL] at ha)))
            refine ⟨fun D X W hDi hd hI K hK => ?_, ?_⟩
            · have a7 := hI.dt (7, .slice (some ⟨hb0, ho, none⟩) xn xc) (by simp [hTL]) (hd ⟨7, .data⟩ (by simp) rfl)
              have a9 := hI.dt (9, .int .i64 (f1 : Int)) (by simp [hTL]) (hd ⟨9, .data⟩ (by simp) rfl)
              exact stepO_run (v := .pointer (some ⟨hb0, ho + f1 * 3, none⟩)) (w' := W) (by simp [Region.wanted]) (by simp [go_sem, execOp, a7, a9, f3]) (hK _ _ (hI.tell 10 _ (by decide) (by decide) (by simp [hTL]) (fun a ha => by simp [hCL] at ha; subst ha <;> first | exact hd ⟨9, .data⟩ (by simp) rfl)))
            refine ⟨fun D X W hDi hd hI K hK => ?_, ?_⟩
            · have a10 := hI.dt (10, .pointer (some ⟨hb0, ho + f1 * 3, none⟩)) (by simp [hTL]) (hd ⟨10, .data⟩ (by simp) rfl)
              exact stepO_run (v := .pointer (some ⟨hb0, ho + f1 * 3 + 1, none⟩)) (w' := W) (by simp [Region.wanted]) (by simp [go_sem, execOp, a10]) (hK _ _ (hI.tell 11 _ (by decide) (by decide) (by simp [hTL]) (fun a ha => by simp [hCL] at ha; subst ha <;> first | exact hI.cl 10 (hd ⟨10, .data⟩ (by simp) rfl) 9 (by simp [hCL]))))
            refine ⟨fun D X W hDi hd hI K hK => ?_, ?_⟩
            · have a11 := hI.dt (11, .pointer (some ⟨hb0, ho + f1 * 3 + 1, none⟩)) (by simp [hTL]) (hd ⟨11, .data⟩ (by simp) rfl)
              have cW := hI.cell (i := 12) (by simp [hCL]) hDi h1
              exact stepO_run (v := .int .i64 xv) (w' := W) (by simp [Region.wanted]) (by simp [go_sem, execOp, a11, cW]) (hK _ _ (hI.tell 12 _ (by decide) (by decide) (by simp [hTL]) (fun a ha => by simp [hCL] at ha; subst ha <;> first | exact hI.cl 11 (hd ⟨11, .data⟩ (by simp) rfl) 9 (by simp [hCL]))))
            refine ⟨fun D X W hDi hd hI K hK => ?_, ?_⟩
            · have a6 := hI.dt (6, .int .i64 xi) (by simp [hTL]) (hd ⟨6, .data⟩ (by simp) rfl)
              have a12 := hI.dt (12, .int .i64 xv) (by simp [hTL]) (hd ⟨12, .data⟩ (by simp) rfl)
              exact stepO_run (v := .agg #[.int .i64 xi, .int .i64 xv, .slice none 0 0]) (w' := W) (by simp [Region.wanted]) (by simp [go_sem, execOp, a6, a12]) (hK _ _ (hI.tell 13 _ (by decide) (by decide) (by simp [hTL]) (fun a ha => by simp [hCL] at ha; rcases ha with rfl | rfl | rfl | rfl <;> first | exact hI.cl 6 (hd ⟨6, .data⟩ (by simp) rfl) 3 (by simp [hCL]) | exact hd ⟨6, .data⟩ (by simp) rfl | exact hI.cl 12 (hd ⟨12, .data⟩ (by simp) rfl) 9 (by simp [hCL]) | exact hd ⟨12, .data⟩ (by simp) rfl)))
            refine ⟨fun D X W hDi hd hI K hK => ?_, ?_⟩
            · have a13 := hI.dt (13, .agg #[.int .i64 xi, .int .i64 xv, .slice none 0 0]) (by simp [hTL]) (hd ⟨13, .data⟩ (by simp) rfl)
              obtain ⟨hE, hA⟩ := hI.lay (.slice (some ⟨w2.heap.size, 0, none⟩) 1 1) hDi (by decide) (by simp [hCL]) (by simp [hTL]) (fun a ha => by simp [hCL] at ha; rcases ha with rfl | rfl | rfl | rfl <;> first | exact hI.cl 13 (hd ⟨13, .data⟩ (by simp) rfl) 3 (by simp [hCL]) | exact hI.cl 13 (hd ⟨13, .data⟩ (by simp) rfl) 6 (by simp [hCL]) | exact hI.cl 13 (hd ⟨13, .data⟩ (by simp) rfl) 9 (by simp [hCL]) | exact hI.cl 13 (hd ⟨13, .data⟩ (by simp) rfl) 12 (by simp [hCL]))
              subst hE
              exact stepO_run (v := .slice (some ⟨w2.heap.size, 0, none⟩) 1 1) (w' := w2.drew.alloc (.cells #[.int .i64 xi, .int .i64 xv, .slice none 0 0] FN)) (by simp [Region.wanted]) (by simp [go_sem, execOp, a13]) (hK _ _ hA)
            refine ⟨fun D X W hDi hd hI K hK => ?_, ?_⟩
            · have a0 := hI.dt (0, .slice lg q lc) (by simp [hTL]) (hd ⟨0, .data⟩ (by simp) rfl)
              have a14 := hI.dt (14, .slice (some ⟨w2.heap.size, 0, none⟩) 1 1) (by simp [hTL]) (hd ⟨14, .data⟩ (by simp) rfl)
              obtain ⟨hE, hA⟩ := hI.app (hd ⟨14, .data⟩ (by simp) rfl) hDi (by decide) (by simp [hTL]) (fun a ha => by simp [hCL] at ha; rcases ha with rfl | rfl | rfl | rfl | rfl <;> first | exact hI.cl 14 (hd ⟨14, .data⟩ (by simp) rfl) 3 (by simp [hCL]) | exact hI.cl 14 (hd ⟨14, .data⟩ (by simp) rfl) 6 (by simp [hCL]) | exact hI.cl 14 (hd ⟨14, .data⟩ (by simp) rfl) 9 (by simp [hCL]) | exact hI.cl 14 (hd ⟨14, .data⟩ (by simp) rfl) 12 (by simp [hCL]) | exact hd ⟨14, .data⟩ (by simp) rfl)
              subst hE
              have a0 := hI.dt (0, .slice lg q lc) (by simp [hTL]) (hd ⟨0, .data⟩ (by simp) rfl)
              have a14 := hI.dt (14, .slice (some ⟨w2.heap.size, 0, none⟩) 1 1) (by simp [hTL]) (hd ⟨14, .data⟩ (by simp) rfl)
              refine step_append_row (by rfl) (.tmp 36) (.tmp 50) 22 (by rfl) w.heap.size FN _ 3 40 Try.underlying22 info_fn (by kernel_rfl) (by decide) (by decide) (.slice lg q lc) q _ (by simp [go_sem, a0]) HOw.out (some ⟨w2.heap.size, 0, none⟩) 1 1 [.int .i64 xi, .int .i64 xv, .slice none 0 0] (by simp [go_sem, a14]) (by rfl) (laid_srcO w2.drew FN _ _ rfl) (fn_one xi xv) (fun h => by cases h) (by omega) hz5 (fun v' w7 hown hgrow hat => ?_)
              obtain ⟨gf, cf, rfl, hgf⟩ := own_some hown (Nat.succ_pos _)
              exact hK _ _ (hA _ _ ⟨gf, cf, rfl, HBx5.out.grown HOw.out (by decide) (by decide) hgrow, HM5.out.newFile hI1 hV1 (by rw [HQ.out]; exact hown) hgrow |> (HQ.out ▸ ·), HBl5.out.grown hgrow (HBl5.out.row_apart HOw.out (by decide))⟩)
            exact True.intro
          · intro D X W hD hI
            obtain ⟨ga, ca, a15, hx7, hm7, hl7⟩ := hI.at2 (hD 15 (by decide))
            rw [a15] at hm7
            have HBx7 := Lib.hid hx7
            have HM7 := Lib.hid hm7
            have HBl7 := Lib.hid hl7
            clear hI hD hTL hCL hx7 hm7 hl7 HOw HM5 HBx5 HBl5 hz5
            simp only [a15]
            generalize W = wz at *
            have y1 := HBl7.out.cell 1
            have y0 := HBl7.out.cell 0
            simp at y0 y1
            go_wp2_with fail
            obtain ⟨m, hmq⟩ : ∃ m, q = m := ⟨_, rfl⟩
            subst hmq
            obtain ⟨zq, hzq⟩ : ∃ zq, zNew Sk.z x.f = zq := ⟨_, rfl⟩
            have HZq : Hid (zq.nf = q + 1) := by
              show _ = _
              rw [← hzq]; show Sk.z.nf + 1 = _; rw [HQ.out]
            have hlj : (zq.li (q + 1)).length ≤ 64 := by
              rw [← hzq, ← HQ.out]
              show (upd Sk.z.li (Sk.z.nf + 1) [] (Sk.z.nf + 1)).length ≤ 64
              rw [upd_at]; exact Nat.zero_le _
            rw [hzq] at HZ HM7
            have HA0 : Hid (upd av (q + 1) (.slice none 0 0) 0 = .slice ig mi ic2) := by
              show _ = _
              rw [upd_ne _ _ _ (by omega)]; exact HIg.out
            clear hzq
            obtain ⟨bl, hbl⟩ : ∃ bl, (zq.li (q + 1)).length = bl := ⟨_, rfl⟩
            have hbi := HM7.out.ints (q + 1) (by rw [HZq.out]; exact Nat.le_refl _)
            rw [hbl] at hbi hlj
            obtain ⟨bg, bc, hbg, -⟩ := own_slice hbi
            rw [hbg] at hbi
            obtain ⟨x1, x2⟩ := HM7.out.at HZq.out (Nat.lt_succ_self q)
            rw [hbg] at x1
            have HAv := Lib.hid hbg
            have HBl9 := Lib.hid hbl
            have hb9 := sup_pc wz.drew (.cells #[.int .i64 x.n] IT)
            have HM9 := Lib.hid ((HM7.out.later (Below.refl _ _).drew).later hb9)
            have HBx9 := Lib.hid ((HBx7.out.later (Below.refl _ _).drew).later hb9)
            have HOw := Lib.hid (own_later (own_later hbi (Below.refl _ _).drew) hb9)
            have hz9 := HBx9.out.below.size
            have wm : IntKind.i64.wrap (q : Int) = (q : Int) := IntWalk.i64_in _ (by omega)
            have m0 : (0 : Int) ≤ (q : Int) := by omega
            have m1 : (q : Int) < (q : Int) + 1 := by omega
            have m2 : ¬ ((q : Int) + 1 ≤ (q : Int)) := by omega
            clear hbi hbg hbl hb9 x2 HM7 HBx7
            obtain ⟨TL, hTL⟩ : ∃ TL : List (Nat × Value), TL = [(0, .slice (some ⟨ga, 0, none⟩) (q + 1) ca), (1, .slice (some ⟨ga, 0, none⟩) (q + 1) ca), (2, .int .i64 ((q : Int) + 1)), (3, .int .i64 (q : Int)), (4, .slice (some ⟨ga, 0, none⟩) (q + 1) ca), (5, .slice (some ⟨ga, 0, none⟩) (q + 1) ca), (6, .int .i64 ((q : Int) + 1)), (7, .int .i64 (q : Int)), (8, .pointer (some ⟨ga, q * 3, none⟩)), (9, .pointer (some ⟨ga, q * 3 + 2, none⟩)), (10, .slice bg bl bc), (11, .pointer (some ⟨xb, 1, none⟩)), (12, .int .i64 x.n), (13, .slice (some ⟨wz.heap.size, 0, none⟩) 1 1)] := ⟨_, rfl⟩
            obtain ⟨CL, hCL⟩ : ∃ CL : Nat → List Nat, CL = fun i => if i = 13 then [12] else if i = 14 then [10, 12, 13] else [] := ⟨_, rfl⟩
            refine wp_region_inv (n := 15) [(0, 54), (1, 55), (2, 56), (3, 57), (4, 58), (5, 59), (6, 60), (7, 61), (8, 62), (9, 63), (10, 64), (11, 65), (12, 66), (13, 67), (14, 68)] (PhI TL CL wz.drew (.cells #[.int .i64 x.n] IT) 13 14 (Rst ga (q * 3 + 2) (bl + 1) (.slice bg bl bc) fun W => BxS w b fa nf fc ia ni ic (some ⟨ib, io, none⟩) ql sc W ∧ ∃ av', av' 0 = .slice ig mi ic2 ∧ Fm W w.heap.size (.slice (some ⟨ga, 0, none⟩) (q + 1) ca) av' (inoOf fs) (verOf fs) (zAdd zq (q + 1) x.n))) (by kernel_rfl) (by kernel_rfl) (by kernel_rfl) (fun X => by simp only [putL, Act.put, List.setIfInBounds_toArray, List.set_cons_zero, List.set_cons_succ]; rfl) (fun X => PhI.start) ?_ ?_
            · show StepsI _ _ _ _ _ 0 [_, _, _, _, _, _, _, _, _, _, _, _, _, _, _]
              refine ⟨fun D X W hDi hd hI K hK => ?_, ?_⟩
              · exact stepO_run (v := .slice (some ⟨ga, 0, none⟩) (q + 1) ca) (w' := W) (by simp [Region.wanted]) (by simp [go_sem, execOp]) (hK _ _ (hI.tell 0 _ (by decide) (by decide) (by simp [hTL]) (fun a ha => by simp [hCL] at ha)))
              refine ⟨fun D X W hDi hd hI K hK => ?_, ?_⟩
              · exact stepO_run (v := .slice (some ⟨ga, 0, none⟩) (q + 1) ca) (w' := W) (by simp [Region.wanted]) (by simp [go_sem, execOp]) (hK _ _ (hI.tell 1 _ (by decide) (by decide) (by simp [hTL]) (fun a ha => by simp [hCL] at ha)))
              refine ⟨fun D X W hDi hd hI K hK => ?_, ?_⟩
              · have a1 := hI.dt (1, .slice (some ⟨ga, 0, none⟩) (q + 1) ca) (by simp [hTL]) (hd ⟨1, .data⟩ (by simp) rfl)
                exact stepO_run (v := .int .i64 ((q : Int) + 1)) (w' := W) (by simp [Region.wanted]) (by simp [go_sem, execOp, a1]) (hK _ _ (hI.tell 2 _ (by decide) (by decide) (by simp [hTL]) (fun a ha => by simp [hCL] at ha)))
              refine ⟨fun D X W hDi hd hI K hK => ?_, ?_⟩
              · have a2 := hI.dt (2, .int .i64 ((q : Int) + 1)) (by simp [hTL]) (hd ⟨2, .data⟩ (by simp) rfl)
                exact stepO_run (v := .int .i64 (q : Int)) (w' := W) (by simp [Region.wanted]) (by simp [go_sem, execOp, a2, wm]) (hK _ _ (hI.tell 3 _ (by decide) (by decide) (by simp [hTL]) (fun a ha => by simp [hCL] at ha)))
              refine ⟨fun D X W hDi hd hI K hK => ?_, ?_⟩
              · exact stepO_run (v := .slice (some ⟨ga, 0, none⟩) (q + 1) ca) (w' := W) (by simp [Region.wanted]) (by simp [go_sem, execOp]) (hK _ _ (hI.tell 4 _ (by decide) (by decide) (by simp [hTL]) (fun a ha => by simp [hCL] at ha)))
              refine ⟨fun D X W hDi hd hI K hK => ?_, ?_⟩
              · exact stepO_run (v := .slice (some ⟨ga, 0, none⟩) (q + 1) ca) (w' := W) (by simp [Region.wanted]) (by simp [go_sem, execOp]) (hK _ _ (hI.tell 5 _ (by decide) (by decide) (by simp [hTL]) (fun a ha => by simp [hCL] at ha)))
              refine ⟨fun D X W hDi hd hI K hK => ?_, ?_⟩
              · have a5 := hI.dt (5, .slice (some ⟨ga, 0, none⟩) (q + 1) ca) (by simp [hTL]) (hd ⟨5, .data⟩ (by simp) rfl)
                exact stepO_run (v := .int .i64 ((q : Int) + 1)) (w' := W) (by simp [Region.wanted]) (by simp [go_sem, execOp, a5]) (hK _ _ (hI.tell 6 _ (by decide) (by decide) (by simp [hTL]) (fun a ha => by simp [hCL] at ha)))
              refine ⟨fun D X W hDi hd hI K hK => ?_, ?_⟩
              · have a6 := hI.dt (6, .int .i64 ((q : Int) + 1)) (by simp [hTL]) (hd ⟨6, .data⟩ (by simp) rfl)
                exact stepO_run (v := .int .i64 (q : Int)) (w' := W) (by simp [Region.wanted]) (by simp [go_sem, execOp, a6, wm]) (hK _ _ (hI.tell 7 _ (by decide) (by decide) (by simp [hTL]) (fun a ha => by simp [hCL] at ha)))
              refine ⟨fun D X W hDi hd hI K hK => ?_, ?_⟩
              · have a4 := hI.dt (4, .slice (some ⟨ga, 0, none⟩) (q + 1) ca) (by simp [hTL]) (hd ⟨4, .data⟩ (by simp) rfl)
                have a7 := hI.dt (7, .int .i64 (q : Int)) (by simp [hTL]) (hd ⟨7, .data⟩ (by simp) rfl)
                exact stepO_run (v := .pointer (some ⟨ga, q * 3, none⟩)) (w' := W) (by simp [Region.wanted]) (by simp [go_sem, execOp, a4, a7, m2]) (hK _ _ (hI.tell 8 _ (by decide) (by decide) (by simp [hTL]) (fun a ha => by simp [hCL] at ha)))
              refine ⟨fun D X W hDi hd hI K hK => ?_, ?_⟩
              · have a8 := hI.dt (8, .pointer (some ⟨ga, q * 3, none⟩)) (by simp [hTL]) (hd ⟨8, .data⟩ (by simp) rfl)
                exact stepO_run (v := .pointer (some ⟨ga, q * 3 + 2, none⟩)) (w' := W) (by simp [Region.wanted]) (by simp [go_sem, execOp, a8]) (hK _ _ (hI.tell 9 _ (by decide) (by decide) (by simp [hTL]) (fun a ha => by simp [hCL] at ha)))
              refine ⟨fun D X W hDi hd hI K hK => ?_, ?_⟩
              · have a9 := hI.dt (9, .pointer (some ⟨ga, q * 3 + 2, none⟩)) (by simp [hTL]) (hd ⟨9, .data⟩ (by simp) rfl)
                have cW := hI.cell (i := 10) (by simp [hCL]) hDi x1
                exact stepO_run (v := .slice bg bl bc) (w' := W) (by simp [Region.wanted]) (by simp [go_sem, execOp, a9, cW]) (hK _ _ (hI.tell 10 _ (by decide) (by decide) (by simp [hTL]) (fun a ha => by simp [hCL] at ha)))
              refine ⟨fun D X W hDi hd hI K hK => ?_, ?_⟩
              · exact stepO_run (v := .pointer (some ⟨xb, 1, none⟩)) (w' := W) (by simp [Region.wanted]) (by simp [go_sem, execOp]) (hK _ _ (hI.tell 11 _ (by decide) (by decide) (by simp [hTL]) (fun a ha => by simp [hCL] at ha)))
              refine ⟨fun D X W hDi hd hI K hK => ?_, ?_⟩
              · have a11 := hI.dt (11, .pointer (some ⟨xb, 1, none⟩)) (by simp [hTL]) (hd ⟨11, .data⟩ (by simp) rfl)
                have cW := hI.cell (i := 12) (by simp [hCL]) hDi y1
                exact stepO_run (v := .int .i64 x.n) (w' := W) (by simp [Region.wanted]) (by simp [go_sem, execOp, a11, cW]) (hK _ _ (hI.tell 12 _ (by decide) (by decide) (by simp [hTL]) (fun a ha => by simp [hCL] at ha)))
              refine ⟨fun D X W hDi hd hI K hK => ?_, ?_⟩
              · have a12 := hI.dt (12, .int .i64 x.n) (by simp [hTL]) (hd ⟨12, .data⟩ (by simp) rfl)
                obtain ⟨hE, hA⟩ := hI.lay (.slice (some ⟨wz.heap.size, 0, none⟩) 1 1) hDi (by decide) (by simp [hCL]) (by simp [hTL]) (fun a ha => by simp [hCL] at ha; subst ha <;> first | exact hd ⟨12, .data⟩ (by simp) rfl)
                subst hE
                exact stepO_run (v := .slice (some ⟨wz.heap.size, 0, none⟩) 1 1) (w' := wz.drew.alloc (.cells #[.int .i64 x.n] IT)) (by simp [Region.wanted]) (by simp [go_sem, execOp, a12]) (hK _ _ hA)
              refine ⟨fun D X W hDi hd hI K hK => ?_, ?_⟩
              · have a10 := hI.dt (10, .slice bg bl bc) (by simp [hTL]) (hd ⟨10, .data⟩ (by simp) rfl)
                have a13 := hI.dt (13, .slice (some ⟨wz.heap.size, 0, none⟩) 1 1) (by simp [hTL]) (hd ⟨13, .data⟩ (by simp) rfl)
                obtain ⟨hE, hA⟩ := hI.app (hd ⟨13, .data⟩ (by simp) rfl) hDi (by decide) (by simp [hTL]) (fun a ha => by simp [hCL] at ha; rcases ha with rfl | rfl | rfl <;> first | exact hd ⟨10, .data⟩ (by simp) rfl | exact hI.cl 13 (hd ⟨13, .data⟩ (by simp) rfl) 12 (by simp [hCL]) | exact hd ⟨13, .data⟩ (by simp) rfl)
                subst hE
                have a10 := hI.dt (10, .slice bg bl bc) (by simp [hTL]) (hd ⟨10, .data⟩ (by simp) rfl)
                have a13 := hI.dt (13, .slice (some ⟨wz.heap.size, 0, none⟩) 1 1) (by simp [hTL]) (hd ⟨13, .data⟩ (by simp) rfl)
                refine step_append_row (by rfl) (.tmp 64) (.tmp 67) 23 (by rfl) w.heap.size IT _ 1 8 Try.underlying23 info_it (by kernel_rfl) (by decide) (by decide) (.slice bg bl bc) bl _ (by simp [go_sem, a10]) HOw.out (some ⟨wz.heap.size, 0, none⟩) 1 1 (cellsI [x.n]) (by simp [go_sem, a13]) (by rfl) (laid_srcO wz.drew IT _ _ rfl) (ints_one _) (fun h => by cases h) (by omega) hz9 (fun v' w7 hown hgrow hat => ?_)
                obtain ⟨gf, cf, rfl, hgf⟩ := own_slice hown
                exact hK _ _ (hA _ _ (rst_done HBx9.out HM9.out HZq.out HAv.out HBl9.out HA0.out hown hgrow (hat.imp id (fun e g5 e5 => by rw [e] at e5; cases e5; exact Nat.le_refl _)) ⟨gf, cf, rfl⟩))
              exact True.intro
            · intro D X W hD hI
              obtain ⟨a9, c9, a14, z1, z2, hx9, hm9⟩ := hI.at2 (hD 14 (by decide))
              have a0 : X 0 = .slice (some ⟨ga, 0, none⟩) (q + 1) ca := hI.dt (0, .slice (some ⟨ga, 0, none⟩) (q + 1) ca) (by simp [hTL]) (hD 0 (by decide))
              have a3 : X 3 = .int .i64 (q : Int) := hI.dt (3, .int .i64 (q : Int)) (by simp [hTL]) (hD 3 (by decide))
              rw [a14] at hx9 hm9
              have HBxE := Lib.hid hx9
              have HME := Lib.hid hm9
              clear hI hD hTL hCL hx9 hm9 HOw HM9 HBx9 hz9
              go_wp2_with fail
              go_roundw
              case rel =>
                have hb := HBxE.out
                obtain ⟨av', hav, hm⟩ := HME.out
                refine ⟨k + 1, by omega, by simp, hb, ⟨av', hav, ?_⟩, ⟨(f1 : Int), rfl, fun y _ _ => ?_⟩⟩
                · rw [HBt.out, HZ.out]; exact hm
                · rw [if_neg (Nat.succ_ne_zero k), HBt.out, bstep_last, hf1]; omega
              case measure => simp [intOf]; omega

    · have hkn : k = ql := by omega
      subst hkn
      have hS2 : bs l = Sk := by rw [← HSk.out, List.take_of_length_le (by have := HQl.out; omega)]
      have k9 : ¬ (k : Int) < (k : Int) := by omega
      have hnq : nf = q := by rw [HNf.out, hS2, HQ.out]
      have hnm : ni = mi := by rw [HNi.out, hS2, HMi.out]
      subst hnq hnm
      rw [← HBn.out] at hnfk hmi9
      have hn64 : Sk.n ≤ 64 := by rw [HBn.out]; exact hq64
      have hF2 := HF.out
      have hI2 := HI.out
      rw [hS2] at hF2 hI2
      have hM2 := HM.out
      have hI3 := hM2.ints 0 (Nat.zero_le _)
      rw [HIg.out, HMi.out] at hI3
      have HSm : Hid (∀ y : Kept wr, Calls Try.prog 13 #[part 0 0 0 0 0 fa nf fc ia ni ic, part 0 0 0 0 0 lg nf lc ig ni ic2] y.at_ fun e w' => e = .returned (.bool true) ∧ Below y.at_.heap.size y.at_ w') := fun y => by
        have hby := HBx.out.below.trans (y.below.mono HBx.out.below.size)
        exact same_yes (l := fsZ (inoOf fs) (verOf fs) Sk.z) (is := Sk.z.li 0) fa lg nf fc lc ia ig ni ic ic2 (hF2.later hby) (hM2.fis.later y.below) (by rw [fsZ_len, HQ.out]) (by omega) (fun u hu => by
          obtain ⟨j, hj, rfl⟩ := List.mem_map.1 hu
          have := hlik (j + 1)
          show (Sk.z.li (j + 1)).length ≤ _
          omega) (hI2.below hby) ((Ints.own hI3).below y.below) HMi.out.symm (by omega)
      have HBk : Hid (∀ y : Kept wr, Calls Try.prog 17 #[pcV b fa nf fc ia ni ic] y.at_ fun e w' => e = .returned (.int .i64 (2 + (k : Int))) ∧ Below y.at_.heap.size y.at_ w') := fun y => by
        have hby := HBx.out.below.trans (y.below.mono HBx.out.below.size)
        have := blocks_any (l := fsZ (inoOf fs) (verOf fs) Sk.z) fa nf fc ia ni ic b (hF2.later hby) (by rw [fsZ_len, HQ.out]) (by
          have hw := bs_wd_le (l.take k)
          rw [HSk.out, List.length_take] at hw
          have := HSum.out.wd
          have := HBn.out
          rw [szF_fsZ]
          omega) (by omega)
        rw [blF_fsZ] at this
        rw [show (2 + (k : Int)) = ((2 + ni + blZ Sk.z : Nat) : Int) from by
          have h1 := HSum.out.n
          rw [HBn.out, HMi.out] at h1
          omega]
        exact this
      have p0 : ∀ z : Kept wr, z.at_.cell? ⟨w.heap.size, 0, none⟩ = some (.bool b) := fun z => (HBx.out.bp.later z.below).cell 0
      have p1 : ∀ z : Kept wr, z.at_.cell? ⟨w.heap.size, 1, none⟩ = some (.slice fa nf fc) := fun z => (HBx.out.bp.later z.below).cell 1
      have p2 : ∀ z : Kept wr, z.at_.cell? ⟨w.heap.size, 2, none⟩ = some (.slice ia ni ic) := fun z => (HBx.out.bp.later z.below).cell 2
      have p3 : ∀ z : Kept wr, z.at_.cell? ⟨w.heap.size + 1, 0, none⟩ = some (.bool b) := fun z => (HBx.out.bw.later z.below).cell 0
      have p4 : ∀ z : Kept wr, z.at_.cell? ⟨w.heap.size + 1, 1, none⟩ = some (.slice sa k sc) := fun z => (HBx.out.bw.later z.below).cell 1
      have HL1 : Hid (∀ W, (∃ x : Kept wr, W = x.at_) → Blo W w.heap.size PC #[.bool b, .slice fa nf fc, .slice ia ni ic]) := fun W ⟨x, hx⟩ => by rw [hx]; exact HBx.out.bp.later x.below
      have hu1 := Try.underlying40
      have eb : (b == b) = true := by simp
      have eB : ((2 : Int) + (k : Int) == 2 + (k : Int)) = true := by simp
      clear hF2 hI2 hM2 hI3 hlik hcurk hS2
      go_upto_region 13 with (fail)
      clear c1
      refine wp_region_kept (by kernel_rfl) (by kernel_rfl) ?_
      repeat (first | go_big_quiet_step (first | (go_at_call 13; with_reducible exact kept_call _ (HSm.out _)) | (go_at_call 17; with_reducible exact kept_call _ (HBk.out _))) | simp only [eb] | simp only [eB])
      refine wpQuiet_nil ?_
      rintro W ⟨wz, rfl⟩
      have HB7 := Lib.hid (HBx.out.below.trans (wz.below.mono HBx.out.below.size))
      clear p0 p1 p2 p3 p4 HL1
      go_wp2
      go_ret
      exact ⟨rfl, HB7.out⟩
end
end Go.Proofs.Ytonlhkhjdnaojaa
