/-
  The walk of CacheKeeps.
-/
import Derived.Test.YtdnkeplmjimjcaaChKeF
import Derived.Deep.DeepCutAuto
import Derived.Deep.CutBlock
namespace Go.Proofs.Ytdnkeplmjimjcaa
open Go.RowKit

theorem play_no {room : Int} {L : List Bk} {x : OpC} (h : (playK room L x).2.1 ≠ 0) : (playK room L x).1 = L := by
  unfold playK at h ⊢
  by_cases h1 : x.k = 1
  · rw [if_pos h1] at h ⊢; exact put_no h
  rw [if_neg h1] at h ⊢
  by_cases h2 : x.k = 2
  · rw [if_pos h2] at h; exact absurd rfl h
  rw [if_neg h2] at h ⊢
  by_cases h3 : x.k = 3
  · rw [if_pos h3] at h ⊢; exact do_no h
  rw [if_neg h3] at h ⊢
  by_cases h4 : x.k = 4
  · rw [if_pos h4] at h ⊢; exact do_no h
  rw [if_neg h4] at h ⊢
  by_cases h5 : x.k = 5
  · rw [if_pos h5] at h ⊢; exact do_no h
  rw [if_neg h5] at h ⊢
  by_cases h6 : x.k = 6
  · rw [if_pos h6] at h ⊢; exact do_no h
  rw [if_neg h6]
def KeR (w : World) (bc bm : Nat) (r : Int) (md mp zl : Nat) (v : Value) (wr : World) : Prop :=
  ∃ (i : Nat) (L : List Bk) (fd : Int × Int → Option (Option Nat)) (nd : Nat) (kd : List (Int × Int)) (fp : Int × Int → Option Int) (np : Nat) (kp : List (Int × Int)), i ≤ 80 ∧ i ≤ zl ∧ v = .int .i64 (i : Int) ∧ KeS w bc bm r md mp i L L fd nd kd fp np kp wr
def KeC (w : World) (bc bm : Nat) (r : Int) (md mp i : Nat) (L : List Bk) (wx : World) : Prop :=
  ∃ (fd : Int × Int → Option (Option Nat)) (nd : Nat) (kd : List (Int × Int)) (fp : Int × Int → Option Int) (np : Nat) (kp : List (Int × Int)), KeS w bc bm r md mp i L L fd nd kd fp np kp wx
def ThR (w : World) (bc bm : Nat) (r : Int) (md mp i : Nat) (L : List Bk) (fd : Int × Int → Option (Option Nat)) (nd : Nat) (kd : List (Int × Int)) (fp : Int × Int → Option Int) (np : Nat) (kp : List (Int × Int)) (gt C : Nat) (la : Option Addr) (lc q : Nat) (ps : List (Int × Int)) (v : Value) (wr : World) : Prop :=
  ∃ t : Nat, t ≤ q ∧ v = .int .i64 (t : Int) ∧ KeS w bc bm r md mp i L L fd nd kd fp np kp wr ∧ KG elI wr gt t (thF ps t) (ps.take t) ∧ wr.ownsRow C KT 2 (.slice la q lc) q (flatP ps)
def ThF (ps : List (Int × Int)) (p : Int × Int) : Option Int := if p ∈ ps then some 1 else none
def DqR (w : World) (bc bm : Nat) (r : Int) (md mp i : Nat) (L : List Bk) (fd : Int × Int → Option (Option Nat)) (nd : Nat) (kd : List (Int × Int)) (fp : Int × Int → Option Int) (np : Nat) (kp : List (Int × Int)) (gt n C : Nat) (la : Option Addr) (lc q : Nat) (ps qs : List (Int × Int)) (v : Value) (wr : World) : Prop :=
  ∃ t : Nat, t ≤ q ∧ v = .int .i64 (t : Int) ∧ KeS w bc bm r md mp i L L fd nd kd fp np kp wr ∧ KG elI wr gt n (ThF ps) ps ∧ wr.ownsRow C KT 2 (.slice la q lc) q (flatP qs)
def RgR (w : World) (bc bm : Nat) (r : Int) (md mp i : Nat) (L : List Bk) (fd : Int × Int → Option (Option Nat)) (nd : Nat) (kd : List (Int × Int)) (fp : Int × Int → Option Int) (np : Nat) (kp : List (Int × Int)) (gt n rr : Nat) (ps : List (Int × Int)) (wr : World) : Prop :=
  ∃ (done : List (Int × Int)) (cnt : Nat), KeS w bc bm r md mp i L L fd nd kd fp np kp wr ∧ KG elI wr gt n (ThF ps) ps ∧ KGR elI wr mp rr np fp done cnt
def FnR (w : World) (bc bm : Nat) (r : Int) (md mp i : Nat) (fd : Int × Int → Option (Option Nat)) (nd : Nat) (kd : List (Int × Int)) (fp : Int × Int → Option Int) (np : Nat) (kp : List (Int × Int)) (C : Nat) (la : Option Addr) (lc q : Nat) (qs : List (Int × Int)) (v : Value) (wr : World) : Prop :=
  ∃ (t : Nat) (L : List Bk), t ≤ q ∧ v = .int .i64 (t : Int) ∧ KeS w bc bm r md mp (i + t) L L fd nd kd fp np kp wr ∧ wr.ownsRow C KT 2 (.slice la q lc) q (flatP qs)
set_option maxRecDepth 100000 in
set_option maxHeartbeats 8000000 in
theorem cacheKeeps_any (a : Int) (za : Option Addr) (zl zc : Nat) (F : Nat → OpC) (w : World) (hz : COps w za zl F) :
    Calls Try.prog 4 #[.int .i64 a, .slice za zl zc] w fun e w' => e = .returned (.bool true) ∧ Below w.heap.size w w' := by
  obtain ⟨m, hm, hme⟩ := cut_mod a 5 (by decide)
  have hme : wrap64 ((IntKind.u64.wrap a).tmod 6) = (m : Int) := hme
  obtain ⟨r, hr⟩ : ∃ r, r = m + 1 := ⟨_, rfl⟩
  have e2 : Hid ((m : Int) + 1 = (r : Int)) := by show (m : Int) + 1 = (r : Int); omega
  have hr1 : (1 : Int) ≤ (r : Int) := by omega
  have hr2 : (r : Int) ≤ 8 := by omega
  have HZ := Lib.hid hz
  have hzl := hz.1
  clear hr hz
  go_enter Try.func4, Try.ntmps4
  go_wp2_with fail
  refine (awake_any _).mono ?_
  rintro e w1 ⟨rfl, hb1⟩
  have HB1 := Lib.hid hb1
  clear hb1
  have hNew := Lib.hid (new_any (room := r) hr1 (by omega) w1)
  go_wp2_with fail
  try rw [hme]
  rw [e2.out]
  clear hme
  refine hNew.out.mono ?_
  rintro e w2 ⟨rfl, hn2, hb2⟩
  have hm1 : (Instr.makeMap 54 none).run Try.prog w2 = .ok (.map (some w2.heap.size)) (w2.alloc (.map #[] 0)) := rfl
  obtain ⟨w3, hw3⟩ : ∃ w3, w3 = w2.alloc (.map #[] 0) := ⟨_, rfl⟩
  have hs3 : w3.heap.size = w2.heap.size + 1 := by rw [hw3]; simp
  rw [← hw3] at hm1
  have hm2 : (Instr.makeMap 55 none).run Try.prog w3 = .ok (.map (some w3.heap.size)) (w3.alloc (.map #[] 0)) := rfl
  have HSt : Hid (KeR w (w1.heap.size + 1) w1.heap.size r w2.heap.size w3.heap.size zl (.int .i64 0) (w3.alloc (.map #[] 0))) := by
    have h1 := HB1.out.size
    have hCA : CA w2 (w1.heap.size + 1) w1.heap.size w.heap.size r 0 0 [] := hn2.ca hr1 (by omega) (by omega) h1
    have h2 := hb2.size
    have h3 := hn2.km.lt
    have hb3 : Below w2.heap.size w2 w3 := by rw [hw3]; exact sup_pc9 _ _
    have hd : KG elB w3 w2.heap.size 0 (fun _ => none) [] := by rw [hw3]; exact KG.made elB w2
    have hb4 : Below w3.heap.size w3 (w3.alloc (.map #[] 0)) := sup_pc9 _ _
    refine ⟨0, [], fun _ => none, 0, [], fun _ => none, 0, [], by omega, by omega, rfl, ⟨((⟨hCA, fun q hq => (by cases hq), HB1.out.trans (hb2.mono h1)⟩ : LwS w (w1.heap.size + 1) w1.heap.size r 0 0 [] [] w2).later hb3).later hb4, hd.later hb4, KG.made elI w3, fun _ => trivial, fun _ => rfl, ⟨Nat.le_refl _, Nat.le_refl _⟩, ⟨by omega, by omega, by omega⟩, ⟨by omega, by omega⟩⟩⟩
  clear hn2 hb2 HB1 hNew e2 hm hw3 hs3
  go_wp2_with fail
  clear hm1 hm2
  generalize w1.heap.size + 1 = bc at *
  generalize w1.heap.size = bm at *
  generalize w2.heap.size = md at *
  generalize w3.heap.size = mp at *
  go_loopw [9] (fun v wr => KeR w bc bm r md mp zl v wr) (fun v _ => zl - (intOf v).toNat)
  case atStart => exact HSt.out
  case round =>
    clear HSt
    obtain ⟨i, L, fd, nd, kd, fp, np, kp, hi80, hizl, rfl, hS⟩ := hrel
    have HS := Lib.hid hS
    clear hS
    have i0 : (0 : Int) ≤ (i : Int) := by omega
    by_cases hgo : i < zl ∧ i < 80
    · have i1 : (i : Int) < (zl : Int) := by omega
      have i2 : (i : Int) < 80 := by omega
      obtain ⟨zb, zo, ba, bn, bcp, hza, hop0, hcells0⟩ := HZ.out.2 i hgo.1
      have hop := hop0.below HS.out.lw.below
      have hcells := fun j v hj => cell_later HS.out.lw.below (hcells0 j v hj)
      subst hza
      obtain ⟨x, hx⟩ : ∃ x, F i = x := ⟨_, rfl⟩
      rw [hx] at hop hcells hop0
      obtain ⟨xk, ⟨k1, k2⟩, xb, raw, dirty⟩ := x
      have c0 : wr.cell? ⟨zb, zo + i * 6, none⟩ = some (.int .i64 xk) := hcells 0 _ rfl
      have c1 : wr.cell? ⟨zb, zo + i * 6 + 1, none⟩ = some (.int .i64 k1) := hcells 1 _ rfl
      have c2 : wr.cell? ⟨zb, zo + i * 6 + 2, none⟩ = some (.int .i64 k2) := hcells 2 _ rfl
      have c3 : wr.cell? ⟨zb, zo + i * 6 + 3, none⟩ = some (.slice ba bn bcp) := hcells 3 _ rfl
      have c4 : wr.cell? ⟨zb, zo + i * 6 + 4, none⟩ = some (.bool raw) := hcells 4 _ rfl
      have c5 : wr.cell? ⟨zb, zo + i * 6 + 5, none⟩ = some (.bool dirty) := hcells 5 _ rfl
      have HBw : Hid (BytesIn w ba bn bcp xb) := hop0.b
      have HOp := Lib.hid hop
      have HI := Lib.hid hgo
      clear hcells hcells0 hx hop hop0 hgo hi80 hizl
      go_upto_region 11 with (fail)
      go_upto_region 12 with (fail)
      clear c0 c1 c2 c3 c4 c5
      obtain ⟨wk, hwk⟩ : ∃ wk, wk = wr.alloc (.cells #[.int .i64 xk, .int .i64 k1, .int .i64 k2, .slice ba bn bcp, .bool raw, .bool dirty] OpTy) := ⟨_, rfl⟩
      rw [← hwk]
      have HBk : Hid (Below wr.heap.size wr wk) := by rw [hwk]; exact sup_pc9 wr _
      have HXk : Hid (Blo wk wr.heap.size OpTy #[.int .i64 xk, .int .i64 k1, .int .i64 k2, .slice ba bn bcp, .bool raw, .bool dirty]) := by rw [hwk]; exact blo_laid wr _ _
      clear hwk
      have HBz : Hid (∀ W, Below w.heap.size w W → BytesIn W ba bn bcp xb) := fun W hb => HBw.out.below hb
      obtain ⟨gb, hgb⟩ : ∃ gb, gb = wr.heap.size := ⟨_, rfl⟩
      rw [← hgb] at HXk ⊢
      have HGb := Lib.hid hgb
      clear hgb
      have d4 : wk.cell? ⟨gb, 4, none⟩ = some (.bool raw) := HXk.out.cell 4
      have f4 := HXk.out.frozen 4
      obtain ⟨w3, hw3⟩ : ∃ w3, w3 = wk.setCell ⟨gb, 4, none⟩ (.bool false) := ⟨_, rfl⟩
      have HB3 : Hid (Below wr.heap.size wr w3) := by rw [hw3]; exact HBk.out.setCell (p := ⟨gb, 4, none⟩) (by rw [HGb.out]; exact Nat.le_refl _) _
      have HX3 : Hid (Blo w3 gb OpTy #[.int .i64 xk, .int .i64 k1, .int .i64 k2, .slice ba bn bcp, .bool false, .bool dirty]) := by
        have := HXk.out.put 4 (.bool false)
        rw [hw3]
        exact this
      have HS3 := Lib.hid (HS.out.later HB3.out)
      have HOp3 : Hid (OpCIs w3 ba bn bcp ⟨xk, (k1, k2), xb, false, dirty⟩) := ⟨HOp.out.b.below HB3.out, HOp.out.wf⟩
      go_upto_region 13 with (fail)
      rw [← hw3]
      clear hw3 d4 f4 HXk HBk HS HGb HB3
      have d3 : w3.cell? ⟨gb, 3, none⟩ = some (.slice ba bn bcp) := HX3.out.cell 3
      by_cases hbig : 200 < bn
      · have hb1 : (bn : Int) > 200 := by omega
        have HF := Lib.hid HS3.out.up
        clear HX3 HS3
        have HR : Hid (KeR w bc bm r md mp zl (.int .i64 ((i : Int) + 1)) w3) := ⟨i + 1, _, _, _, _, _, _, _, by have := HI.out; omega, by have := HI.out; omega, rfl, HF.out⟩
        have HM := Lib.hid HI.out.1
        clear HF
        go_wp2_with fail
        go_roundw
        case rel => exact HR.out
        case measure => have := HM.out; simp [intOf]; omega
      · have hb1 : ¬ (bn : Int) > 200 := by omega
        have HPl := Lib.hid (play_any HS3.out.lw.ca HOp3.out (by show xb.length ≤ 200; have := HOp.out.b.1; have : bn = xb.length := this; omega) (by have := HI.out; omega) (by have := HI.out; omega))
        have e0 := HX3.out.cell 0
        have e1 := HX3.out.cell 1
        have e2 := HX3.out.cell 2
        have e3 := HX3.out.cell 3
        have e4 := HX3.out.cell 4
        have e5 := HX3.out.cell 5
        simp at e0 e1 e2 e3 e4 e5
        go_wp2_with fail
        refine HPl.out.mono ?_
        rintro e w4 ⟨hC4, ho4, hr4⟩
        clear e0 e1 e2 e3 e4 e5 d3
        have HX4 := Lib.hid (ho4.blo HX3.out (xc_op HS3.out.lw.ca HX3.out))
        have HS4 := Lib.hid (HS3.out.call hC4 ho4)
        have HNd := Lib.hid HS3.out.lw.ca.nodup
        have HPi : Hid (∀ s ∈ L, 0 ≤ s.pins) := fun s hs => (HS3.out.lw.ca.pins s hs).1
        have HPk := Lib.hid (HS3.out.lw.ca.pk (k1, k2))
        obtain ⟨P, hP⟩ : ∃ P, playK r L ⟨xk, (k1, k2), xb, false, dirty⟩ = P := ⟨_, rfl⟩
        rw [hP] at hr4 HS4
        have HP := Lib.hid hP
        have HC3 := Lib.hid HS3.out.cnt
        obtain ⟨u2, u3, rfl⟩ : ∃ u2 u3, e = .returned (.tuple #[.int .i64 P.2.1, u2, u3]) := by
          rcases hr4 with ⟨-, q⟩ | ⟨d, g, c, -, q, -⟩ <;> exact ⟨_, _, q⟩
        clear hC4 ho4 hr4 HPl HX3 HS3 hP
        go_upto_if 76 with fail
        go_cut [] (fun wx => KeC w bc bm r md mp (i + 1) P.1 wx)
        case first =>
          as_aux_lemma =>
          by_cases hc : P.2.1 = 0
          · have x76 : (P.2.1 == 0) = true := by simpa using hc
            have HC := Lib.hid hc
            clear hc
            have e0 : w4.cell? ⟨gb, 0, none⟩ = some (.int .i64 xk) := HX4.out.cell 0
            have e1 : w4.cell? ⟨gb, 1, none⟩ = some (.int .i64 k1) := HX4.out.cell 1
            have e2 : w4.cell? ⟨gb, 2, none⟩ = some (.int .i64 k2) := HX4.out.cell 2
            have e3 : w4.cell? ⟨gb, 3, none⟩ = some (.slice ba bn bcp) := HX4.out.cell 3
            have e5 : w4.cell? ⟨gb, 5, none⟩ = some (.bool dirty) := HX4.out.cell 5
            by_cases h1 : xk = 1
            · subst h1
              have hP := HP.out
              have hDP : ∀ q, Dk P.1 q = (if q = (k1, k2) then (if ((Dk L (k1, k2)).isSome || dirty) = true then some (gd (byt xb)) else none) else Dk L q) ∧ Pk P.1 q = Pk L q := fun q => by
                have h0 := HC.out
                rw [← hP] at h0 ⊢
                exact put_D HNd.out h0 q
              have HDP := Lib.hid hDP
              clear hDP hP
              have hds : (fd (k1, k2)).isSome = (Dk L (k1, k2)).isSome := (HS4.out.dd (k1, k2)).is
              have hlk := HS4.out.dm.look_ok HOp3.out.wf
              rw [hds] at hlk
              obtain ⟨vv, hvv⟩ : ∃ vv, vv = elB.val ((fd (k1, k2)).getD elB.z) := ⟨_, rfl⟩
              rw [← hvv] at hlk
              have hlk : (Instr.lookup 54 (.map (some md)) (.agg #[.int .i64 k1, .int .i64 k2]) true).run Try.prog w4 = .ok (.tuple #[vv, .bool (Dk L (k1, k2)).isSome]) w4 := hlk
              clear hvv hds
              have HBx : Hid (BytesIn w4 ba bn bcp xb) := HBz.out w4 HS4.out.lw.below
              have HBy : Hid (Calls Try.prog 12 #[.slice ba bn bcp] w4.drew (BytO w4.drew (byt xb))) := bytes_any ba bn bcp xb w4.drew HBx.out.1 (by have := HBx.out.2.2.2.2; omega) (HBx.out.2.1.below ((Below.refl _ _).drew))
              have HKp : Hid (∀ W : World, Below w4.heap.size w4 W → W.cell? ⟨gb, 0, none⟩ = some (.int .i64 1) ∧ W.cell? ⟨gb, 1, none⟩ = some (.int .i64 k1) ∧ W.cell? ⟨gb, 2, none⟩ = some (.int .i64 k2) ∧ W.cell? ⟨gb, 3, none⟩ = some (.slice ba bn bcp)) := fun W hb =>
                ⟨(HX4.out.later hb).cell 0, (HX4.out.later hb).cell 1, (HX4.out.later hb).cell 2, (HX4.out.later hb).cell 3⟩
              have HWf := Lib.hid HOp3.out.wf
              have hcs : ((Dk L (k1, k2)).isSome = false ∧ dirty = false) ∨ (Dk L (k1, k2)).isSome = true ∨ ((Dk L (k1, k2)).isSome = false ∧ dirty = true) := by
                cases (Dk L (k1, k2)).isSome <;> cases dirty <;> simp
              rcases hcs with ⟨s1, s2⟩ | s1 | ⟨s1, s2⟩
              · have HF : Hid (KeC w bc bm r md mp (i + 1) P.1 w4) := by
                  refine ⟨_, _, _, _, _, _, HS4.out.same (fun q => ?_)⟩
                  obtain ⟨q1, q2⟩ := HDP.out q
                  refine ⟨?_, q2⟩
                  rw [q1]
                  by_cases e : q = (k1, k2)
                  · rw [if_pos e, s1, s2, if_neg (by decide), e]
                    cases hd : Dk L (k1, k2) with
                    | none => rfl
                    | some d => rw [hd] at s1; cases s1
                  · rw [if_neg e]
                rw [s1] at hlk
                subst s2
                clear HS4 HX4 HBx HBy HKp HWf HDP s1
                go_wp2_with fail
                go_meet
                exact HF.out
              all_goals
                have HT : Hid (((Dk L (k1, k2)).isSome || dirty) = true) := by
                  apply Lib.hid
                  first
                    | rw [s1]; rfl
                    | rw [s2]; simp
                rw [s1] at hlk
                go_upto_region 20 with (fail)
                clear e0 e1 e2 e3 e5 hlk s1
                go_region_held (fun W => W.cell? ⟨gb, 0, none⟩ = some (.int .i64 1) ∧ W.cell? ⟨gb, 1, none⟩ = some (.int .i64 k1) ∧ W.cell? ⟨gb, 2, none⟩ = some (.int .i64 k2) ∧ W.cell? ⟨gb, 3, none⟩ = some (.slice ba bn bcp))
                  (first | exact HKp.out _ ((Below.refl _ _).drew) | exact HKq.out | exact HKp.out _ HBb.out)
                  (first
                    | (go_at_call 12; (with_reducible refine HBy.out.mono ?_); rintro e Wb ⟨g2, rfl, hg2, -, hb2⟩; have HBb := Lib.hid (((Below.refl w4.heap.size w4).drew).trans (hb2.mono (Nat.le_refl _))); have HG2 := Lib.hid hg2; obtain ⟨w5, hrun, hM5, hg5⟩ := (HS4.out.later HBb.out).dm.put (by have := HS4.out.cnt; have := HI.out; omega) HWf.out (some g2); have hrun : (Instr.mapUpdate 54 (.map (some md)) (.agg #[.int .i64 k1, .int .i64 k2]) (.slice (some ⟨g2, 0, none⟩) 64 64)).run Try.prog Wb = .ok () w5 := hrun; have HM5 := Lib.hid hM5; have HG5 := Lib.hid hg5; have HX5 := Lib.hid ((HX4.out.later HBb.out).grown hg5 (fun e => by cases e; exact (HS4.out.later HBb.out).dm.blo (HX4.out.later HBb.out) rfl)); have HKq : Hid (w5.cell? ⟨gb, 0, none⟩ = some (.int .i64 1) ∧ w5.cell? ⟨gb, 1, none⟩ = some (.int .i64 k1) ∧ w5.cell? ⟨gb, 2, none⟩ = some (.int .i64 k2) ∧ w5.cell? ⟨gb, 3, none⟩ = some (.slice ba bn bcp)) := ⟨HX5.out.cell 0, HX5.out.cell 1, HX5.out.cell 2, HX5.out.cell 3⟩; clear hg2 hb2 hM5 hg5))
                all_goals
                  have HF : Hid (KeC w bc bm r md mp (i + 1) P.1 w5) := by
                    refine ⟨_, _, _, _, _, _, (HS4.out.later HBb.out).dput HG5.out HG2.out HM5.out (by have := HC3.out; omega) (fun q => ?_)⟩
                    obtain ⟨q1, q2⟩ := HDP.out q
                    refine ⟨?_, q2⟩
                    rw [q1, if_pos HT.out]
                  clear HS4 HX4 HBx HBy HKp HWf HDP HKq HBb HM5 HG5 HX5 HG2 hrun
                  go_wp2_with fail
                  go_meet
                  exact HF.out
            · have n1 : (xk == 1) = false := by simpa using h1
              by_cases h3 : xk = 3
              · subst h3
                have hP := HP.out
                obtain ⟨w5, kd', hdl, hM5, hg5⟩ := HS4.out.dm.del_any HOp3.out.wf 0
                have hdl : (Builtin.delete_ #[54, KT] 0 #[.map (some md), .agg #[.int .i64 k1, .int .i64 k2]]).run Try.prog w4 = .ok (.tuple #[]) w5 := hdl
                have HF : Hid (KeC w bc bm r md mp (i + 1) P.1 w5) := by
                  have h0 := HC.out
                  rw [← hP] at h0
                  have := do_D (k := 3) HPi.out h0
                  refine ⟨_, _, _, _, _, _, HS4.out.ddel hg5 hM5 (fun q => ?_)⟩
                  obtain ⟨q1, q2, -⟩ := this q
                  rw [← hP]
                  refine ⟨?_, ?_⟩
                  · show Dk (doK L 3 (k1, k2)).1 q = _
                    rw [q1]
                    by_cases e : q = (k1, k2)
                    · rw [if_pos ⟨e, .inl rfl⟩, if_pos e]
                    · rw [if_neg (fun h => e h.1), if_neg e]
                  · show Pk (doK L 3 (k1, k2)).1 q = _
                    rw [q2]
                    by_cases e : q = (k1, k2)
                    · rw [if_pos e, if_pos rfl, e]
                    · rw [if_neg e]
                clear hP hM5 hg5 HS4 HX4
                go_wp2_with fail
                go_meet
                exact HF.out
              · have n3 : (xk == 3) = false := by simpa using h3
                by_cases h4 : xk = 4
                · subst h4
                  have hP := HP.out
                  have h0 := HC.out
                  rw [← hP] at h0
                  have hD := do_D (k := 4) HPi.out h0
                  have hpk := HPk.out
                  have hpp : (fp (k1, k2)).getD elI.z = Pk L (k1, k2) := HS4.out.pp (k1, k2)
                  obtain ⟨st, w5, hen, hg5, hl5, hst⟩ := (HS4.out.pm.later ((Below.refl w4.heap.size w4).drew)).entry (by have := HS4.out.cnt; have := HI.out; omega) HOp3.out.wf
                  have hl4 := (HS4.out.pm.later ((Below.refl w4.heap.size w4).drew)).look HOp3.out.wf
                  rw [hpp] at hen hl5 hl4
                  obtain ⟨w6, hes, hM6, hg6⟩ := hst (Pk L (k1, k2) + 1)
                  have hes : (Instr.entryStore 55 (.map (some mp)) (.int .i64 (st : Int)) (.int .i64 (Pk L (k1, k2) + 1))).run Try.prog w5 = .ok () w6 := hes
                  have hen : (Instr.mapEntry 55 (.map (some mp)) (.agg #[.int .i64 k1, .int .i64 k2])).run Try.prog w4.drew = .ok (.tuple #[.int .i64 (Pk L (k1, k2)), .int .i64 (st : Int)]) w5 := hen
                  have hl4 : (Instr.lookup 55 (.map (some mp)) (.agg #[.int .i64 k1, .int .i64 k2]) false).run Try.prog w4.drew = .ok (.int .i64 (Pk L (k1, k2))) w4.drew := hl4
                  have hl5 : (Instr.lookup 55 (.map (some mp)) (.agg #[.int .i64 k1, .int .i64 k2]) false).run Try.prog w5 = .ok (.int .i64 (Pk L (k1, k2))) w5 := hl5
                  have hX4 := HX4.out.drew
                  have hX5 := hX4.grown hg5 (fun e => by cases e; exact HS4.out.pm.blo HX4.out rfl)
                  have hX6 := hX4.grown hg6 (fun e => by cases e; exact HS4.out.pm.blo HX4.out rfl)
                  have HK4 : Hid (w4.drew.cell? ⟨gb, 1, none⟩ = some (.int .i64 k1) ∧ w4.drew.cell? ⟨gb, 2, none⟩ = some (.int .i64 k2)) := ⟨hX4.cell 1, hX4.cell 2⟩
                  have HK5 : Hid (w5.cell? ⟨gb, 1, none⟩ = some (.int .i64 k1) ∧ w5.cell? ⟨gb, 2, none⟩ = some (.int .i64 k2)) := ⟨hX5.cell 1, hX5.cell 2⟩
                  have HK6 : Hid (w6.cell? ⟨gb, 1, none⟩ = some (.int .i64 k1) ∧ w6.cell? ⟨gb, 2, none⟩ = some (.int .i64 k2)) := ⟨hX6.cell 1, hX6.cell 2⟩
                  have HF : Hid (KeC w bc bm r md mp (i + 1) P.1 w6) := by
                    have HS5 := HS4.out.later ((Below.refl w4.heap.size w4).drew)
                    refine ⟨_, _, _, _, _, _, HS5.pput hg6 hM6 (by have := HC3.out; omega) (fun q => ?_)⟩
                    obtain ⟨q1, q2, -⟩ := hD q
                    rw [← hP]
                    refine ⟨?_, ?_⟩
                    · show Dk (doK L 4 (k1, k2)).1 q = _
                      rw [q1, if_neg (fun h => by have := h.2; omega)]
                    · show Pk (doK L 4 (k1, k2)).1 q = _
                      rw [q2]
                      rfl
                  have v0 : 0 ≤ Pk L (k1, k2) := hpk.1
                  have v1 : Pk L (k1, k2) ≤ 80 := by have := hpk.2; omega
                  clear hP h0 hD hpk hpp hst hg5 hM6 hg6 hX4 hX5 hX6 HS4 HX4 HPk
                  generalize Pk L (k1, k2) = v at *
                  have hwr : IntKind.i64.wrap (v + 1) = v + 1 := by rw [IntKind.wrap_i64]; omega
                  go_upto_region 24 with (fail)
                  go_region_held (fun W => W.cell? ⟨gb, 1, none⟩ = some (.int .i64 k1) ∧ W.cell? ⟨gb, 2, none⟩ = some (.int .i64 k2))
                    (first | exact HK4.out | exact HK5.out | exact HK6.out)
                    (fail)
                  all_goals
                    go_wp2_with fail
                    go_meet
                    exact HF.out
                · have n4 : (xk == 4) = false := by simpa using h4
                  by_cases h5 : xk = 5
                  · subst h5
                    have hP := HP.out
                    have h0 := HC.out
                    rw [← hP] at h0
                    have hD := do_D (k := 5) HPi.out h0
                    have hpk := HPk.out
                    have hpp : (fp (k1, k2)).getD elI.z = Pk L (k1, k2) := HS4.out.pp (k1, k2)
                    obtain ⟨st, w5, hen, hg5, hl5, hst⟩ := (HS4.out.pm.later ((Below.refl w4.heap.size w4).drew)).entry (by have := HS4.out.cnt; have := HI.out; omega) HOp3.out.wf
                    have hl4 := (HS4.out.pm.later ((Below.refl w4.heap.size w4).drew)).look HOp3.out.wf
                    rw [hpp] at hen hl5 hl4
                    obtain ⟨w6, hes, hM6, hg6⟩ := hst (Pk L (k1, k2) - 1)
                    have hes : (Instr.entryStore 55 (.map (some mp)) (.int .i64 (st : Int)) (.int .i64 (Pk L (k1, k2) - 1))).run Try.prog w5 = .ok () w6 := hes
                    have hen : (Instr.mapEntry 55 (.map (some mp)) (.agg #[.int .i64 k1, .int .i64 k2])).run Try.prog w4.drew = .ok (.tuple #[.int .i64 (Pk L (k1, k2)), .int .i64 (st : Int)]) w5 := hen
                    have hl4 : (Instr.lookup 55 (.map (some mp)) (.agg #[.int .i64 k1, .int .i64 k2]) false).run Try.prog w4.drew = .ok (.int .i64 (Pk L (k1, k2))) w4.drew := hl4
                    have hl5 : (Instr.lookup 55 (.map (some mp)) (.agg #[.int .i64 k1, .int .i64 k2]) false).run Try.prog w5 = .ok (.int .i64 (Pk L (k1, k2))) w5 := hl5
                    have hX4 := HX4.out.drew
                    have hX5 := hX4.grown hg5 (fun e => by cases e; exact HS4.out.pm.blo HX4.out rfl)
                    have hX6 := hX4.grown hg6 (fun e => by cases e; exact HS4.out.pm.blo HX4.out rfl)
                    have HK4 : Hid (w4.drew.cell? ⟨gb, 1, none⟩ = some (.int .i64 k1) ∧ w4.drew.cell? ⟨gb, 2, none⟩ = some (.int .i64 k2)) := ⟨hX4.cell 1, hX4.cell 2⟩
                    have HK5 : Hid (w5.cell? ⟨gb, 1, none⟩ = some (.int .i64 k1) ∧ w5.cell? ⟨gb, 2, none⟩ = some (.int .i64 k2)) := ⟨hX5.cell 1, hX5.cell 2⟩
                    have HK6 : Hid (w6.cell? ⟨gb, 1, none⟩ = some (.int .i64 k1) ∧ w6.cell? ⟨gb, 2, none⟩ = some (.int .i64 k2)) := ⟨hX6.cell 1, hX6.cell 2⟩
                    have HF : Hid (KeC w bc bm r md mp (i + 1) P.1 w6) := by
                      have HS5 := HS4.out.later ((Below.refl w4.heap.size w4).drew)
                      refine ⟨_, _, _, _, _, _, HS5.pput hg6 hM6 (by have := HC3.out; omega) (fun q => ?_)⟩
                      obtain ⟨q1, q2, -⟩ := hD q
                      rw [← hP]
                      refine ⟨?_, ?_⟩
                      · show Dk (doK L 5 (k1, k2)).1 q = _
                        rw [q1, if_neg (fun h => by have := h.2; omega)]
                      · show Pk (doK L 5 (k1, k2)).1 q = _
                        rw [q2]
                        rfl
                    have v0 : 0 ≤ Pk L (k1, k2) := hpk.1
                    have v1 : Pk L (k1, k2) ≤ 80 := by have := hpk.2; omega
                    clear hP h0 hD hpk hpp hst hg5 hM6 hg6 hX4 hX5 hX6 HS4 HX4 HPk
                    generalize Pk L (k1, k2) = v at *
                    have hwr : IntKind.i64.wrap (v - 1) = v - 1 := by rw [IntKind.wrap_i64]; omega
                    go_upto_region 26 with (fail)
                    go_region_held (fun W => W.cell? ⟨gb, 1, none⟩ = some (.int .i64 k1) ∧ W.cell? ⟨gb, 2, none⟩ = some (.int .i64 k2))
                      (first | exact HK4.out | exact HK5.out | exact HK6.out)
                      (fail)
                    all_goals
                      go_wp2_with fail
                      go_meet
                      exact HF.out
                  · have n5 : (xk == 5) = false := by simpa using h5
                    by_cases h6 : xk = 6
                    · subst h6
                      have hP := HP.out
                      obtain ⟨w5, kd', hdl, hM5, hg5⟩ := HS4.out.dm.del_any HOp3.out.wf 0
                      have hdl : (Builtin.delete_ #[54, KT] 0 #[.map (some md), .agg #[.int .i64 k1, .int .i64 k2]]).run Try.prog w4 = .ok (.tuple #[]) w5 := hdl
                      have h0 := HC.out
                      rw [← hP] at h0
                      have hD := do_D (k := 6) HPi.out h0
                      have hz0 := (hD (k1, k2)).2.2 (by decide) (by decide) (by decide)
                      have hlk : (Instr.lookup 55 (.map (some mp)) (.agg #[.int .i64 k1, .int .i64 k2]) false).run Try.prog w4 = .ok (.int .i64 0) w4 := by
                        have := HS4.out.pm.look HOp3.out.wf
                        rw [show (fp (k1, k2)).getD elI.z = 0 from (HS4.out.pp (k1, k2)).trans hz0] at this
                        exact this
                      have HF : Hid (KeC w bc bm r md mp (i + 1) P.1 w5) := by
                        refine ⟨_, _, _, _, _, _, HS4.out.ddel hg5 hM5 (fun q => ?_)⟩
                        obtain ⟨q1, q2, -⟩ := hD q
                        rw [← hP]
                        refine ⟨?_, ?_⟩
                        · show Dk (doK L 6 (k1, k2)).1 q = _
                          rw [q1]
                          by_cases e : q = (k1, k2)
                          · rw [if_pos ⟨e, .inr ⟨by decide, by decide⟩⟩, if_pos e]
                          · rw [if_neg (fun h => e h.1), if_neg e]
                        · show Pk (doK L 6 (k1, k2)).1 q = _
                          rw [q2]
                          by_cases e : q = (k1, k2)
                          · rw [if_pos e, if_neg (by decide), if_neg (by decide), if_neg (by decide), e, hz0]
                          · rw [if_neg e]
                      clear hP hM5 hg5 HS4 HX4 h0 hD hz0
                      go_wp2_with fail
                      go_meet
                      exact HF.out
                    · have n6 : (xk == 6) = false := by simpa using h6
                      have HF : Hid (KeC w bc bm r md mp (i + 1) P.1 w4) := by
                        refine ⟨_, _, _, _, _, _, HS4.out.same (fun q => ?_)⟩
                        rw [← HP.out]
                        by_cases h2 : xk = 2
                        · subst h2
                          exact get_D q
                        · have : (playK r L ⟨xk, (k1, k2), xb, false, dirty⟩).1 = L := by
                            unfold playK
                            rw [if_neg h1, if_neg h2, if_neg h3, if_neg h4, if_neg h5, if_neg h6]
                          rw [this]
                          exact ⟨rfl, rfl⟩
                      clear HS4 HX4
                      go_wp2_with fail
                      go_meet
                      exact HF.out
          · have x76 : (P.2.1 == 0) = false := by simpa using hc
            have HF : Hid (KeC w bc bm r md mp (i + 1) P.1 w4) := by
              refine ⟨_, _, _, _, _, _, HS4.out.same (fun q => ?_)⟩
              have h0 := hc
              rw [← HP.out] at h0
              rw [← HP.out, play_no h0]
              exact ⟨rfl, rfl⟩
            clear HS4 HX4
            go_wp2_with fail
            go_meet
            exact HF.out
        case rest =>
          as_aux_lemma =>
          obtain ⟨fd5, nd5, kd5, fp5, np5, kp5, hS5⟩ := hcut
          have HS5 := Lib.hid hS5
          clear hS5 HX4 HS4 HNd HPi HPk HP HC3 HOp3 HBz HBw HOp
          clear fd nd kd fp np kp
          obtain ⟨L5, hL5⟩ : ∃ L5, L5 = P.1 := ⟨_, rfl⟩
          rw [← hL5] at HS5
          clear hL5
          have hmm : (Instr.makeMap 55 none).run Try.prog wc = .ok (.map (some wc.heap.size)) (wc.alloc (.map #[] 0)) := rfl
          obtain ⟨w5, hw5⟩ : ∃ w5, w5 = wc.alloc (.map #[] 0) := ⟨_, rfl⟩
          have HT5 : Hid (KG elI w5 wc.heap.size 0 (fun _ => none) []) := by rw [hw5]; exact KG.made elI wc
          have HNE : Hid ((wc.heap.size ≠ bm ∧ wc.heap.size ≠ md ∧ wc.heap.size ≠ mp) ∧ w.heap.size ≤ wc.heap.size) := by
            have h1 := HS5.out.dm.lt
            have h2 := HS5.out.pm.lt
            have h3 := HS5.out.lw.below.size
            have h4 := HS5.out.lw.ca
            obtain ⟨n', f', ks', uses, v, hK, -, hB⟩ := h4.len
            have := hK.lt
            exact ⟨⟨by omega, by omega, by omega⟩, h3⟩
          have HS6 := Lib.hid (HS5.out.later (w' := w5) (by rw [hw5]; exact sup_pc9 _ _))
          rw [← hw5] at hmm
          clear hw5 HS5
          generalize wc.heap.size = gt at *
          obtain ⟨ps, hps⟩ : ∃ ps, L5.map Bk.key = ps := ⟨_, rfl⟩
          obtain ⟨q, hq⟩ : ∃ q, ps.length = q := ⟨_, rfl⟩
          have HPn : Hid ps.Nodup := by
            have := HS6.out.lw.ca.nodup
            rw [hps] at this
            exact this
          have HPs : Hid (∀ t, t < q → ∃ s ∈ L5, ps[t]? = some s.key) := fun t ht => by
            have h1 : t < L5.length := by rw [← hq, ← hps, List.length_map] at ht; exact ht
            refine ⟨L5[t], List.getElem_mem h1, ?_⟩
            rw [← hps, List.getElem?_map, List.getElem?_eq_getElem h1]
            rfl
          have HWk : Hid (∀ s ∈ L5, wfK s.key) := HS6.out.lw.ca.wfs
          have hlr := HS6.out.lw.ca.lenr
          have hq8 : q ≤ 8 := by
            rw [← hq, ← hps, List.length_map]
            omega
          have HLq : Hid (L5.length = q) := by rw [← hq, ← hps, List.length_map]; exact Lib.hid rfl
          have HPk : Hid (∀ p, p ∈ ps ↔ ∃ s ∈ L5, s.key = p) := fun p => by rw [← hps, List.mem_map]
          have HOr := Lib.hid (order_any HS6.out.lw.ca)
          rw [hps] at HOr
          clear hps
          go_wp2_with fail
          clear hmm
          refine HOr.out.mono ?_
          rintro e w6 ⟨la, lc, rfl, hown, hb6⟩
          rw [hq] at hown ⊢
          have HSt6 : Hid (ThR w bc bm r md mp (i + 1) L5 fd5 nd5 kd5 fp5 np5 kp5 gt w5.heap.size la lc q ps (.int .i64 0) w6) := by
            refine ⟨0, Nat.zero_le _, rfl, HS6.out.later hb6, ?_, hown⟩
            have := HT5.out.later hb6
            rw [show thF ps 0 = fun _ => none by funext p; simp [thF]]
            exact this
          clear hown hb6 HOr HS6 HT5
          generalize w5.heap.size = C at *
          go_wp2_with fail
          go_loopw [136] (fun v wx => ThR w bc bm r md mp (i + 1) L5 fd5 nd5 kd5 fp5 np5 kp5 gt C la lc q ps v wx) (fun v _ => q - (intOf v).toNat)
          case atStart => exact HSt6.out
          case round =>
            clear HSt6
            obtain ⟨t, ht, rfl, hS, hT, hown⟩ := hrel
            have HS := Lib.hid (And.intro hS (And.intro hT hown))
            clear hS hT hown
            have t0 : (0 : Int) ≤ (t : Int) := by omega
            by_cases htq : t < q
            · have t1 : (t : Int) < (q : Int) := by omega
              obtain ⟨s, hsL, hpt⟩ := HPs.out t htq
              obtain ⟨g, rfl, k0, k1⟩ := own_key HS.out.2.2 hpt
              have hws := HWk.out s hsL
              obtain ⟨⟨ka, kb⟩, sdat, sdir, spin⟩ := s
              have k0 : wr.cell? ⟨g, t * 2, none⟩ = some (.int .i64 ka) := k0
              have k1 : wr.cell? ⟨g, t * 2 + 1, none⟩ = some (.int .i64 kb) := k1
              have HTh := Lib.hid (th_next HPn.out hpt)
              have HT : Hid (t < q) := htq
              go_upto_region 35 with (fail)
              clear k0 k1
              obtain ⟨wk, hwk⟩ : ∃ wk, wk = wr.alloc (.cells #[.int .i64 ka, .int .i64 kb] KT) := ⟨_, rfl⟩
              rw [← hwk]
              have hbk : Below wr.heap.size wr wk := by rw [hwk]; exact sup_pc9 wr _
              have hXk : Blo wk wr.heap.size KT #[.int .i64 ka, .int .i64 kb] := by rw [hwk]; exact blo_laid wr _ _
              have HSk := Lib.hid (And.intro (HS.out.1.later hbk) (And.intro (HS.out.2.1.later hbk) (own_later HS.out.2.2 hbk)))
              generalize wr.heap.size = kx at *
              have hz0 : (thF ps t (ka, kb)).getD elI.z = 0 := by rw [show thF ps t (ka, kb) = none from HTh.out.2.2]; rfl
              obtain ⟨st, w7, hen, hg7, hl7, hst⟩ := (HSk.out.2.1.later ((Below.refl wk.heap.size wk).drew)).entry (by omega) hws
              have hl6 := (HSk.out.2.1.later ((Below.refl wk.heap.size wk).drew)).look hws
              obtain ⟨w8, hes, hM8, hg8⟩ := hst 1
              rw [show (show Bk from ⟨(ka, kb), sdat, sdir, spin⟩).key = (ka, kb) from rfl] at hen hl7 hl6 hM8
              rw [hz0] at hen hl7 hl6
              have hes : (Instr.entryStore 55 (.map (some gt)) (.int .i64 (st : Int)) (.int .i64 1)).run Try.prog w7 = .ok () w8 := hes
              have hen : (Instr.mapEntry 55 (.map (some gt)) (.agg #[.int .i64 ka, .int .i64 kb])).run Try.prog wk.drew = .ok (.tuple #[.int .i64 0, .int .i64 (st : Int)]) w7 := hen
              have hl6 : (Instr.lookup 55 (.map (some gt)) (.agg #[.int .i64 ka, .int .i64 kb]) false).run Try.prog wk.drew = .ok (.int .i64 0) wk.drew := hl6
              have hl7 : (Instr.lookup 55 (.map (some gt)) (.agg #[.int .i64 ka, .int .i64 kb]) false).run Try.prog w7 = .ok (.int .i64 0) w7 := hl7
              have hX4 := hXk.drew
              have hX5 := hX4.grown hg7 (fun e => by cases e; exact HSk.out.2.1.blo hXk rfl)
              have hX6 := hX4.grown hg8 (fun e => by cases e; exact HSk.out.2.1.blo hXk rfl)
              have HK4 : Hid (wk.drew.cell? ⟨kx, 0, none⟩ = some (.int .i64 ka) ∧ wk.drew.cell? ⟨kx, 1, none⟩ = some (.int .i64 kb)) := ⟨hX4.cell 0, hX4.cell 1⟩
              have HK5 : Hid (w7.cell? ⟨kx, 0, none⟩ = some (.int .i64 ka) ∧ w7.cell? ⟨kx, 1, none⟩ = some (.int .i64 kb)) := ⟨hX5.cell 0, hX5.cell 1⟩
              have HK6 : Hid (w8.cell? ⟨kx, 0, none⟩ = some (.int .i64 ka) ∧ w8.cell? ⟨kx, 1, none⟩ = some (.int .i64 kb)) := ⟨hX6.cell 0, hX6.cell 1⟩
              have HR : Hid (ThR w bc bm r md mp (i + 1) L5 fd5 nd5 kd5 fp5 np5 kp5 gt C (some ⟨g, 0, none⟩) lc q ps (.int .i64 ((t : Int) + 1)) w8) := by
                have hbd : Below wk.heap.size wk wk.drew := (Below.refl wk.heap.size wk).drew
                have hTd := HSk.out.2.1.later hbd
                refine ⟨t + 1, HT.out, rfl, (HSk.out.1.later hbd).map3 hTd HNE.out.1 HNE.out.2 hg8, ?_, ?_⟩
                · have h1 := HTh.out.1
                  have h2 := HTh.out.2.1
                  rw [← h1, ← h2]
                  exact hM8
                · have ho : Out (fun g => g = gt) wk.drew w8 := Out.of_grown hg8 (fun g e => by cases e; rfl)
                  refine ho.own (own_later HSk.out.2.2 hbd) (fun g' hg' e => ?_)
                  obtain ⟨-, cs, hb⟩ := own_blo (own_later HSk.out.2.2 hbd) hg'
                  exact hTd.blo hb e.symm
              clear hwk hbk hXk hst hg7 hM8 hg8 hX4 hX5 hX6 HSk HTh hz0 hws hpt hsL HS
              have hwr : IntKind.i64.wrap 1 = 1 := by decide
              have hwr2 : IntKind.i64.wrap (0 + 1) = 1 := by decide
              go_region_held (fun W => W.cell? ⟨kx, 0, none⟩ = some (.int .i64 ka) ∧ W.cell? ⟨kx, 1, none⟩ = some (.int .i64 kb))
                (first | exact HK4.out | exact HK5.out | exact HK6.out)
                (fail)
              all_goals
                have HM := Lib.hid HT.out
                go_wp2_with fail
                go_roundw
                case rel => exact HR.out
                case measure => have := HM.out; simp [intOf]; omega
            · have t1 : ¬ (t : Int) < (q : Int) := by omega
              obtain rfl : t = q := by omega
              have HTq : Hid (KG elI wr gt t (ThF ps) ps) := by
                have h1 := HS.out.2.1
                have h2 : ps.take t = ps := by rw [← hq]; simp
                have h3 : thF ps t = ThF ps := by funext p; unfold thF ThF; rw [h2]
                rw [h2, h3] at h1
                exact h1
              have HS7 := Lib.hid HS.out.1
              have HLen := Lib.hid (HS.out.1.lw.len HLq.out)
              have hgr : ¬ ((t : Int) > (r : Int)) := by
                have := HLq.out
                omega
              have hgr2 : ¬ (r < t) := by omega
              have hl1 : (Builtin.len_ #[55] 3 #[.map (some gt)]).run Try.prog wr = .ok (.int .i64 (t : Int)) wr := by
                have := HTq.out.len 3
                rw [hq] at this
                exact this
              have HDt := Lib.hid (dirty_any HS.out.1.lw.ca)
              clear HS
              go_upto_region 37 with (fail)
              go_wp2_with (go_at_call 16; refine HLen.out.mono ?_; rintro e wl ⟨rfl, rfl⟩)
              refine HDt.out.mono ?_
              rintro e w8 ⟨qs, hqs, la2, lc2, rfl, -, hb8⟩
              have HS8 := Lib.hid (HS7.out.later hb8)
              have HT8 := Lib.hid (HTq.out.later hb8)
              have hkd := (HS7.out.dty hqs).1
              have hl2 : (Builtin.len_ #[54] 3 #[.map (some md)]).run Try.prog w8 = .ok (.int .i64 (qs.length : Int)) w8 := by
                rw [hkd]
                exact HS8.out.dm.len 3
              have HDt2 := Lib.hid (dirty_any HS8.out.lw.ca)
              clear hqs hb8 hkd HLen hl1 HDt HS7 HTq
              generalize qs.length = ql at *
              go_wp2_with fail
              clear hl2 hgr hgr2
              refine HDt2.out.mono ?_
              rintro e w9 ⟨qs2, hqs2, la3, lc3, rfl, hown3, hb9⟩
              obtain ⟨q2, hq2⟩ : ∃ q2, qs2.length = q2 := ⟨_, rfl⟩
              rw [hq2] at hown3 ⊢
              have HDm : Hid (∀ p, p ∈ qs2 ↔ (fd5 p).isSome = true) := (HS8.out.dty hqs2).2
              have HDk : Hid (∀ p ∈ qs2, ∃ s ∈ L5, s.key = p) := fun p hp => by
                have h1 := (HDm.out p).1 hp
                rw [(HS8.out.dd p).is] at h1
                obtain ⟨s, h2, h3, -⟩ := Dk_mem h1
                exact ⟨s, h2, h3⟩
              have HSt9 : Hid (DqR w bc bm r md mp (i + 1) L5 fd5 nd5 kd5 fp5 np5 kp5 gt t w8.heap.size la3 lc3 q2 ps qs2 (.int .i64 0) w9) := ⟨0, Nat.zero_le _, rfl, HS8.out.later hb9, HT8.out.later hb9, hown3⟩
              have hq28 : q2 ≤ 8 := by
                have h1 : (L5.filter fun s => s.dirty).length ≤ L5.length := List.length_filter_le _ _
                have h2 := hqs2.1.length_eq
                rw [List.length_map] at h2
                have := HLq.out
                omega
              clear hqs2 hown3 hb9 HDt2 HS8 HT8
              generalize w8.heap.size = C2 at *
              go_wp2_with fail
              go_loopw [169] (fun v wx => DqR w bc bm r md mp (i + 1) L5 fd5 nd5 kd5 fp5 np5 kp5 gt t C2 la3 lc3 q2 ps qs2 v wx) (fun v _ => q2 - (intOf v).toNat)
              case atStart => exact HSt9.out
              case round =>
                clear HSt9
                obtain ⟨j, hj, rfl, hS, hT, hown⟩ := hrel
                have HS := Lib.hid (And.intro hS (And.intro hT hown))
                clear hS hT hown
                have j0 : (0 : Int) ≤ (j : Int) := by omega
                by_cases hjq : j < q2
                · have j1 : (j : Int) < (q2 : Int) := by omega
                  obtain ⟨p, hp⟩ : ∃ p, qs2[j]? = some p := ⟨_, List.getElem?_eq_getElem (by omega)⟩
                  have hpm := List.mem_of_getElem? hp
                  have hfs := (HDm.out p).1 hpm
                  obtain ⟨s, hsL, hsk⟩ := HDk.out p hpm
                  have hws := HWk.out s hsL
                  rw [hsk] at hws
                  have hpp : p ∈ ps := (HPk.out p).2 ⟨s, hsL, hsk⟩
                  obtain ⟨g, rfl, k0, k1⟩ := own_key HS.out.2.2 hp
                  obtain ⟨ka, kb⟩ := p
                  have k0 : wr.cell? ⟨g, j * 2, none⟩ = some (.int .i64 ka) := k0
                  have k1 : wr.cell? ⟨g, j * 2 + 1, none⟩ = some (.int .i64 kb) := k1
                  have HJ : Hid (j < q2) := hjq
                  go_upto_region 42 with (fail)
                  clear k0 k1
                  obtain ⟨wk, hwk⟩ : ∃ wk, wk = wr.alloc (.cells #[.int .i64 ka, .int .i64 kb] KT) := ⟨_, rfl⟩
                  rw [← hwk]
                  have hbk : Below wr.heap.size wr wk := by rw [hwk]; exact sup_pc9 wr _
                  have hXk : Blo wk wr.heap.size KT #[.int .i64 ka, .int .i64 kb] := by rw [hwk]; exact blo_laid wr _ _
                  have HSk := Lib.hid (And.intro (HS.out.1.later hbk) (And.intro (HS.out.2.1.later hbk) (own_later HS.out.2.2 hbk)))
                  generalize wr.heap.size = kx at *
                  have k0 := hXk.cell 0
                  have k1 := hXk.cell 1
                  simp at k0 k1
                  have hlt := HSk.out.2.1.look hws
                  have hlt : (Instr.lookup 55 (.map (some gt)) (.agg #[.int .i64 ka, .int .i64 kb]) false).run Try.prog wk = .ok (.int .i64 1) wk := by
                    rw [show (ThF ps (ka, kb)).getD elI.z = 1 by unfold ThF; rw [if_pos hpp]; rfl] at hlt
                    exact hlt
                  have hlk := HSk.out.1.dm.look_ok hws
                  rw [hfs] at hlk
                  obtain ⟨vv, hvv⟩ : ∃ vv, vv = elB.val ((fd5 (ka, kb)).getD elB.z) := ⟨_, rfl⟩
                  rw [← hvv] at hlk
                  have hlk : (Instr.lookup 54 (.map (some md)) (.agg #[.int .i64 ka, .int .i64 kb]) true).run Try.prog wk = .ok (.tuple #[vv, .bool true]) wk := hlk
                  have HR : Hid (DqR w bc bm r md mp (i + 1) L5 fd5 nd5 kd5 fp5 np5 kp5 gt t C2 (some ⟨g, 0, none⟩) lc3 q2 ps qs2 (.int .i64 ((j : Int) + 1)) wk) := ⟨j + 1, HJ.out, rfl, HSk.out.1, HSk.out.2.1, HSk.out.2.2⟩
                  have HM := Lib.hid HJ.out
                  clear hvv hwk hbk hXk HSk hws hsk hsL hfs hpm hp hpp HS hjq
                  go_wp2_with fail
                  go_roundw
                  case rel => exact HR.out
                  case measure => have := HM.out; simp [intOf]; omega
                · have j1 : ¬ (j : Int) < (q2 : Int) := by omega
                  have HS10 := Lib.hid (And.intro HS.out.1 HS.out.2.1)
                  clear HS
                  go_upto_region 46 with (fail)
                  obtain ⟨w11, hrg, ⟨cnt0, hkr⟩, hb11, hs11⟩ := HS10.out.1.pm.range
                  have hrg : (Instr.range 55 (.map (some mp))).run Try.prog wr = .ok (.pointer (some ⟨wr.heap.size, 0, none⟩)) w11 := hrg
                  have HRl : Hid (w.heap.size ≤ wr.heap.size) := HS10.out.1.lw.below.size
                  have HRg : Hid (gt ≠ wr.heap.size) := by
                    have := HS10.out.2.lt
                    have : gt ≠ wr.heap.size := by omega
                    exact this
                  have HSt11 : Hid (RgR w bc bm r md mp (i + 1) L5 fd5 nd5 kd5 fp5 np5 kp5 gt t wr.heap.size ps w11) := ⟨[], cnt0, HS10.out.1.later hb11, HS10.out.2.later hb11, hkr⟩
                  clear hkr hb11 hs11 HS10
                  generalize wr.heap.size = rr at *
                  go_wp2_with fail
                  clear hrg
                  go_loopw [] (fun wx => RgR w bc bm r md mp (i + 1) L5 fd5 nd5 kd5 fp5 np5 kp5 gt t rr ps wx) (fun wx => wx.rangeLeft mp rr)
                  case atStart => exact HSt11.out
                  case round =>
                    clear HSt11
                    obtain ⟨done, cnt, hS, hT, hK⟩ := hrel
                    have HS := Lib.hid (And.intro hS (And.intro hT hK))
                    clear hS hT hK
                    rcases HS.out.2.2.next 0 with hrun | ⟨p, n, w12, cnt', hwf, hfp, hrun, hkr', hlt, hgr, hsz, hen⟩
                    · have HR : Hid (KeR w bc bm r md mp zl (.int .i64 ((i : Int) + 1)) wr) := ⟨i + 1, _, _, _, _, _, _, _, by have := HI.out; omega, by have := HI.out; omega, rfl, HS.out.1⟩
                      have HM := Lib.hid HI.out.1
                      clear HS
                      go_wp2_with fail
                      go_roundw
                      case rel => exact HR.out
                      case measure => have := HM.out; simp [intOf]; omega
                    · obtain ⟨ka, kb⟩ := p
                      unfold keyV at hrun hen
                      have hrun2 : (Instr.next (.pointer (some ⟨rr, 0, none⟩)) false 0).run Try.prog wr = .ok (.tuple #[.bool true, .agg #[.int .i64 ka, .int .i64 kb], .int .i64 n]) w12 := hrun
                      have hen2 : (Instr.entry (.pointer (some ⟨rr, 0, none⟩))).run Try.prog w12 = .ok (.tuple #[.agg #[.int .i64 ka, .int .i64 kb], .int .i64 n]) w12 := hen
                      have hS12 := HS.out.1.rng HS.out.2.2 HRl.out hgr
                      have hT12 : KG elI w12 gt t (ThF ps) ps := HS.out.2.1.outq (X := fun g => g = rr) (Out.of_grown hgr (fun g e => by cases e; rfl)) HRg.out
                      have hbk : Below w12.heap.size w12 (w12.alloc (.cells #[.int .i64 ka, .int .i64 kb] KT)) := sup_pc9 w12 _
                      have HR : Hid (RgR w bc bm r md mp (i + 1) L5 fd5 nd5 kd5 fp5 np5 kp5 gt t rr ps (w12.alloc (.cells #[.int .i64 ka, .int .i64 kb] KT))) := ⟨_, _, hS12.later hbk, hT12.later hbk, hkr'.later hbk⟩
                      have HML : Hid ((w12.alloc (.cells #[.int .i64 ka, .int .i64 kb] KT)).rangeLeft mp rr < wr.rangeLeft mp rr) := by
                        rw [(hkr'.later hbk).left_eq, HS.out.2.2.left_eq]
                        exact hlt
                      have hlt2 : 0 < n → (Instr.lookup 55 (.map (some gt)) (.agg #[.int .i64 ka, .int .i64 kb]) false).run Try.prog (w12.alloc (.cells #[.int .i64 ka, .int .i64 kb] KT)) = .ok (.int .i64 1) (w12.alloc (.cells #[.int .i64 ka, .int .i64 kb] KT)) := fun hn => by
                        have h1 := HS.out.1.pp (ka, kb)
                        rw [hfp] at h1
                        have h1 : n = Pk L5 (ka, kb) := h1
                        obtain ⟨s, h2, h3⟩ := Pk_mem (L := L5) (p := (ka, kb)) (by omega)
                        have hpp := (HPk.out (ka, kb)).2 ⟨s, h2, h3⟩
                        have := (hT12.later hbk).look hwf
                        rw [show (ThF ps (ka, kb)).getD elI.z = 1 by unfold ThF; rw [if_pos hpp]; rfl] at this
                        exact this
                      have HL2 := Lib.hid hlt2
                      clear hlt2 hS12 hT12 hbk hkr' hlt hgr hsz hfp hwf HS hrun hen
                      by_cases hn : 0 < n
                      · have hl := HL2.out hn
                        have hn2 : (n > 0) := hn
                        clear HL2
                        go_wp2_with fail
                        go_roundw
                        case rel => exact HR.out
                        case measure => exact HML.out
                      · have hn2 : ¬ (n > 0) := hn
                        clear HL2
                        go_wp2_with fail
                        go_roundw
                        case rel => exact HR.out
                        case measure => exact HML.out
    · as_aux_lemma =>
      have hcs : (¬ (i : Int) < (zl : Int)) ∨ ((i : Int) < (zl : Int) ∧ ¬ (i : Int) < 80) := by omega
      clear hgo
      rcases hcs with i1 | ⟨i1, i2⟩
      all_goals
        have HDt := Lib.hid (dirty_any HS.out.lw.ca)
        go_wp2_with fail
        refine HDt.out.mono ?_
        rintro e w5 ⟨qs, hqs, la, lc, rfl, hown, hb5⟩
        obtain ⟨q, hq⟩ : ∃ q, qs.length = q := ⟨_, rfl⟩
        rw [hq] at hown ⊢
        have HDm : Hid (∀ p, p ∈ qs ↔ (fd p).isSome = true) := (HS.out.dty hqs).2
        have hq8 : q ≤ 8 := by
          have h1 : (L.filter fun s => s.dirty).length ≤ L.length := List.length_filter_le _ _
          have h2 := hqs.1.length_eq
          rw [List.length_map] at h2
          have := HS.out.lw.ca.lenr
          omega
        have HSt5 : Hid (FnR w bc bm r md mp i fd nd kd fp np kp wr.heap.size la lc q qs (.int .i64 0) w5) := ⟨0, L, Nat.zero_le _, rfl, HS.out.later hb5, hown⟩
        clear hown hb5 hqs HDt HS
        generalize wr.heap.size = C at *
        go_wp2_with fail
        go_loopw [206] (fun v wx => FnR w bc bm r md mp i fd nd kd fp np kp C la lc q qs v wx) (fun v _ => q - (intOf v).toNat)
        case atStart => exact HSt5.out
        case round =>
          clear HSt5
          obtain ⟨t, L', ht, rfl, hS, hown⟩ := hrel
          have HS := Lib.hid (And.intro hS hown)
          clear hS hown
          have t0 : (0 : Int) ≤ (t : Int) := by omega
          by_cases htq : t < q
          · have t1 : (t : Int) < (q : Int) := by omega
            obtain ⟨p, hp⟩ : ∃ p, qs[t]? = some p := ⟨_, List.getElem?_eq_getElem (by omega)⟩
            have hfs := (HDm.out p).1 (List.mem_of_getElem? hp)
            have hdd := HS.out.1.dd p
            obtain ⟨d, g', hfd, hDk, hBB⟩ : ∃ d g', fd p = some (some g') ∧ Dk L' p = some d ∧ BBlk wr g' (dtL d) := by
              have h1 := hdd.is
              cases h2 : Dk L' p with
              | none => rw [h2] at h1; rw [h1] at hfs; cases hfs
              | some d =>
                cases h3 : fd p with
                | none => rw [h3] at hfs; cases hfs
                | some o =>
                  rw [h2, h3] at hdd
                  cases o with
                  | none => exact hdd.elim
                  | some g' => exact ⟨d, g', rfl, rfl, hdd⟩
            have hws : wfK p := by
              obtain ⟨s, h1, h2, -⟩ := Dk_mem (L := L') (p := p) (by rw [hDk]; rfl)
              rw [← h2]
              exact HS.out.1.lw.ca.wfs s h1
            have hgt : getK L' p = ((getK L' p).1, some d) := by
              have h1 := hDk
              unfold Dk at h1
              unfold getK
              cases hf : findK L' p with
              | none => rw [hf] at h1; cases h1
              | some s =>
                rw [hf] at h1
                simp only at h1 ⊢
                by_cases hd : s.dirty = true
                · rw [if_pos hd] at h1
                  cases h1
                  rfl
                · rw [if_neg hd] at h1; cases h1
            obtain ⟨g, rfl, k0, k1⟩ := own_key HS.out.2 hp
            obtain ⟨ka, kb⟩ := p
            have k0 : wr.cell? ⟨g, t * 2, none⟩ = some (.int .i64 ka) := k0
            have k1 : wr.cell? ⟨g, t * 2 + 1, none⟩ = some (.int .i64 kb) := k1
            have HT : Hid (t < q ∧ i + t ≤ 4000000000000000000) := ⟨htq, by omega⟩
            go_upto_region 54 with (fail)
            clear k0 k1
            obtain ⟨wk, hwk⟩ : ∃ wk, wk = wr.alloc (.cells #[.int .i64 ka, .int .i64 kb] KT) := ⟨_, rfl⟩
            rw [← hwk]
            have hbk : Below wr.heap.size wr wk := by rw [hwk]; exact sup_pc9 wr _
            have hXk : Blo wk wr.heap.size KT #[.int .i64 ka, .int .i64 kb] := by rw [hwk]; exact blo_laid wr _ _
            have HSk := Lib.hid (And.intro (HS.out.1.later hbk) (own_later HS.out.2 hbk))
            have HBk := Lib.hid (hBB.later hbk)
            have HXk := Lib.hid hXk
            generalize wr.heap.size = kx at *
            have HGt := Lib.hid (HSk.out.1.lw.get_someO hws HT.out.2 hgt)
            have k0 := hXk.cell 0
            have k1 := hXk.cell 1
            simp at k0 k1
            have HWs := Lib.hid hws
            have HFd := Lib.hid hfd
            clear hwk hbk hXk hgt hws hfd hDk hBB hdd hfs hp HS
            go_wp2_with (fail)
            refine HGt.out.mono ?_
            rintro e w7 ⟨g7, c7, rfl, hL7, hown7, ho7⟩
            have HS7 : Hid (KeS w bc bm r md mp (i + t + 1) (getK L' (ka, kb)).1 (getK L' (ka, kb)).1 fd nd kd fp np kp w7) := (HSk.out.1.call (hL7.mono (Nat.le_succ _) (Nat.le_refl _)).ca ho7).same (fun q => get_D q)
            have HO7 := Lib.hid (own_call HSk.out.1.lw.ca ho7 HSk.out.2)
            have hX7 := (ho7.blo HXk.out (xc_key HSk.out.1.lw.ca HXk.out)).drew
            have hbd : Below w7.heap.size w7 w7.drew := (Below.refl w7.heap.size w7).drew
            have hB7 : BBlk w7.drew g' (dtL d) := (show BBlk w7 g' (dtL d) from ⟨ho7.blo HBk.out.1 (xc_u8 HSk.out.1.lw.ca HBk.out.1), HBk.out.2⟩).later hbd
            have hcv2 := str_blk hB7
            have hcv1 : (convert BYS 9 (.slice (some ⟨g7, 0, none⟩) 64 c7)).run Try.prog w7.drew = .ok (.string (strOf (dtL d))) w7.drew := by
              obtain ⟨a', cap', q1, -, q2, -⟩ := Bytes.own (own_later hown7 hbd) HBk.out.2.2
              cases q1
              exact run_str w7.drew _ _ _ Try.underlying35 Try.underlying5 Try.underlying9 (dtL d) _ 64 c7 (dtL_len _).symm q2
            have hlk : (Instr.lookup 54 (.map (some md)) (.agg #[.int .i64 ka, .int .i64 kb]) false).run Try.prog w7.drew = .ok (.slice (some ⟨g', 0, none⟩) 64 64) w7.drew := by
              have := (HS7.out.dm.later hbd).look HWs.out
              rw [HFd.out] at this
              exact this
            have HK4 : Hid (w7.drew.cell? ⟨kx, 0, none⟩ = some (.int .i64 ka) ∧ w7.drew.cell? ⟨kx, 1, none⟩ = some (.int .i64 kb)) := ⟨hX7.cell 0, hX7.cell 1⟩
            have HR : Hid (FnR w bc bm r md mp i fd nd kd fp np kp C (some ⟨g, 0, none⟩) lc q qs (.int .i64 ((t : Int) + 1)) w7.drew) := ⟨t + 1, _, HT.out.1, rfl, HS7.out.later hbd, own_later HO7.out hbd⟩
            have HM := Lib.hid HT.out.1
            clear hL7 hown7 ho7 HGt HSk HBk HXk HWs HFd HS7 HO7 hX7 hbd hB7 k0 k1
            generalize strOf (dtL d) = sd at *
            have hss : (sd.toList == sd.toList) = true := by simp
            go_upto_region 55 with (fail)
            go_region_held (fun W => W.cell? ⟨kx, 0, none⟩ = some (.int .i64 ka) ∧ W.cell? ⟨kx, 1, none⟩ = some (.int .i64 kb))
              (first | exact HK4.out)
              (fail)
            all_goals
              go_wp2_with fail
              go_roundw
              case rel => exact HR.out
              case measure => have := HM.out; simp [intOf]; omega
          · have t1 : ¬ (t : Int) < (q : Int) := by omega
            have HB := Lib.hid HS.out.1.lw.below
            clear HS
            go_wp2_with fail
            go_ret
            exact ⟨rfl, HB.out⟩
theorem cacheKeeps_walk (a : Int) (za : Option Addr) (zl zc : Nat) (F : Nat → OpC) (w : World) (_ : (Lit.int .i64 a).wf = true) (hz : COps w za zl F) :
    Calls Try.prog 4 #[.int .i64 a, .slice za zl zc] w fun e w' => e = .returned (.bool true) ∧ Below w.heap.size w w' := cacheKeeps_any a za zl zc F w hz
end Go.Proofs.Ytdnkeplmjimjcaa
