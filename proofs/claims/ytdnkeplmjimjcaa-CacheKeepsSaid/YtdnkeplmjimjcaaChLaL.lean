/-
  The walk of CacheLast.
-/
import Derived.Test.YtdnkeplmjimjcaaChLaM
import Derived.Test.YtdnkeplmjimjcaaChRwL
namespace Go.Proofs.Ytdnkeplmjimjcaa
open Go.RowKit

structure LaS (w : World) (bc bm : Nat) (r : Int) (mg i : Nat) (L : List Bk) (f : Int × Int → Option ByteArray) (n : Nat) (ks : List (Int × Int)) (wr : World) : Prop where
  lw : LwS w bc bm r i i L [] wr
  mp : KG elS wr mg n f ks
  inv : LaI L f
  cnt : n ≤ i
  ne : mg ≠ bm
  low : w.heap.size ≤ mg
section
variable {w wr w' W W' : World} {bc bm mg i : Nat} {r : Int} {N T N' T' : Nat} {L L' : List Bk} {f : Int × Int → Option ByteArray} {n : Nat} {ks : List (Int × Int)}
theorem mp_xc {E : Type} {M : Elm E} {f : Int × Int → Option E} {base : Nat} (h : KG M W mg n f ks) (hne : mg ≠ bm) (hC : CA W bc bm base r N T L) : ¬ XC W bc bm base mg := by
  obtain ⟨n', f', ks', uses, v, hK, -, hB⟩ := hC.len
  rintro ⟨-, e | e | ⟨t, cs, q1, q2⟩⟩
  · exact h.blo hB e
  · exact hne e
  · exact h.blo q1 rfl
theorem KG.outq {E : Type} {M : Elm E} {f : Int × Int → Option E} {X : Nat → Prop} (h : KG M W mg n f ks) (ho : Out X W w') (hx : ¬ X mg) : KG M w' mg n f ks := h.same (fun o e => (ho.block mg h.lt hx).trans e)
theorem LaS.later (h : LaS w bc bm r mg i L f n ks wr) (hb : Below wr.heap.size wr w') : LaS w bc bm r mg i L f n ks w' := ⟨h.lw.later hb, h.mp.later hb, h.inv, h.cnt, h.ne, h.low⟩
theorem LaS.up (h : LaS w bc bm r mg i L f n ks wr) : LaS w bc bm r mg (i + 1) L f n ks wr := ⟨h.lw.mono (by omega) (by omega), h.mp, h.inv, by have := h.cnt; omega, h.ne, h.low⟩
theorem LwS.map {E : Type} {M : Elm E} {f : Int × Int → Option E} (h : LwS w bc bm r N T L [] W) (hM : KG M W mg n f ks) (hne : mg ≠ bm) (hlow : w.heap.size ≤ mg) (hg : W.grownBy W' (some mg)) : LwS w bc bm r N T L [] W' := by
  have ho : Out (fun g => g = mg) W W' := Out.of_grown hg (fun g e => by cases e; rfl)
  exact ⟨h.ca.out ho (fun g hx e => by rw [e] at hx; exact mp_xc hM hne h.ca hx), fun q hq => (by cases hq), h.below.trans (ho.below h.below.size (fun g _ e => by omega))⟩
theorem str_blk {W : World} {g : Nat} {l : List Nat} (hg : BBlk W g l) : (convert BYS 9 (.slice (some ⟨g, 0, none⟩) 64 64)).run Try.prog W = .ok (.string (strOf l)) W :=
  run_str W _ _ _ Try.underlying35 Try.underlying5 Try.underlying9 l _ 64 64 hg.2.1.symm ⟨hg.2.2, by rw [hg.2.1]; decide, fun _ => ⟨g, 0, rfl, fun i hi => by rw [Nat.zero_add, hg.1.cell, List.getElem?_toArray, cellsB_get _ i hi]⟩⟩
theorem play_nod {room : Int} {x : OpC} (h : x.k ≠ 2) : (playK room L x).2.2 = none := by
  unfold playK
  by_cases h1 : x.k = 1
  · rw [if_pos h1]
  rw [if_neg h1, if_neg h]
  by_cases h3 : x.k = 3
  · rw [if_pos h3]
  rw [if_neg h3]
  by_cases h4 : x.k = 4
  · rw [if_pos h4]
  rw [if_neg h4]
  by_cases h5 : x.k = 5
  · rw [if_pos h5]
  rw [if_neg h5]
  by_cases h6 : x.k = 6
  · rw [if_pos h6]
  rw [if_neg h6]
theorem CA.wfs {base : Nat} (h : CA W bc bm base r N T L) : ∀ s ∈ L, wfK s.key := fun s hs => by
  obtain ⟨x, hC, rfl⟩ := h
  unfold lstK at hs
  obtain ⟨b, hb, rfl⟩ := List.mem_map.1 hs
  exact hC.ps.wf b hb
theorem CA.lenr {base : Nat} (h : CA W bc bm base r N T L) : (L.length : Int) ≤ r := by
  obtain ⟨x, hC, rfl⟩ := h
  have := hC.ps.rm
  simp [lstK]
  omega
theorem xc_op {base g : Nat} {cs : Array Value} (hC : CA W bc bm base r N T L) (h : Blo W g OpTy cs) : ¬ XC W bc bm base g := by
  obtain ⟨n, f, ks, uses, v, hK, -, hB⟩ := hC.len
  rintro ⟨-, e | e | ⟨t, cs, q1, q2⟩⟩
  · exact h.apart hB (by decide) e
  · exact hK.blo h e.symm
  · unfold Blo at h q1
    rw [q1] at h
    cases h
    rcases q2 with e | e
    · exact absurd e (by decide)
    · exact absurd e (by decide)
end
def LaQ (w : World) (bc bm : Nat) (r : Int) (mg i : Nat) (L : List Bk) (f : Int × Int → Option ByteArray) (n : Nat) (ks : List (Int × Int)) (C : Nat) (la : Option Addr) (lc q : Nat) (ps : List (Int × Int)) (v : Value) (wr : World) : Prop :=
  ∃ (t : Nat) (L' : List Bk), t ≤ q ∧ v = .int .i64 (t : Int) ∧ SmL L L' ∧ LwS w bc bm r i (i + t) L' [] wr ∧ KG elS wr mg n f ks ∧ wr.ownsRow C KT 2 (.slice la q lc) q (flatP ps)
def LaR (w : World) (bc bm : Nat) (r : Int) (mg zl : Nat) (v : Value) (wr : World) : Prop :=
  ∃ (i : Nat) (L : List Bk) (f : Int × Int → Option ByteArray) (n : Nat) (ks : List (Int × Int)), i ≤ 80 ∧ i ≤ zl ∧ v = .int .i64 (i : Int) ∧ LaS w bc bm r mg i L f n ks wr
set_option maxRecDepth 100000 in
set_option maxHeartbeats 8000000 in
theorem cacheLast_any (a : Int) (za : Option Addr) (zl zc : Nat) (F : Nat → OpC) (w : World) (hz : COps w za zl F) :
    Calls Try.prog 7 #[.int .i64 a, .slice za zl zc] w fun e w' => e = .returned (.bool true) ∧ Below w.heap.size w w' := by
  obtain ⟨m, hm, hme⟩ := cut_mod a 7 (by decide)
  have hme : wrap64 ((IntKind.u64.wrap a).tmod 8) = (m : Int) := hme
  obtain ⟨r, hr⟩ : ∃ r, r = m + 1 := ⟨_, rfl⟩
  have e2 : Hid ((m : Int) + 1 = (r : Int)) := by show (m : Int) + 1 = (r : Int); omega
  have hr1 : (1 : Int) ≤ (r : Int) := by omega
  have hr2 : (r : Int) ≤ 8 := by omega
  have HZ := Lib.hid hz
  have hzl := hz.1
  clear hr hz
  go_enter Try.func7, Try.ntmps7
  go_wp2_with fail
  refine (awake_any _).mono ?_
  rintro e w1 ⟨rfl, hb1⟩
  have HB1 := Lib.hid hb1
  clear hb1
  have hNew := Lib.hid (new_any (room := r) hr1 (by omega) w1)
  go_wp2_with fail
  try rw [hme]
  rw [e2.out]
  clear hme
  refine hNew.out.mono ?_
  rintro e w2 ⟨rfl, hn2, hb2⟩
  have hmm : (Instr.makeMap 63 none).run Try.prog w2 = .ok (.map (some w2.heap.size)) (w2.alloc (.map #[] 0)) := rfl
  have HSt : Hid (LaR w (w1.heap.size + 1) w1.heap.size r w2.heap.size zl (.int .i64 0) (w2.alloc (.map #[] 0))) := by
    have h1 := HB1.out.size
    have hCA : CA w2 (w1.heap.size + 1) w1.heap.size w.heap.size r 0 0 [] := hn2.ca hr1 (by omega) (by omega) h1
    have h2 := hb2.size
    have h3 := hn2.km.lt
    refine ⟨0, [], fun _ => none, 0, [], by omega, by omega, rfl, ⟨(⟨hCA, fun q hq => (by cases hq), HB1.out.trans (hb2.mono h1)⟩ : LwS w (w1.heap.size + 1) w1.heap.size r 0 0 [] [] w2).later (sup_pc9 _ _), KG.made elS w2, fun s hs => (by cases hs), Nat.le_refl _, by omega, by omega⟩⟩
  clear hn2 hb2 HB1 hNew e2 hm
  go_wp2_with fail
  clear hmm
  generalize w1.heap.size + 1 = bc at *
  generalize w1.heap.size = bm at *
  generalize w2.heap.size = mg at *
  go_loopw [8] (fun v wr => LaR w bc bm r mg zl v wr) (fun v _ => zl - (intOf v).toNat)
  case atStart => exact HSt.out
  case round =>
    clear HSt
    obtain ⟨i, L, f, n, ks, hi80, hizl, rfl, hS⟩ := hrel
    have HS := Lib.hid hS
    clear hS
    have i0 : (0 : Int) ≤ (i : Int) := by omega
    by_cases hgo : i < zl ∧ i < 80
    · have i1 : (i : Int) < (zl : Int) := by omega
      have i2 : (i : Int) < 80 := by omega
      obtain ⟨zb, zo, ba, bn, bcp, hza, hop0, hcells0⟩ := HZ.out.2 i hgo.1
      have hop := hop0.below HS.out.lw.below
      have hcells := fun j v hj => cell_later HS.out.lw.below (hcells0 j v hj)
      subst hza
      obtain ⟨x, hx⟩ : ∃ x, F i = x := ⟨_, rfl⟩
      rw [hx] at hop hcells hop0
      obtain ⟨xk, ⟨k1, k2⟩, xb, raw, dirty⟩ := x
      have c0 : wr.cell? ⟨zb, zo + i * 6, none⟩ = some (.int .i64 xk) := hcells 0 _ rfl
      have c1 : wr.cell? ⟨zb, zo + i * 6 + 1, none⟩ = some (.int .i64 k1) := hcells 1 _ rfl
      have c2 : wr.cell? ⟨zb, zo + i * 6 + 2, none⟩ = some (.int .i64 k2) := hcells 2 _ rfl
      have c3 : wr.cell? ⟨zb, zo + i * 6 + 3, none⟩ = some (.slice ba bn bcp) := hcells 3 _ rfl
      have c4 : wr.cell? ⟨zb, zo + i * 6 + 4, none⟩ = some (.bool raw) := hcells 4 _ rfl
      have c5 : wr.cell? ⟨zb, zo + i * 6 + 5, none⟩ = some (.bool dirty) := hcells 5 _ rfl
      have HBw : Hid (BytesIn w ba bn bcp xb) := hop0.b
      have HOp := Lib.hid hop
      have HI := Lib.hid hgo
      clear hcells hcells0 hx hop hop0 hgo hi80 hizl
      go_upto_region 11 with (fail)
      clear c0 c1 c2 c3 c4 c5
      obtain ⟨wk, hwk⟩ : ∃ wk, wk = wr.alloc (.cells #[.int .i64 xk, .int .i64 k1, .int .i64 k2, .slice ba bn bcp, .bool raw, .bool dirty] OpTy) := ⟨_, rfl⟩
      rw [← hwk]
      have HBk : Hid (Below wr.heap.size wr wk) := by rw [hwk]; exact sup_pc9 wr _
      have HXk : Hid (Blo wk wr.heap.size OpTy #[.int .i64 xk, .int .i64 k1, .int .i64 k2, .slice ba bn bcp, .bool raw, .bool dirty]) := by rw [hwk]; exact blo_laid wr _ _
      have d3 : wk.cell? ⟨wr.heap.size, 3, none⟩ = some (.slice ba bn bcp) := HXk.out.cell 3
      clear hwk
      have HBz : Hid (∀ W, Below w.heap.size w W → BytesIn W ba bn bcp xb) := fun W hb => HBw.out.below hb
      by_cases hbig : 200 < bn
      · have hb1 : (bn : Int) > 200 := by omega
        have HF := Lib.hid ((HS.out.later HBk.out).up)
        clear HBk HXk HS
        have HR : Hid (LaR w bc bm r mg zl (.int .i64 ((i : Int) + 1)) wk) := ⟨i + 1, _, _, _, _, by have := HI.out; omega, by have := HI.out; omega, rfl, HF.out⟩
        have HM := Lib.hid HI.out.1
        clear HF
        go_wp2_with fail
        go_roundw
        case rel => exact HR.out
        case measure => have := HM.out; simp [intOf]; omega
      · have hb1 : ¬ (bn : Int) > 200 := by omega
        obtain ⟨gb, hgb⟩ : ∃ gb, gb = wr.heap.size := ⟨_, rfl⟩
        rw [← hgb] at HXk d3 ⊢
        have HGb := Lib.hid hgb
        clear hgb
        have d4 : wk.cell? ⟨gb, 4, none⟩ = some (.bool raw) := HXk.out.cell 4
        have f4 := HXk.out.frozen 4
        obtain ⟨w3, hw3⟩ : ∃ w3, w3 = wk.setCell ⟨gb, 4, none⟩ (.bool false) := ⟨_, rfl⟩
        have HB3 : Hid (Below wr.heap.size wr w3) := by rw [hw3]; exact HBk.out.setCell (p := ⟨gb, 4, none⟩) (by rw [HGb.out]; exact Nat.le_refl _) _
        have HX3 : Hid (Blo w3 gb OpTy #[.int .i64 xk, .int .i64 k1, .int .i64 k2, .slice ba bn bcp, .bool false, .bool dirty]) := by
          have := HXk.out.put 4 (.bool false)
          rw [hw3]
          exact this
        have HS3 := Lib.hid (HS.out.later HB3.out)
        have HOp3 : Hid (OpCIs w3 ba bn bcp ⟨xk, (k1, k2), xb, false, dirty⟩) := ⟨HOp.out.b.below HB3.out, HOp.out.wf⟩
        have HZb : Hid (∀ W, Below w.heap.size w W → BytesIn W ba bn bcp xb) := fun W hb => HBz.out W hb
        have HPl := Lib.hid (play_any HS3.out.lw.ca HOp3.out (by show xb.length ≤ 200; have := HOp.out.b.1; have : bn = xb.length := this; omega) (by have := HI.out; omega) (by have := HI.out; omega))
        have e0 := HX3.out.cell 0
        have e1 := HX3.out.cell 1
        have e2 := HX3.out.cell 2
        have e3 := HX3.out.cell 3
        have e4 := HX3.out.cell 4
        have e5 := HX3.out.cell 5
        simp at e0 e1 e2 e3 e4 e5
        go_upto_region 13 with (fail)
        rw [← hw3]
        clear hw3 d3 d4 f4 HXk HBk HS HGb HB3
        go_wp2_with fail
        refine HPl.out.mono ?_
        rintro e w4 ⟨hC4, ho4, hr4⟩
        clear e0 e1 e2 e3 e4 e5
        have HX4 := Lib.hid (ho4.blo HX3.out (xc_op HS3.out.lw.ca HX3.out))
        have HM4 := Lib.hid (HS3.out.mp.outq ho4 (mp_xc HS3.out.mp HS3.out.ne HS3.out.lw.ca))
        have HL4 : Hid (LwS w bc bm r (i + 1) (i + 1) (playK r L ⟨xk, (k1, k2), xb, false, dirty⟩).1 [] w4) := HS3.out.lw.call hC4 ho4
        clear hC4 ho4 HPl HX3
        have e0 : w4.cell? ⟨gb, 0, none⟩ = some (.int .i64 xk) := HX4.out.cell 0
        by_cases hk1 : xk = 1
        · subst hk1
          obtain ⟨P, hP⟩ : ∃ P, putK r L (k1, k2) (byt xb) dirty = P := ⟨_, rfl⟩
          have hR : playK r L ⟨1, (k1, k2), xb, false, dirty⟩ = (P.1, P.2, none) := by rw [← hP]; rfl
          rw [hR] at HL4 hr4
          obtain ⟨-, rfl⟩ | ⟨d, g, c, q, -, -⟩ := hr4
          · have HPq := Lib.hid hP
            clear hR hP
            by_cases hc0 : P.2 = 0
            · rw [hc0]
              have HInv : Hid (LaI P.1 (updP f (k1, k2) (some (strOf (byt xb))))) := by
                have := HPq.out
                subst this
                exact HS3.out.inv.put (byt_byte HOp3.out.b.2.1.1) hc0
              have HKp : Hid (∀ W : World, Below w4.heap.size w4 W → W.cell? ⟨gb, 0, none⟩ = some (.int .i64 1) ∧ W.cell? ⟨gb, 1, none⟩ = some (.int .i64 k1) ∧ W.cell? ⟨gb, 2, none⟩ = some (.int .i64 k2) ∧ W.cell? ⟨gb, 3, none⟩ = some (.slice ba bn bcp)) := fun W hb =>
                ⟨(HX4.out.later hb).cell 0, (HX4.out.later hb).cell 1, (HX4.out.later hb).cell 2, (HX4.out.later hb).cell 3⟩
              have HBx : Hid (BytesIn w4 ba bn bcp xb) := (HZb.out w4 HL4.out.below)
              have HBy : Hid (Calls Try.prog 12 #[.slice ba bn bcp] w4.drew (BytO w4.drew (byt xb))) := bytes_any ba bn bcp xb w4.drew HBx.out.1 (by have := HBx.out.2.2.2.2; omega) (HBx.out.2.1.below ((Below.refl _ _).drew))
              have HWf := Lib.hid HOp3.out.wf
              clear hc0 HOp3
              go_upto_region 15 with (fail)
              clear e0
              first | (go_region_held (fun W => W.cell? ⟨gb, 0, none⟩ = some (.int .i64 1) ∧ W.cell? ⟨gb, 1, none⟩ = some (.int .i64 k1) ∧ W.cell? ⟨gb, 2, none⟩ = some (.int .i64 k2) ∧ W.cell? ⟨gb, 3, none⟩ = some (.slice ba bn bcp))
                (first | exact HKp.out _ ((Below.refl _ _).drew) | exact HKq.out | exact HKp.out _ HBb.out | fail)
                (first
                  | (go_at_call 12; (with_reducible refine HBy.out.mono ?_); rintro e Wb ⟨g2, rfl, hg2, -, hb2⟩; have HBb := Lib.hid (((Below.refl w4.heap.size w4).drew).trans (hb2.mono (Nat.le_refl _))); have hcv := str_blk hg2; obtain ⟨w5, hrun, hM5, hg5⟩ := (HM4.out.later HBb.out).put (by have := HS3.out.cnt; have := HI.out; omega) HWf.out (strOf (byt xb)); have hrun : (Instr.mapUpdate 63 (.map (some mg)) (.agg #[.int .i64 k1, .int .i64 k2]) (.string (strOf (byt xb)))).run Try.prog Wb = .ok () w5 := hrun; have HM5 := Lib.hid hM5; have HG5 := Lib.hid hg5; have HX5 := Lib.hid ((HX4.out.later HBb.out).grown hg5 (fun e => by cases e; exact (HM4.out.later HBb.out).blo (HX4.out.later HBb.out) rfl)); have HKq : Hid (w5.cell? ⟨gb, 0, none⟩ = some (.int .i64 1) ∧ w5.cell? ⟨gb, 1, none⟩ = some (.int .i64 k1) ∧ w5.cell? ⟨gb, 2, none⟩ = some (.int .i64 k2) ∧ w5.cell? ⟨gb, 3, none⟩ = some (.slice ba bn bcp)) := ⟨HX5.out.cell 0, HX5.out.cell 1, HX5.out.cell 2, HX5.out.cell 3⟩; clear hg2 hb2 hM5 hg5)
                  | fail)) | fail
              all_goals
                rename_i hHeld
                have HF : Hid (LaS w bc bm r mg (i + 1) P.1 (updP f (k1, k2) (some (strOf (byt xb)))) (n + 1) (addP ks (k1, k2)) w5) := ⟨(HL4.out.later HBb.out).map (HM4.out.later HBb.out) HS3.out.ne HS3.out.low HG5.out, HM5.out, HInv.out, by have := HS3.out.cnt; omega, HS3.out.ne, HS3.out.low⟩
                obtain ⟨e0, -⟩ := HKq.out
                clear hHeld HKp HKq HBy HBb HM5 HG5 HX5 HInv HWf HL4 HM4 HX4 HS3 HBx HPq hcv hrun
                have HR : Hid (LaR w bc bm r mg zl (.int .i64 ((i : Int) + 1)) w5) := ⟨i + 1, _, _, _, _, by have := HI.out; omega, by have := HI.out; omega, rfl, HF.out⟩
                have HM := Lib.hid HI.out.1
                clear HF
                go_wp2_with fail
                go_roundw
                case rel => exact HR.out
                case measure => have := HM.out; simp [intOf]; omega
            · have hc1 : (P.2 == 0) = false := by simpa using hc0
              have hc2 : P.1 = L := by
                have := HPq.out
                subst this
                exact put_no hc0
              have HF : Hid (LaS w bc bm r mg (i + 1) P.1 f n ks w4) := ⟨HL4.out, HM4.out, by rw [hc2]; exact HS3.out.inv, by have := HS3.out.cnt; omega, HS3.out.ne, HS3.out.low⟩
              clear hc0 hc2 HL4 HM4 HX4 HS3 HOp3 HPq
              have HR : Hid (LaR w bc bm r mg zl (.int .i64 ((i : Int) + 1)) w4) := ⟨i + 1, _, _, _, _, by have := HI.out; omega, by have := HI.out; omega, rfl, HF.out⟩
              have HM := Lib.hid HI.out.1
              clear HF
              go_wp2_with fail
              go_roundw
              case rel => exact HR.out
              case measure => have := HM.out; simp [intOf]; omega
          · cases q
        · have hk1' : (xk == 1) = false := by simpa using hk1
          have HSb : Hid (LaS w bc bm r mg (i + 1) (playK r L ⟨xk, (k1, k2), xb, false, dirty⟩).1 f n ks w4) := ⟨HL4.out, HM4.out, HS3.out.inv.sub (play_sub hk1), by have := HS3.out.cnt; omega, HS3.out.ne, HS3.out.low⟩
          by_cases hk2 : xk = 2
          · subst hk2
            have hR : playK r L ⟨2, (k1, k2), xb, false, dirty⟩ = ((getK L (k1, k2)).1, 0, (getK L (k1, k2)).2) := rfl
            rw [hR] at hr4 HSb
            obtain ⟨-, rfl⟩ | ⟨d, g, c, hd, rfl, hown⟩ := hr4
            · have HF := HSb
              clear hR HSb HL4 HM4 HX4 HS3 HOp3 hk1 hk1'
              have HR : Hid (LaR w bc bm r mg zl (.int .i64 ((i : Int) + 1)) w4) := ⟨i + 1, _, _, _, _, by have := HI.out; omega, by have := HI.out; omega, rfl, HF.out⟩
              have HM := Lib.hid HI.out.1
              clear HF
              go_wp2_with fail
              go_roundw
              case rel => exact HR.out
              case measure => have := HM.out; simp [intOf]; omega
            · obtain ⟨s, hs, hsk, hsd⟩ := get_dat hd
              have hin := HS3.out.inv s hs
              rw [hsk, ← hsd] at hin
              have hlk := HM4.out.look_ok HOp3.out.wf
              have hlk : (Instr.lookup 63 (.map (some mg)) (.agg #[.int .i64 k1, .int .i64 k2]) true).run Try.prog w4 = .ok (.tuple #[.string (strOf (dtL d)), .bool true]) w4 := by
                have h := hlk
                rw [show f (k1, k2) = some (strOf (dtL d)) from hin.1] at h
                exact h
              have hcv : (convert BYS 9 (.slice (some ⟨g, 0, none⟩) 64 c)).run Try.prog w4 = .ok (.string (strOf (dtL d))) w4 := by
                obtain ⟨a', cap', q1, -, q2, -⟩ := Bytes.own hown hin.2
                cases q1
                exact run_str w4 _ _ _ Try.underlying35 Try.underlying5 Try.underlying9 (dtL d) _ 64 c (dtL_len _).symm q2
              have e1 : w4.cell? ⟨gb, 1, none⟩ = some (.int .i64 k1) := HX4.out.cell 1
              have e2 : w4.cell? ⟨gb, 2, none⟩ = some (.int .i64 k2) := HX4.out.cell 2
              have HF := HSb
              clear hR HSb HL4 HM4 HX4 HS3 HOp3 hk1 hk1' hs hsk hsd hin hd hown
              generalize strOf (dtL d) = sd at *
              have hss : (sd.toList == sd.toList) = true := by simp
              have HR : Hid (LaR w bc bm r mg zl (.int .i64 ((i : Int) + 1)) w4) := ⟨i + 1, _, _, _, _, by have := HI.out; omega, by have := HI.out; omega, rfl, HF.out⟩
              have HM := Lib.hid HI.out.1
              clear HF
              go_wp2_with fail
              go_roundw
              case rel => exact HR.out
              case measure => have := HM.out; simp [intOf]; omega
          · have hk2' : (xk == 2) = false := by simpa using hk2
            obtain ⟨c, hc⟩ : ∃ c, (playK r L ⟨xk, (k1, k2), xb, false, dirty⟩).2.1 = c := ⟨_, rfl⟩
            rw [hc] at hr4
            obtain ⟨-, rfl⟩ | ⟨d, g, c', hd, -, -⟩ := hr4
            · have HF := HSb
              clear HSb HL4 HM4 HX4 HS3 HOp3 hk1 hk2 hc
              have HR : Hid (LaR w bc bm r mg zl (.int .i64 ((i : Int) + 1)) w4) := ⟨i + 1, _, _, _, _, by have := HI.out; omega, by have := HI.out; omega, rfl, HF.out⟩
              have HM := Lib.hid HI.out.1
              clear HF
              go_wp2_with fail
              go_roundw
              case rel => exact HR.out
              case measure => have := HM.out; simp [intOf]; omega
            · rw [play_nod (show (OpC.mk xk (k1, k2) xb false dirty).k ≠ 2 from hk2)] at hd
              cases hd
    · by_cases hz1 : i < zl
      · have i1 : (i : Int) < (zl : Int) := by omega
        have i2 : ¬ (i : Int) < 80 := by omega
        clear hgo
        obtain ⟨ps, hps⟩ : ∃ ps, L.map Bk.key = ps := ⟨_, rfl⟩
        obtain ⟨q, hq⟩ : ∃ q, ps.length = q := ⟨_, rfl⟩
        have HOr := Lib.hid (order_any HS.out.lw.ca)
        rw [hps] at HOr
        have HPs : Hid (∀ t, t < q → ∃ s ∈ L, ps[t]? = some s.key) := fun t ht => by
          have h1 : t < L.length := by rw [← hq, ← hps, List.length_map] at ht; exact ht
          refine ⟨L[t], List.getElem_mem h1, ?_⟩
          rw [← hps, List.getElem?_map, List.getElem?_eq_getElem h1]
          rfl
        have HWk : Hid (∀ s ∈ L, wfK s.key) := HS.out.lw.ca.wfs
        have hq8 : q ≤ 8 := by
          have := HS.out.lw.ca.lenr
          rw [← hq, ← hps, List.length_map]
          omega
        clear hps
        go_wp2_with fail
        refine HOr.out.mono ?_
        rintro e w5 ⟨la, lc, rfl, hown, hb5⟩
        rw [hq] at hown ⊢
        have HSt5 : Hid (LaQ w bc bm r mg i L f n ks wr.heap.size la lc q ps (.int .i64 0) w5) := ⟨0, L, Nat.zero_le _, rfl, fun _ => Iff.rfl, HS.out.lw.later hb5, HS.out.mp.later hb5, hown⟩
        have HInv := Lib.hid HS.out.inv
        have HNe := Lib.hid HS.out.ne
        clear hown hb5 HOr HS hq
        generalize wr.heap.size = C at *
        go_wp2_with fail
        go_loopw [105] (fun v wx => LaQ w bc bm r mg i L f n ks C la lc q ps v wx) (fun v _ => q - (intOf v).toNat)
        case atStart => exact HSt5.out
        case round =>
          clear HSt5
          obtain ⟨t, L', ht, rfl, hsm, hS, hM, hown⟩ := hrel
          have HS := Lib.hid (And.intro hS (And.intro hM (And.intro hown hsm)))
          clear hS hM hown hsm
          have t0 : (0 : Int) ≤ (t : Int) := by omega
          by_cases htq : t < q
          · have t1 : (t : Int) < (q : Int) := by omega
            obtain ⟨s, hsL, hpt⟩ := HPs.out t htq
            obtain ⟨g, rfl, k0, k1⟩ := own_key HS.out.2.2.1 hpt
            have hws := HWk.out s hsL
            have hgt := HS.out.2.2.2.get HS.out.1.ca.nodup hsL
            have hin := HInv.out s hsL
            obtain ⟨⟨ka, kb⟩, sdat, sdir, spin⟩ := s
            have k0 : wr.cell? ⟨g, t * 2, none⟩ = some (.int .i64 ka) := k0
            have k1 : wr.cell? ⟨g, t * 2 + 1, none⟩ = some (.int .i64 kb) := k1
            have HT : Hid (t < q ∧ i + t ≤ 4000000000000000000) := ⟨htq, by omega⟩
            go_upto_region 23 with (fail)
            clear k0 k1
            obtain ⟨wk, hwk⟩ : ∃ wk, wk = wr.alloc (.cells #[.int .i64 ka, .int .i64 kb] KT) := ⟨_, rfl⟩
            rw [← hwk]
            have hbk : Below wr.heap.size wr wk := by rw [hwk]; exact sup_pc9 wr _
            have hXk : Blo wk wr.heap.size KT #[.int .i64 ka, .int .i64 kb] := by rw [hwk]; exact blo_laid wr _ _
            have HSk := Lib.hid (And.intro ((HS.out.1.later hbk).key hXk) (And.intro (HS.out.2.1.later hbk) (own_later HS.out.2.2.1 hbk)))
            have HGt := Lib.hid (HSk.out.1.get_someO hws HT.out.2 hgt.1)
            have HSm := Lib.hid hgt.2
            have HWs := Lib.hid hws
            have HIn := Lib.hid hin
            obtain ⟨k0, k1⟩ := HSk.out.1.cells (.head _)
            clear hwk hbk hXk hgt hws hin HS hpt
            generalize wr.heap.size = kx at *
            go_wp2_with fail
            refine HGt.out.mono ?_
            rintro e w7 ⟨g7, c7, rfl, hS7, hown7, ho7⟩
            have HS7 := Lib.hid hS7
            have HM7 := Lib.hid (HSk.out.2.1.outq ho7 (mp_xc HSk.out.2.1 HNe.out HSk.out.1.ca))
            have HO7 := Lib.hid (own_call HSk.out.1.ca ho7 HSk.out.2.2)
            have hlk : (Instr.lookup 63 (.map (some mg)) (.agg #[.int .i64 ka, .int .i64 kb]) true).run Try.prog w7 = .ok (.tuple #[.string (strOf (dtL sdat)), .bool true]) w7 := by
              have h := HM7.out.look_ok HWs.out
              rw [show f (ka, kb) = some (strOf (dtL sdat)) from HIn.out.1] at h
              exact h
            have hcv : (convert BYS 9 (.slice (some ⟨g7, 0, none⟩) 64 c7)).run Try.prog w7 = .ok (.string (strOf (dtL sdat))) w7 := by
              obtain ⟨a', cap', q1, -, q2, -⟩ := Bytes.own hown7 HIn.out.2
              cases q1
              exact run_str w7 _ _ _ Try.underlying35 Try.underlying5 Try.underlying9 (dtL sdat) _ 64 c7 (dtL_len _).symm q2
            have HR : Hid (LaQ w bc bm r mg i L f n ks C (some ⟨g, 0, none⟩) lc q ps (.int .i64 ((t : Int) + 1)) w7) := ⟨t + 1, _, HT.out.1, rfl, HSm.out, HS7.out.few, HM7.out, HO7.out⟩
            clear k0 k1
            obtain ⟨k0, k1⟩ := HS7.out.cells (.head _)
            have HM := Lib.hid HT.out.1
            clear hS7 hown7 ho7 HGt HSk HSm HWs HIn HS7 HM7 HO7 HT htq
            generalize strOf (dtL sdat) = sd at *
            have hss : (sd.toList == sd.toList) = true := by simp
            go_wp2_with fail
            go_roundw
            case rel => exact HR.out
            case measure => have := HM.out; simp [intOf]; omega
          · have t1 : ¬ (t : Int) < (q : Int) := by omega
            have HB := Lib.hid HS.out.1.below
            clear HS
            go_wp2_with fail
            go_ret
            exact ⟨rfl, HB.out⟩
      · have i1 : ¬ (i : Int) < (zl : Int) := by omega
        clear hgo hz1
        obtain ⟨ps, hps⟩ : ∃ ps, L.map Bk.key = ps := ⟨_, rfl⟩
        obtain ⟨q, hq⟩ : ∃ q, ps.length = q := ⟨_, rfl⟩
        have HOr := Lib.hid (order_any HS.out.lw.ca)
        rw [hps] at HOr
        have HPs : Hid (∀ t, t < q → ∃ s ∈ L, ps[t]? = some s.key) := fun t ht => by
          have h1 : t < L.length := by rw [← hq, ← hps, List.length_map] at ht; exact ht
          refine ⟨L[t], List.getElem_mem h1, ?_⟩
          rw [← hps, List.getElem?_map, List.getElem?_eq_getElem h1]
          rfl
        have HWk : Hid (∀ s ∈ L, wfK s.key) := HS.out.lw.ca.wfs
        have hq8 : q ≤ 8 := by
          have := HS.out.lw.ca.lenr
          rw [← hq, ← hps, List.length_map]
          omega
        clear hps
        go_wp2_with fail
        refine HOr.out.mono ?_
        rintro e w5 ⟨la, lc, rfl, hown, hb5⟩
        rw [hq] at hown ⊢
        have HSt5 : Hid (LaQ w bc bm r mg i L f n ks wr.heap.size la lc q ps (.int .i64 0) w5) := ⟨0, L, Nat.zero_le _, rfl, fun _ => Iff.rfl, HS.out.lw.later hb5, HS.out.mp.later hb5, hown⟩
        have HInv := Lib.hid HS.out.inv
        have HNe := Lib.hid HS.out.ne
        clear hown hb5 HOr HS hq
        generalize wr.heap.size = C at *
        go_wp2_with fail
        go_loopw [105] (fun v wx => LaQ w bc bm r mg i L f n ks C la lc q ps v wx) (fun v _ => q - (intOf v).toNat)
        case atStart => exact HSt5.out
        case round =>
          clear HSt5
          obtain ⟨t, L', ht, rfl, hsm, hS, hM, hown⟩ := hrel
          have HS := Lib.hid (And.intro hS (And.intro hM (And.intro hown hsm)))
          clear hS hM hown hsm
          have t0 : (0 : Int) ≤ (t : Int) := by omega
          by_cases htq : t < q
          · have t1 : (t : Int) < (q : Int) := by omega
            obtain ⟨s, hsL, hpt⟩ := HPs.out t htq
            obtain ⟨g, rfl, k0, k1⟩ := own_key HS.out.2.2.1 hpt
            have hws := HWk.out s hsL
            have hgt := HS.out.2.2.2.get HS.out.1.ca.nodup hsL
            have hin := HInv.out s hsL
            obtain ⟨⟨ka, kb⟩, sdat, sdir, spin⟩ := s
            have k0 : wr.cell? ⟨g, t * 2, none⟩ = some (.int .i64 ka) := k0
            have k1 : wr.cell? ⟨g, t * 2 + 1, none⟩ = some (.int .i64 kb) := k1
            have HT : Hid (t < q ∧ i + t ≤ 4000000000000000000) := ⟨htq, by omega⟩
            go_upto_region 23 with (fail)
            clear k0 k1
            obtain ⟨wk, hwk⟩ : ∃ wk, wk = wr.alloc (.cells #[.int .i64 ka, .int .i64 kb] KT) := ⟨_, rfl⟩
            rw [← hwk]
            have hbk : Below wr.heap.size wr wk := by rw [hwk]; exact sup_pc9 wr _
            have hXk : Blo wk wr.heap.size KT #[.int .i64 ka, .int .i64 kb] := by rw [hwk]; exact blo_laid wr _ _
            have HSk := Lib.hid (And.intro ((HS.out.1.later hbk).key hXk) (And.intro (HS.out.2.1.later hbk) (own_later HS.out.2.2.1 hbk)))
            have HGt := Lib.hid (HSk.out.1.get_someO hws HT.out.2 hgt.1)
            have HSm := Lib.hid hgt.2
            have HWs := Lib.hid hws
            have HIn := Lib.hid hin
            obtain ⟨k0, k1⟩ := HSk.out.1.cells (.head _)
            clear hwk hbk hXk hgt hws hin HS hpt
            generalize wr.heap.size = kx at *
            go_wp2_with fail
            refine HGt.out.mono ?_
            rintro e w7 ⟨g7, c7, rfl, hS7, hown7, ho7⟩
            have HS7 := Lib.hid hS7
            have HM7 := Lib.hid (HSk.out.2.1.outq ho7 (mp_xc HSk.out.2.1 HNe.out HSk.out.1.ca))
            have HO7 := Lib.hid (own_call HSk.out.1.ca ho7 HSk.out.2.2)
            have hlk : (Instr.lookup 63 (.map (some mg)) (.agg #[.int .i64 ka, .int .i64 kb]) true).run Try.prog w7 = .ok (.tuple #[.string (strOf (dtL sdat)), .bool true]) w7 := by
              have h := HM7.out.look_ok HWs.out
              rw [show f (ka, kb) = some (strOf (dtL sdat)) from HIn.out.1] at h
              exact h
            have hcv : (convert BYS 9 (.slice (some ⟨g7, 0, none⟩) 64 c7)).run Try.prog w7 = .ok (.string (strOf (dtL sdat))) w7 := by
              obtain ⟨a', cap', q1, -, q2, -⟩ := Bytes.own hown7 HIn.out.2
              cases q1
              exact run_str w7 _ _ _ Try.underlying35 Try.underlying5 Try.underlying9 (dtL sdat) _ 64 c7 (dtL_len _).symm q2
            have HR : Hid (LaQ w bc bm r mg i L f n ks C (some ⟨g, 0, none⟩) lc q ps (.int .i64 ((t : Int) + 1)) w7) := ⟨t + 1, _, HT.out.1, rfl, HSm.out, HS7.out.few, HM7.out, HO7.out⟩
            clear k0 k1
            obtain ⟨k0, k1⟩ := HS7.out.cells (.head _)
            have HM := Lib.hid HT.out.1
            clear hS7 hown7 ho7 HGt HSk HSm HWs HIn HS7 HM7 HO7 HT htq
            generalize strOf (dtL sdat) = sd at *
            have hss : (sd.toList == sd.toList) = true := by simp
            go_wp2_with fail
            go_roundw
            case rel => exact HR.out
            case measure => have := HM.out; simp [intOf]; omega
          · have t1 : ¬ (t : Int) < (q : Int) := by omega
            have HB := Lib.hid HS.out.1.below
            clear HS
            go_wp2_with fail
            go_ret
            exact ⟨rfl, HB.out⟩
theorem cacheLast_walk (a : Int) (za : Option Addr) (zl zc : Nat) (F : Nat → OpC) (w : World) (_ : (Lit.int .i64 a).wf = true) (hz : COps w za zl F) :
    Calls Try.prog 7 #[.int .i64 a, .slice za zl zc] w fun e w' => e = .returned (.bool true) ∧ Below w.heap.size w w' := cacheLast_any a za zl zc F w hz
end Go.Proofs.Ytdnkeplmjimjcaa
