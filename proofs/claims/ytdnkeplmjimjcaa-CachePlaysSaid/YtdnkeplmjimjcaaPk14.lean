/-
  ChLaL · KEnt · ChKeM · ChKeS: these texts in one.
-/
import Derived.Test.YtdnkeplmjimjcaaPk12
import Derived.Test.YtdnkeplmjimjcaaPk13
import Derived.WideKeyEntry
import Derived.Test.YtdnkeplmjimjcaaPk09
/-
  The walk of CacheLast.
-/
namespace Go.Proofs.Ytdnkeplmjimjcaa
open Go.RowKit

structure LaS (w : World) (bc bm : Nat) (r : Int) (mg i : Nat) (L : List Bk) (f : Int × Int → Option ByteArray) (n : Nat) (ks : List (Int × Int)) (wr : World) : Prop where
  lw : LwS w bc bm r i i L [] wr
  mp : KG elS wr mg n f ks
  inv : LaI L f
  cnt : n ≤ i
  ne : mg ≠ bm
  low : w.heap.size ≤ mg
section
variable {w wr w' W W' : World} {bc bm mg i : Nat} {r : Int} {N T N' T' : Nat} {L L' : List Bk} {f : Int × Int → Option ByteArray} {n : Nat} {ks : List (Int × Int)}
theorem mp_xc {E : Type} {M : Elm E} {f : Int × Int → Option E} {base : Nat} (h : KG M W mg n f ks) (hne : mg ≠ bm) (hC : CA W bc bm base r N T L) : ¬ XC W bc bm base mg := by
  obtain ⟨n', f', ks', uses, v, hK, -, hB⟩ := hC.len
  rintro ⟨-, e | e | ⟨t, cs, q1, q2⟩⟩
  · exact h.blo hB e
  · exact hne e
  · exact h.blo q1 rfl
theorem KG.outq {E : Type} {M : Elm E} {f : Int × Int → Option E} {X : Nat → Prop} (h : KG M W mg n f ks) (ho : Out X W w') (hx : ¬ X mg) : KG M w' mg n f ks := h.same (fun o e => (ho.block mg h.lt hx).trans e)
theorem LaS.later (h : LaS w bc bm r mg i L f n ks wr) (hb : Below wr.heap.size wr w') : LaS w bc bm r mg i L f n ks w' := ⟨h.lw.later hb, h.mp.later hb, h.inv, h.cnt, h.ne, h.low⟩
theorem LaS.up (h : LaS w bc bm r mg i L f n ks wr) : LaS w bc bm r mg (i + 1) L f n ks wr := ⟨h.lw.mono (by omega) (by omega), h.mp, h.inv, by have := h.cnt; omega, h.ne, h.low⟩
theorem LwS.map {E : Type} {M : Elm E} {f : Int × Int → Option E} (h : LwS w bc bm r N T L [] W) (hM : KG M W mg n f ks) (hne : mg ≠ bm) (hlow : w.heap.size ≤ mg) (hg : W.grownBy W' (some mg)) : LwS w bc bm r N T L [] W' := by
  have ho : Out (fun g => g = mg) W W' := Out.of_grown hg (fun g e => by cases e; rfl)
  exact ⟨h.ca.out ho (fun g hx e => by rw [e] at hx; exact mp_xc hM hne h.ca hx), fun q hq => (by cases hq), h.below.trans (ho.below h.below.size (fun g _ e => by omega))⟩
theorem str_blk {W : World} {g : Nat} {l : List Nat} (hg : BBlk W g l) : (convert BYS 9 (.slice (some ⟨g, 0, none⟩) 64 64)).run Try.prog W = .ok (.string (strOf l)) W :=
  run_str W _ _ _ Try.underlying35 Try.underlying5 Try.underlying9 l _ 64 64 hg.2.1.symm ⟨hg.2.2, by rw [hg.2.1]; decide, fun _ => ⟨g, 0, rfl, fun i hi => by rw [Nat.zero_add, hg.1.cell, List.getElem?_toArray, cellsB_get _ i hi]⟩⟩
theorem play_nod {room : Int} {x : OpC} (h : x.k ≠ 2) : (playK room L x).2.2 = none := by
  unfold playK
  by_cases h1 : x.k = 1
  · rw [if_pos h1]
  rw [if_neg h1, if_neg h]
  by_cases h3 : x.k = 3
  · rw [if_pos h3]
  rw [if_neg h3]
  by_cases h4 : x.k = 4
  · rw [if_pos h4]
  rw [if_neg h4]
  by_cases h5 : x.k = 5
  · rw [if_pos h5]
  rw [if_neg h5]
  by_cases h6 : x.k = 6
  · rw [if_pos h6]
  rw [if_neg h6]
theorem CA.wfs {base : Nat} (h : CA W bc bm base r N T L) : ∀ s ∈ L, wfK s.key := fun s hs => by
  obtain ⟨x, hC, rfl⟩ := h
  unfold lstK at hs
  obtain ⟨b, hb, rfl⟩ := List.mem_map.1 hs
  exact hC.ps.wf b hb
theorem CA.lenr {base : Nat} (h : CA W bc bm base r N T L) : (L.length : Int) ≤ r := by
  obtain ⟨x, hC, rfl⟩ := h
  have := hC.ps.rm
  simp [lstK]
  omega
theorem xc_op {base g : Nat} {cs : Array Value} (hC : CA W bc bm base r N T L) (h : Blo W g OpTy cs) : ¬ XC W bc bm base g := by
  obtain ⟨n, f, ks, uses, v, hK, -, hB⟩ := hC.len
  rintro ⟨-, e | e | ⟨t, cs, q1, q2⟩⟩
  · exact h.apart hB (by decide) e
  · exact hK.blo h e.symm
  · unfold Blo at h q1
    rw [q1] at h
    cases h
    rcases q2 with e | e
    · exact absurd e (by decide)
    · exact absurd e (by decide)
end
def LaQ (w : World) (bc bm : Nat) (r : Int) (mg i : Nat) (L : List Bk) (f : Int × Int → Option ByteArray) (n : Nat) (ks : List (Int × Int)) (C : Nat) (la : Option Addr) (lc q : Nat) (ps : List (Int × Int)) (v : Value) (wr : World) : Prop :=
  ∃ (t : Nat) (L' : List Bk), t ≤ q ∧ v = .int .i64 (t : Int) ∧ SmL L L' ∧ LwS w bc bm r i (i + t) L' [] wr ∧ KG elS wr mg n f ks ∧ wr.ownsRow C KT 2 (.slice la q lc) q (flatP ps)
def LaR (w : World) (bc bm : Nat) (r : Int) (mg zl : Nat) (v : Value) (wr : World) : Prop :=
  ∃ (i : Nat) (L : List Bk) (f : Int × Int → Option ByteArray) (n : Nat) (ks : List (Int × Int)), i ≤ 80 ∧ i ≤ zl ∧ v = .int .i64 (i : Int) ∧ LaS w bc bm r mg i L f n ks wr
set_option maxRecDepth 100000 in
set_option maxHeartbeats 8000000 in
theorem cacheLast_any (a : Int) (za : Option Addr) (zl zc : Nat) (F : Nat → OpC) (w : World) (hz : COps w za zl F) :
    Calls Try.prog 7 #[.int .i64 a, .slice za zl zc] w fun e w' => e = .returned (.bool true) ∧ Below w.heap.size w w' := by
  obtain ⟨m, hm, hme⟩ := cut_mod a 7 (by decide)
  have hme : wrap64 ((IntKind.u64.wrap a).tmod 8) = (m : Int) := hme
  obtain ⟨r, hr⟩ : ∃ r, r = m + 1 := ⟨_, rfl⟩
  have e2 : Hid ((m : Int) + 1 = (r : Int)) := by show (m : Int) + 1 = (r : Int); omega
  have hr1 : (1 : Int) ≤ (r : Int) := by omega
  have hr2 : (r : Int) ≤ 8 := by omega
  have HZ := Lib.hid hz
  have hzl := hz.1
  clear hr hz
  go_enter Try.func7, Try.ntmps7
  go_wp2_with fail
  refine (awake_any _).mono ?_
  rintro e w1 ⟨rfl, hb1⟩
  have HB1 := Lib.hid hb1
  clear hb1
  have hNew := Lib.hid (new_any (room := r) hr1 (by omega) w1)
  go_wp2_with fail
  try rw [hme]
  rw [e2.out]
  clear hme
  refine hNew.out.mono ?_
  rintro e w2 ⟨rfl, hn2, hb2⟩
  have hmm : (Instr.makeMap 63 none).run Try.prog w2 = .ok (.map (some w2.heap.size)) (w2.alloc (.map #[] 0)) := rfl
  have HSt : Hid (LaR w (w1.heap.size + 1) w1.heap.size r w2.heap.size zl (.int .i64 0) (w2.alloc (.map #[] 0))) := by
    have h1 := HB1.out.size
    have hCA : CA w2 (w1.heap.size + 1) w1.heap.size w.heap.size r 0 0 [] := hn2.ca hr1 (by omega) (by omega) h1
    have h2 := hb2.size
    have h3 := hn2.km.lt
    refine ⟨0, [], fun _ => none, 0, [], by omega, by omega, rfl, ⟨(⟨hCA, fun q hq => (by cases hq), HB1.out.trans (hb2.mono h1)⟩ : LwS w (w1.heap.size + 1) w1.heap.size r 0 0 [] [] w2).later (sup_pc9 _ _), KG.made elS w2, fun s hs => (by cases hs), Nat.le_refl _, by omega, by omega⟩⟩
  clear hn2 hb2 HB1 hNew e2 hm
  go_wp2_with fail
  clear hmm
  generalize w1.heap.size + 1 = bc at *
  generalize w1.heap.size = bm at *
  generalize w2.heap.size = mg at *
  go_loopw [8] (fun v wr => LaR w bc bm r mg zl v wr) (fun v _ => zl - (intOf v).toNat)
  case atStart => exact HSt.out
  case round =>
    clear HSt
    obtain ⟨i, L, f, n, ks, hi80, hizl, rfl, hS⟩ := hrel
    have HS := Lib.hid hS
    clear hS
    have i0 : (0 : Int) ≤ (i : Int) := by omega
    by_cases hgo : i < zl ∧ i < 80
    · have i1 : (i : Int) < (zl : Int) := by omega
      have i2 : (i : Int) < 80 := by omega
      obtain ⟨zb, zo, ba, bn, bcp, hza, hop0, hcells0⟩ := HZ.out.2 i hgo.1
      have hop := hop0.below HS.out.lw.below
      have hcells := fun j v hj => cell_later HS.out.lw.below (hcells0 j v hj)
      subst hza
      obtain ⟨x, hx⟩ : ∃ x, F i = x := ⟨_, rfl⟩
      rw [hx] at hop hcells hop0
      obtain ⟨xk, ⟨k1, k2⟩, xb, raw, dirty⟩ := x
      have c0 : wr.cell? ⟨zb, zo + i * 6, none⟩ = some (.int .i64 xk) := hcells 0 _ rfl
      have c1 : wr.cell? ⟨zb, zo + i * 6 + 1, none⟩ = some (.int .i64 k1) := hcells 1 _ rfl
      have c2 : wr.cell? ⟨zb, zo + i * 6 + 2, none⟩ = some (.int .i64 k2) := hcells 2 _ rfl
      have c3 : wr.cell? ⟨zb, zo + i * 6 + 3, none⟩ = some (.slice ba bn bcp) := hcells 3 _ rfl
      have c4 : wr.cell? ⟨zb, zo + i * 6 + 4, none⟩ = some (.bool raw) := hcells 4 _ rfl
      have c5 : wr.cell? ⟨zb, zo + i * 6 + 5, none⟩ = some (.bool dirty) := hcells 5 _ rfl
      have HBw : Hid (BytesIn w ba bn bcp xb) := hop0.b
      have HOp := Lib.hid hop
      have HI := Lib.hid hgo
      clear hcells hcells0 hx hop hop0 hgo hi80 hizl
      go_upto_region 11 with (fail)
      clear c0 c1 c2 c3 c4 c5
      obtain ⟨wk, hwk⟩ : ∃ wk, wk = wr.alloc (.cells #[.int .i64 xk, .int .i64 k1, .int .i64 k2, .slice ba bn bcp, .bool raw, .bool dirty] OpTy) := ⟨_, rfl⟩
      rw [← hwk]
      have HBk : Hid (Below wr.heap.size wr wk) := by rw [hwk]; exact sup_pc9 wr _
      have HXk : Hid (Blo wk wr.heap.size OpTy #[.int .i64 xk, .int .i64 k1, .int .i64 k2, .slice ba bn bcp, .bool raw, .bool dirty]) := by rw [hwk]; exact blo_laid wr _ _
      have d3 : wk.cell? ⟨wr.heap.size, 3, none⟩ = some (.slice ba bn bcp) := HXk.out.cell 3
      clear hwk
      have HBz : Hid (∀ W, Below w.heap.size w W → BytesIn W ba bn bcp xb) := fun W hb => HBw.out.below hb
      by_cases hbig : 200 < bn
      · have hb1 : (bn : Int) > 200 := by omega
        have HF := Lib.hid ((HS.out.later HBk.out).up)
        clear HBk HXk HS
        have HR : Hid (LaR w bc bm r mg zl (.int .i64 ((i : Int) + 1)) wk) := ⟨i + 1, _, _, _, _, by have := HI.out; omega, by have := HI.out; omega, rfl, HF.out⟩
        have HM := Lib.hid HI.out.1
        clear HF
        go_wp2_with fail
        go_roundw
        case rel => exact HR.out
        case measure => have := HM.out; simp [intOf]; omega
      · have hb1 : ¬ (bn : Int) > 200 := by omega
        obtain ⟨gb, hgb⟩ : ∃ gb, gb = wr.heap.size := ⟨_, rfl⟩
        rw [← hgb] at HXk d3 ⊢
        have HGb := Lib.hid hgb
        clear hgb
        have d4 : wk.cell? ⟨gb, 4, none⟩ = some (.bool raw) := HXk.out.cell 4
        have f4 := HXk.out.frozen 4
        obtain ⟨w3, hw3⟩ : ∃ w3, w3 = wk.setCell ⟨gb, 4, none⟩ (.bool false) := ⟨_, rfl⟩
        have HB3 : Hid (Below wr.heap.size wr w3) := by rw [hw3]; exact HBk.out.setCell (p := ⟨gb, 4, none⟩) (by rw [HGb.out]; exact Nat.le_refl _) _
        have HX3 : Hid (Blo w3 gb OpTy #[.int .i64 xk, .int .i64 k1, .int .i64 k2, .slice ba bn bcp, .bool false, .bool dirty]) := by
          have := HXk.out.put 4 (.bool false)
          rw [hw3]
          exact this
        have HS3 := Lib.hid (HS.out.later HB3.out)
        have HOp3 : Hid (OpCIs w3 ba bn bcp ⟨xk, (k1, k2), xb, false, dirty⟩) := ⟨HOp.out.b.below HB3.out, HOp.out.wf⟩
        have HZb : Hid (∀ W, Below w.heap.size w W → BytesIn W ba bn bcp xb) := fun W hb => HBz.out W hb
        have HPl := Lib.hid (play_any HS3.out.lw.ca HOp3.out (by show xb.length ≤ 200; have := HOp.out.b.1; have : bn = xb.length := this; omega) (by have := HI.out; omega) (by have := HI.out; omega))
        have e0 := HX3.out.cell 0
        have e1 := HX3.out.cell 1
        have e2 := HX3.out.cell 2
        have e3 := HX3.out.cell 3
        have e4 := HX3.out.cell 4
        have e5 := HX3.out.cell 5
        simp at e0 e1 e2 e3 e4 e5
        go_upto_region 13 with (fail)
        rw [← hw3]
        clear hw3 d3 d4 f4 HXk HBk HS HGb HB3
        go_wp2_with fail
        refine HPl.out.mono ?_
        rintro e w4 ⟨hC4, ho4, hr4⟩
        clear e0 e1 e2 e3 e4 e5
        have HX4 := Lib.hid (ho4.blo HX3.out (xc_op HS3.out.lw.ca HX3.out))
        have HM4 := Lib.hid (HS3.out.mp.outq ho4 (mp_xc HS3.out.mp HS3.out.ne HS3.out.lw.ca))
        have HL4 : Hid (LwS w bc bm r (i + 1) (i + 1) (playK r L ⟨xk, (k1, k2), xb, false, dirty⟩).1 [] w4) := HS3.out.lw.call hC4 ho4
        clear hC4 ho4 HPl HX3
        have e0 : w4.cell? ⟨gb, 0, none⟩ = some (.int .i64 xk) := HX4.out.cell 0
        by_cases hk1 : xk = 1
        · subst hk1
          obtain ⟨P, hP⟩ : ∃ P, putK r L (k1, k2) (byt xb) dirty = P := ⟨_, rfl⟩
          have hR : playK r L ⟨1, (k1, k2), xb, false, dirty⟩ = (P.1, P.2, none) := by rw [← hP]; rfl
          rw [hR] at HL4 hr4
          obtain ⟨-, rfl⟩ | ⟨d, g, c, q, -, -⟩ := hr4
          · have HPq := Lib.hid hP
            clear hR hP
            by_cases hc0 : P.2 = 0
            · rw [hc0]
              have HInv : Hid (LaI P.1 (updP f (k1, k2) (some (strOf (byt xb))))) := by
                have := HPq.out
                subst this
                exact HS3.out.inv.put (byt_byte HOp3.out.b.2.1.1) hc0
              have HKp : Hid (∀ W : World, Below w4.heap.size w4 W → W.cell? ⟨gb, 0, none⟩ = some (.int .i64 1) ∧ W.cell? ⟨gb, 1, none⟩ = some (.int .i64 k1) ∧ W.cell? ⟨gb, 2, none⟩ = some (.int .i64 k2) ∧ W.cell? ⟨gb, 3, none⟩ = some (.slice ba bn bcp)) := fun W hb =>
                ⟨(HX4.out.later hb).cell 0, (HX4.out.later hb).cell 1, (HX4.out.later hb).cell 2, (HX4.out.later hb).cell 3⟩
              have HBx : Hid (BytesIn w4 ba bn bcp xb) := (HZb.out w4 HL4.out.below)
              have HBy : Hid (Calls Try.prog 12 #[.slice ba bn bcp] w4.drew (BytO w4.drew (byt xb))) := bytes_any ba bn bcp xb w4.drew HBx.out.1 (by have := HBx.out.2.2.2.2; omega) (HBx.out.2.1.below ((Below.refl _ _).drew))
              have HWf := Lib.hid HOp3.out.wf
              clear hc0 HOp3
              go_upto_region 15 with (fail)
              clear e0
              first | (go_region_held (fun W => W.cell? ⟨gb, 0, none⟩ = some (.int .i64 1) ∧ W.cell? ⟨gb, 1, none⟩ = some (.int .i64 k1) ∧ W.cell? ⟨gb, 2, none⟩ = some (.int .i64 k2) ∧ W.cell? ⟨gb, 3, none⟩ = some (.slice ba bn bcp))
                (first | exact HKp.out _ ((Below.refl _ _).drew) | exact HKq.out | exact HKp.out _ HBb.out | fail)
                (first
                  | (go_at_call 12; (with_reducible refine HBy.out.mono ?_); rintro e Wb ⟨g2, rfl, hg2, -, hb2⟩; have HBb := Lib.hid (((Below.refl w4.heap.size w4).drew).trans (hb2.mono (Nat.le_refl _))); have hcv := str_blk hg2; obtain ⟨w5, hrun, hM5, hg5⟩ := (HM4.out.later HBb.out).put (by have := HS3.out.cnt; have := HI.out; omega) HWf.out (strOf (byt xb)); have hrun : (Instr.mapUpdate 63 (.map (some mg)) (.agg #[.int .i64 k1, .int .i64 k2]) (.string (strOf (byt xb)))).run Try.prog Wb = .ok () w5 := hrun; have HM5 := Lib.hid hM5; have HG5 := Lib.hid hg5; have HX5 := Lib.hid ((HX4.out.later HBb.out).grown hg5 (fun e => by cases e; exact (HM4.out.later HBb.out).blo (HX4.out.later HBb.out) rfl)); have HKq : Hid (w5.cell? ⟨gb, 0, none⟩ = some (.int .i64 1) ∧ w5.cell? ⟨gb, 1, none⟩ = some (.int .i64 k1) ∧ w5.cell? ⟨gb, 2, none⟩ = some (.int .i64 k2) ∧ w5.cell? ⟨gb, 3, none⟩ = some (.slice ba bn bcp)) := ⟨HX5.out.cell 0, HX5.out.cell 1, HX5.out.cell 2, HX5.out.cell 3⟩; clear hg2 hb2 hM5 hg5)
                  | fail)) | fail
              all_goals
                rename_i hHeld
                have HF : Hid (LaS w bc bm r mg (i + 1) P.1 (updP f (k1, k2) (some (strOf (byt xb)))) (n + 1) (addP ks (k1, k2)) w5) := ⟨(HL4.out.later HBb.out).map (HM4.out.later HBb.out) HS3.out.ne HS3.out.low HG5.out, HM5.out, HInv.out, by have := HS3.out.cnt; omega, HS3.out.ne, HS3.out.low⟩
                obtain ⟨e0, -⟩ := HKq.out
                clear hHeld HKp HKq HBy HBb HM5 HG5 HX5 HInv HWf HL4 HM4 HX4 HS3 HBx HPq hcv hrun
                have HR : Hid (LaR w bc bm r mg zl (.int .i64 ((i : Int) + 1)) w5) := ⟨i + 1, _, _, _, _, by have := HI.out; omega, by have := HI.out; omega, rfl, HF.out⟩
                have HM := Lib.hid HI.out.1
                clear HF
                go_wp2_with fail
                go_roundw
                case rel => exact HR.out
                case measure => have := HM.out; simp [intOf]; omega
            · have hc1 : (P.2 == 0) = false := by simpa using hc0
              have hc2 : P.1 = L := by
                have := HPq.out
                subst this
                exact put_no hc0
              have HF : Hid (LaS w bc bm r mg (i + 1) P.1 f n ks w4) := ⟨HL4.out, HM4.out, by rw [hc2]; exact HS3.out.inv, by have := HS3.out.cnt; omega, HS3.out.ne, HS3.out.low⟩
              clear hc0 hc2 HL4 HM4 HX4 HS3 HOp3 HPq
              have HR : Hid (LaR w bc bm r mg zl (.int .i64 ((i : Int) + 1)) w4) := ⟨i + 1, _, _, _, _, by have := HI.out; omega, by have := HI.out; omega, rfl, HF.out⟩
              have HM := Lib.hid HI.out.1
              clear HF
              go_wp2_with fail
              go_roundw
              case rel => exact HR.out
              case measure => have := HM.out; simp [intOf]; omega
          · cases q
        · have hk1' : (xk == 1) = false := by simpa using hk1
          have HSb : Hid (LaS w bc bm r mg (i + 1) (playK r L ⟨xk, (k1, k2), xb, false, dirty⟩).1 f n ks w4) := ⟨HL4.out, HM4.out, HS3.out.inv.sub (play_sub hk1), by have := HS3.out.cnt; omega, HS3.out.ne, HS3.out.low⟩
          by_cases hk2 : xk = 2
          · subst hk2
            have hR : playK r L ⟨2, (k1, k2), xb, false, dirty⟩ = ((getK L (k1, k2)).1, 0, (getK L (k1, k2)).2) := rfl
            rw [hR] at hr4 HSb
            obtain ⟨-, rfl⟩ | ⟨d, g, c, hd, rfl, hown⟩ := hr4
            · have HF := HSb
              clear hR HSb HL4 HM4 HX4 HS3 HOp3 hk1 hk1'
              have HR : Hid (LaR w bc bm r mg zl (.int .i64 ((i : Int) + 1)) w4) := ⟨i + 1, _, _, _, _, by have := HI.out; omega, by have := HI.out; omega, rfl, HF.out⟩
              have HM := Lib.hid HI.out.1
              clear HF
              go_wp2_with fail
              go_roundw
              case rel => exact HR.out
              case measure => have := HM.out; simp [intOf]; omega
            · obtain ⟨s, hs, hsk, hsd⟩ := get_dat hd
              have hin := HS3.out.inv s hs
              rw [hsk, ← hsd] at hin
              have hlk := HM4.out.look_ok HOp3.out.wf
              have hlk : (Instr.lookup 63 (.map (some mg)) (.agg #[.int .i64 k1, .int .i64 k2]) true).run Try.prog w4 = .ok (.tuple #[.string (strOf (dtL d)), .bool true]) w4 := by
                have h := hlk
                rw [show f (k1, k2) = some (strOf (dtL d)) from hin.1] at h
                exact h
              have hcv : (convert BYS 9 (.slice (some ⟨g, 0, none⟩) 64 c)).run Try.prog w4 = .ok (.string (strOf (dtL d))) w4 := by
                obtain ⟨a', cap', q1, -, q2, -⟩ := Bytes.own hown hin.2
                cases q1
                exact run_str w4 _ _ _ Try.underlying35 Try.underlying5 Try.underlying9 (dtL d) _ 64 c (dtL_len _).symm q2
              have e1 : w4.cell? ⟨gb, 1, none⟩ = some (.int .i64 k1) := HX4.out.cell 1
              have e2 : w4.cell? ⟨gb, 2, none⟩ = some (.int .i64 k2) := HX4.out.cell 2
              have HF := HSb
              clear hR HSb HL4 HM4 HX4 HS3 HOp3 hk1 hk1' hs hsk hsd hin hd hown
              generalize strOf (dtL d) = sd at *
              have hss : (sd.toList == sd.toList) = true := by simp
              have HR : Hid (LaR w bc bm r mg zl (.int .i64 ((i : Int) + 1)) w4) := ⟨i + 1, _, _, _, _, by have := HI.out; omega, by have := HI.out; omega, rfl, HF.out⟩
              have HM := Lib.hid HI.out.1
              clear HF
              go_wp2_with fail
              go_roundw
              case rel => exact HR.out
              case measure => have := HM.out; simp [intOf]; omega
          · have hk2' : (xk == 2) = false := by simpa using hk2
            obtain ⟨c, hc⟩ : ∃ c, (playK r L ⟨xk, (k1, k2), xb, false, dirty⟩).2.1 = c := ⟨_, rfl⟩
            rw [hc] at hr4
            obtain ⟨-, rfl⟩ | ⟨d, g, c', hd, -, -⟩ := hr4
            · have HF := HSb
              clear HSb HL4 HM4 HX4 HS3 HOp3 hk1 hk2 hc
              have HR : Hid (LaR w bc bm r mg zl (.int .i64 ((i : Int) + 1)) w4) := ⟨i + 1, _, _, _, _, by have := HI.out; omega, by have := HI.out; omega, rfl, HF.out⟩
              have HM := Lib.hid HI.out.1
              clear HF
              go_wp2_with fail
              go_roundw
              case rel => exact HR.out
              case measure => have := HM.out; simp [intOf]; omega
            · rw [play_nod (show (OpC.mk xk (k1, k2) xb false dirty).k ≠ 2 from hk2)] at hd
              cases hd
    · by_cases hz1 : i < zl
      · have i1 : (i : Int) < (zl : Int) := by omega
        have i2 : ¬ (i : Int) < 80 := by omega
        clear hgo
        obtain ⟨ps, hps⟩ : ∃ ps, L.map Bk.key = ps := ⟨_, rfl⟩
        obtain ⟨q, hq⟩ : ∃ q, ps.length = q := ⟨_, rfl⟩
        have HOr := Lib.hid (order_any HS.out.lw.ca)
        rw [hps] at HOr
        have HPs : Hid (∀ t, t < q → ∃ s ∈ L, ps[t]? = some s.key) := fun t ht => by
          have h1 : t < L.length := by rw [← hq, ← hps, List.length_map] at ht; exact ht
          refine ⟨L[t], List.getElem_mem h1, ?_⟩
          rw [← hps, List.getElem?_map, List.getElem?_eq_getElem h1]
          rfl
        have HWk : Hid (∀ s ∈ L, wfK s.key) := HS.out.lw.ca.wfs
        have hq8 : q ≤ 8 := by
          have := HS.out.lw.ca.lenr
          rw [← hq, ← hps, List.length_map]
          omega
        clear hps
        go_wp2_with fail
        refine HOr.out.mono ?_
        rintro e w5 ⟨la, lc, rfl, hown, hb5⟩
        rw [hq] at hown ⊢
        have HSt5 : Hid (LaQ w bc bm r mg i L f n ks wr.heap.size la lc q ps (.int .i64 0) w5) := ⟨0, L, Nat.zero_le _, rfl, fun _ => Iff.rfl, HS.out.lw.later hb5, HS.out.mp.later hb5, hown⟩
        have HInv := Lib.hid HS.out.inv
        have HNe := Lib.hid HS.out.ne
        clear hown hb5 HOr HS hq
        generalize wr.heap.size = C at *
        go_wp2_with fail
        go_loopw [105] (fun v wx => LaQ w bc bm r mg i L f n ks C la lc q ps v wx) (fun v _ => q - (intOf v).toNat)
        case atStart => exact HSt5.out
        case round =>
          clear HSt5
          obtain ⟨t, L', ht, rfl, hsm, hS, hM, hown⟩ := hrel
          have HS := Lib.hid (And.intro hS (And.intro hM (And.intro hown hsm)))
          clear hS hM hown hsm
          have t0 : (0 : Int) ≤ (t : Int) := by omega
          by_cases htq : t < q
          · have t1 : (t : Int) < (q : Int) := by omega
            obtain ⟨s, hsL, hpt⟩ := HPs.out t htq
            obtain ⟨g, rfl, k0, k1⟩ := own_key HS.out.2.2.1 hpt
            have hws := HWk.out s hsL
            have hgt := HS.out.2.2.2.get HS.out.1.ca.nodup hsL
            have hin := HInv.out s hsL
            obtain ⟨⟨ka, kb⟩, sdat, sdir, spin⟩ := s
            have k0 : wr.cell? ⟨g, t * 2, none⟩ = some (.int .i64 ka) := k0
            have k1 : wr.cell? ⟨g, t * 2 + 1, none⟩ = some (.int .i64 kb) := k1
            have HT : Hid (t < q ∧ i + t ≤ 4000000000000000000) := ⟨htq, by omega⟩
            go_upto_region 23 with (fail)
            clear k0 k1
            obtain ⟨wk, hwk⟩ : ∃ wk, wk = wr.alloc (.cells #[.int .i64 ka, .int .i64 kb] KT) := ⟨_, rfl⟩
            rw [← hwk]
            have hbk : Below wr.heap.size wr wk := by rw [hwk]; exact sup_pc9 wr _
            have hXk : Blo wk wr.heap.size KT #[.int .i64 ka, .int .i64 kb] := by rw [hwk]; exact blo_laid wr _ _
            have HSk := Lib.hid (And.intro ((HS.out.1.later hbk).key hXk) (And.intro (HS.out.2.1.later hbk) (own_later HS.out.2.2.1 hbk)))
            have HGt := Lib.hid (HSk.out.1.get_someO hws HT.out.2 hgt.1)
            have HSm := Lib.hid hgt.2
            have HWs := Lib.hid hws
            have HIn := Lib.hid hin
            obtain ⟨k0, k1⟩ := HSk.out.1.cells (.head _)
            clear hwk hbk hXk hgt hws hin HS hpt
            generalize wr.heap.size = kx at *
            go_wp2_with fail
            refine HGt.out.mono ?_
            rintro e w7 ⟨g7, c7, rfl, hS7, hown7, ho7⟩
            have HS7 := Lib.hid hS7
            have HM7 := Lib.hid (HSk.out.2.1.outq ho7 (mp_xc HSk.out.2.1 HNe.out HSk.out.1.ca))
            have HO7 := Lib.hid (own_call HSk.out.1.ca ho7 HSk.out.2.2)
            have hlk : (Instr.lookup 63 (.map (some mg)) (.agg #[.int .i64 ka, .int .i64 kb]) true).run Try.prog w7 = .ok (.tuple #[.string (strOf (dtL sdat)), .bool true]) w7 := by
              have h := HM7.out.look_ok HWs.out
              rw [show f (ka, kb) = some (strOf (dtL sdat)) from HIn.out.1] at h
              exact h
            have hcv : (convert BYS 9 (.slice (some ⟨g7, 0, none⟩) 64 c7)).run Try.prog w7 = .ok (.string (strOf (dtL sdat))) w7 := by
              obtain ⟨a', cap', q1, -, q2, -⟩ := Bytes.own hown7 HIn.out.2
              cases q1
              exact run_str w7 _ _ _ Try.underlying35 Try.underlying5 Try.underlying9 (dtL sdat) _ 64 c7 (dtL_len _).symm q2
            have HR : Hid (LaQ w bc bm r mg i L f n ks C (some ⟨g, 0, none⟩) lc q ps (.int .i64 ((t : Int) + 1)) w7) := ⟨t + 1, _, HT.out.1, rfl, HSm.out, HS7.out.few, HM7.out, HO7.out⟩
            clear k0 k1
            obtain ⟨k0, k1⟩ := HS7.out.cells (.head _)
            have HM := Lib.hid HT.out.1
            clear hS7 hown7 ho7 HGt HSk HSm HWs HIn HS7 HM7 HO7 HT htq
            generalize strOf (dtL sdat) = sd at *
            have hss : (sd.toList == sd.toList) = true := by simp
            go_wp2_with fail
            go_roundw
            case rel => exact HR.out
            case measure => have := HM.out; simp [intOf]; omega
          · have t1 : ¬ (t : Int) < (q : Int) := by omega
            have HB := Lib.hid HS.out.1.below
            clear HS
            go_wp2_with fail
            go_ret
            exact ⟨rfl, HB.out⟩
      · have i1 : ¬ (i : Int) < (zl : Int) := by omega
        clear hgo hz1
        obtain ⟨ps, hps⟩ : ∃ ps, L.map Bk.key = ps := ⟨_, rfl⟩
        obtain ⟨q, hq⟩ : ∃ q, ps.length = q := ⟨_, rfl⟩
        have HOr := Lib.hid (order_any HS.out.lw.ca)
        rw [hps] at HOr
        have HPs : Hid (∀ t, t < q → ∃ s ∈ L, ps[t]? = some s.key) := fun t ht => by
          have h1 : t < L.length := by rw [← hq, ← hps, List.length_map] at ht; exact ht
          refine ⟨L[t], List.getElem_mem h1, ?_⟩
          rw [← hps, List.getElem?_map, List.getElem?_eq_getElem h1]
          rfl
        have HWk : Hid (∀ s ∈ L, wfK s.key) := HS.out.lw.ca.wfs
        have hq8 : q ≤ 8 := by
          have := HS.out.lw.ca.lenr
          rw [← hq, ← hps, List.length_map]
          omega
        clear hps
        go_wp2_with fail
        refine HOr.out.mono ?_
        rintro e w5 ⟨la, lc, rfl, hown, hb5⟩
        rw [hq] at hown ⊢
        have HSt5 : Hid (LaQ w bc bm r mg i L f n ks wr.heap.size la lc q ps (.int .i64 0) w5) := ⟨0, L, Nat.zero_le _, rfl, fun _ => Iff.rfl, HS.out.lw.later hb5, HS.out.mp.later hb5, hown⟩
        have HInv := Lib.hid HS.out.inv
        have HNe := Lib.hid HS.out.ne
        clear hown hb5 HOr HS hq
        generalize wr.heap.size = C at *
        go_wp2_with fail
        go_loopw [105] (fun v wx => LaQ w bc bm r mg i L f n ks C la lc q ps v wx) (fun v _ => q - (intOf v).toNat)
        case atStart => exact HSt5.out
        case round =>
          clear HSt5
          obtain ⟨t, L', ht, rfl, hsm, hS, hM, hown⟩ := hrel
          have HS := Lib.hid (And.intro hS (And.intro hM (And.intro hown hsm)))
          clear hS hM hown hsm
          have t0 : (0 : Int) ≤ (t : Int) := by omega
          by_cases htq : t < q
          · have t1 : (t : Int) < (q : Int) := by omega
            obtain ⟨s, hsL, hpt⟩ := HPs.out t htq
            obtain ⟨g, rfl, k0, k1⟩ := own_key HS.out.2.2.1 hpt
            have hws := HWk.out s hsL
            have hgt := HS.out.2.2.2.get HS.out.1.ca.nodup hsL
            have hin := HInv.out s hsL
            obtain ⟨⟨ka, kb⟩, sdat, sdir, spin⟩ := s
            have k0 : wr.cell? ⟨g, t * 2, none⟩ = some (.int .i64 ka) := k0
            have k1 : wr.cell? ⟨g, t * 2 + 1, none⟩ = some (.int .i64 kb) := k1
            have HT : Hid (t < q ∧ i + t ≤ 4000000000000000000) := ⟨htq, by omega⟩
            go_upto_region 23 with (fail)
            clear k0 k1
            obtain ⟨wk, hwk⟩ : ∃ wk, wk = wr.alloc (.cells #[.int .i64 ka, .int .i64 kb] KT) := ⟨_, rfl⟩
            rw [← hwk]
            have hbk : Below wr.heap.size wr wk := by rw [hwk]; exact sup_pc9 wr _
            have hXk : Blo wk wr.heap.size KT #[.int .i64 ka, .int .i64 kb] := by rw [hwk]; exact blo_laid wr _ _
            have HSk := Lib.hid (And.intro ((HS.out.1.later hbk).key hXk) (And.intro (HS.out.2.1.later hbk) (own_later HS.out.2.2.1 hbk)))
            have HGt := Lib.hid (HSk.out.1.get_someO hws HT.out.2 hgt.1)
            have HSm := Lib.hid hgt.2
            have HWs := Lib.hid hws
            have HIn := Lib.hid hin
            obtain ⟨k0, k1⟩ := HSk.out.1.cells (.head _)
            clear hwk hbk hXk hgt hws hin HS hpt
            generalize wr.heap.size = kx at *
            go_wp2_with fail
            refine HGt.out.mono ?_
            rintro e w7 ⟨g7, c7, rfl, hS7, hown7, ho7⟩
            have HS7 := Lib.hid hS7
            have HM7 := Lib.hid (HSk.out.2.1.outq ho7 (mp_xc HSk.out.2.1 HNe.out HSk.out.1.ca))
            have HO7 := Lib.hid (own_call HSk.out.1.ca ho7 HSk.out.2.2)
            have hlk : (Instr.lookup 63 (.map (some mg)) (.agg #[.int .i64 ka, .int .i64 kb]) true).run Try.prog w7 = .ok (.tuple #[.string (strOf (dtL sdat)), .bool true]) w7 := by
              have h := HM7.out.look_ok HWs.out
              rw [show f (ka, kb) = some (strOf (dtL sdat)) from HIn.out.1] at h
              exact h
            have hcv : (convert BYS 9 (.slice (some ⟨g7, 0, none⟩) 64 c7)).run Try.prog w7 = .ok (.string (strOf (dtL sdat))) w7 := by
              obtain ⟨a', cap', q1, -, q2, -⟩ := Bytes.own hown7 HIn.out.2
              cases q1
              exact run_str w7 _ _ _ Try.underlying35 Try.underlying5 Try.underlying9 (dtL sdat) _ 64 c7 (dtL_len _).symm q2
            have HR : Hid (LaQ w bc bm r mg i L f n ks C (some ⟨g, 0, none⟩) lc q ps (.int .i64 ((t : Int) + 1)) w7) := ⟨t + 1, _, HT.out.1, rfl, HSm.out, HS7.out.few, HM7.out, HO7.out⟩
            clear k0 k1
            obtain ⟨k0, k1⟩ := HS7.out.cells (.head _)
            have HM := Lib.hid HT.out.1
            clear hS7 hown7 ho7 HGt HSk HSm HWs HIn HS7 HM7 HO7 HT htq
            generalize strOf (dtL sdat) = sd at *
            have hss : (sd.toList == sd.toList) = true := by simp
            go_wp2_with fail
            go_roundw
            case rel => exact HR.out
            case measure => have := HM.out; simp [intOf]; omega
          · have t1 : ¬ (t : Int) < (q : Int) := by omega
            have HB := Lib.hid HS.out.1.below
            clear HS
            go_wp2_with fail
            go_ret
            exact ⟨rfl, HB.out⟩
theorem cacheLast_walk (a : Int) (za : Option Addr) (zl zc : Nat) (F : Nat → OpC) (w : World) (_ : (Lit.int .i64 a).wf = true) (hz : COps w za zl F) :
    Calls Try.prog 7 #[.int .i64 a, .slice za zl zc] w fun e w' => e = .returned (.bool true) ∧ Below w.heap.size w w' := cacheLast_any a za zl zc F w hz
end Go.Proofs.Ytdnkeplmjimjcaa
/-
  An entry of a map from pairs of integers that is changed in place (m[k]++), and a range over such a map.
-/
namespace Go.Proofs.Ytdnkeplmjimjcaa
open Go.RowKit Go.Maps Go.WideElems Go.ChangeMaps

section
variable {H : Type} {P : Program} {w : World} {t k e : TypeId} {R : Value → Option (DataW H × List MemPlace)} {b : Nat} {es : Array MapEntry} {clock : Nat}
/-- The entry's place is made; a store at the entry's stamp is a store under the key. -/
theorem entry_two (K : Keyed P k) (ht : P.underlying t = some (.map k e)) {z : Value} (hz : ∀ u : World, (zeroValue e).run P u = .ok z u) (hb : w.heap[b]? = some (.map es clock)) (F : Fit P k R es clock)
    {key : Value} {kl : Lit} (hkey : keyOf P k key = some kl) :
    ∃ (v0 : Value) (st : Nat) (w1 : World), (Instr.mapEntry t (.map (some b)) key).run P w = .ok (.tuple #[v0, goInt st]) w1 ∧ (Instr.lookup t (.map (some b)) key false).run P w = .ok v0 w ∧
      (Instr.mapUpdate t (.map (some b)) key v0).run P w = .ok () w1 ∧
      ∀ val : Value, ∃ w2, (Instr.entryStore t (.map (some b)) (goInt st) val).run P w1 = .ok () w2 ∧ (Instr.mapUpdate t (.map (some b)) key val).run P w = .ok () w2 := by
  obtain ⟨s1, s2, _⟩ := F.stamped
  have hsz : b < w.heap.size := (Array.getElem?_eq_some_iff.1 hb).1
  have hset : ∀ x y : Obj, setBlock (setBlock w b x) b y = setBlock w b y := fun x y => by simp [setBlock]
  have hget : ∀ x : Obj, (setBlock w b x).heap[b]? = some x := fun x => by simp [setBlock, hsz]
  rcases K.find w hkey es.toList F.keys with ⟨h1, h2⟩ | ⟨j, e0, h1, h2, h3⟩
  · refine ⟨z, clock, setBlock w b (.map (es.push ⟨key, z, clock⟩) (clock + 1)), ?_, ?_, ?_, fun val => ⟨setBlock w b (.map (es.push ⟨key, val, clock⟩) (clock + 1)), ?_, ?_⟩⟩
    · simp [Instr.mapEntry, run_underlying ht, MapKept.run_getObj_map hb, K.check w false hkey, h1, hz, MapKept.run_setObj_map _ hb, Result.andThen, setBlock]
    · simp [Instr.lookup, run_underlying ht, MapKept.run_getObj_map hb, K.check w es.isEmpty hkey, h1, hz, Result.andThen]
    · simp [Instr.mapUpdate, run_underlying ht, MapKept.run_getObj_map hb, K.check w false hkey, h1, MapKept.run_setObj_map _ hb, Result.andThen, setBlock]
    · have hidx : (es.push ⟨key, z, clock⟩).findIdx? (fun e => ((e.born : Nat) : Int) == ((clock : Nat) : Int)) = some es.size := by
        rw [findIdx_arr]
        exact findIdx_born (l := (es.push ⟨key, z, clock⟩).toList) (j := es.size) (e0 := ⟨key, z, clock⟩) (by
          simp only [Array.toList_push, List.map_append, List.map_cons, List.map_nil]
          refine List.nodup_append.2 ⟨s2, by simp, fun a ha c hc e1 => ?_⟩
          obtain ⟨x, hx, hxa⟩ := List.mem_map.1 ha
          have hcl : c = clock := by simpa using hc
          have := s1 x hx
          omega) (by simp)
      have hmod : (es.push ⟨key, z, clock⟩).modify es.size (fun e => { e with val := val }) = es.push ⟨key, val, clock⟩ := by
        apply Array.ext'
        rw [Array.toList_modify, Array.toList_push, Array.toList_push, ← Array.length_toList, modify_last]
      have hst : ∀ u : World, u.heap[b]? = some (.map (es.push ⟨key, z, clock⟩) (clock + 1)) → (Instr.entryStore t (.map (some b)) (goInt clock) val).run P u = .ok () (setBlock u b (.map (es.push ⟨key, val, clock⟩) (clock + 1))) := fun u hu => by
        simp [Instr.entryStore, MapKept.run_getObj_map hu, asInt, asIntOf, goInt, hidx, hmod, MapKept.run_setObj_map _ hu, Result.andThen, setBlock]
      rw [hst _ (hget _), hset]
    · simp [Instr.mapUpdate, run_underlying ht, MapKept.run_getObj_map hb, K.check w false hkey, h1, MapKept.run_setObj_map _ hb, Result.andThen, setBlock]
  · have hj : es[j]? = some e0 := by simpa using h2
    have hsame : es.modify j (fun e => { e with key := key }) = es := by
      apply Array.ext'
      rw [Array.toList_modify, modify_eq_set _ _ _ _ h2, show ({ e0 with key := key } : MapEntry) = e0 by rw [← h3]]
      exact set_self _ _ _ h2
    have hsame2 : es.modify j (fun e' => { e' with key := key, val := e0.val }) = es := by
      apply Array.ext'
      rw [Array.toList_modify, modify_eq_set _ _ _ _ h2, show ({ e0 with key := key, val := e0.val } : MapEntry) = e0 by rw [← h3]]
      exact set_self _ _ _ h2
    refine ⟨e0.val, e0.born, setBlock w b (.map es clock), ?_, ?_, ?_, fun val => ⟨setBlock w b (.map (es.modify j (fun e' => { e' with key := key, val := val })) clock), ?_, ?_⟩⟩
    · simp [Instr.mapEntry, run_underlying ht, MapKept.run_getObj_map hb, K.check w false hkey, h1, hj, h3, K.stays w hkey, hsame, MapKept.run_setObj_map _ hb, Result.andThen, setBlock]
    · simp [Instr.lookup, run_underlying ht, MapKept.run_getObj_map hb, K.check w es.isEmpty hkey, h1, Result.andThen]
    · simp [Instr.mapUpdate, run_underlying ht, MapKept.run_getObj_map hb, K.check w false hkey, h1, hj, h3, K.stays w hkey, hsame2, MapKept.run_setObj_map _ hb, Result.andThen, setBlock]
    · have hidx : es.findIdx? (fun e => ((e.born : Nat) : Int) == ((e0.born : Nat) : Int)) = some j := by
        rw [findIdx_arr]
        exact findIdx_born s2 h2
      have hmod : es.modify j (fun e => { e with val := val }) = es.modify j (fun e' => { e' with key := key, val := val }) := by
        apply Array.ext'
        rw [Array.toList_modify, Array.toList_modify, modify_eq_set _ _ _ _ h2, modify_eq_set _ _ _ _ h2, ← h3]
      have hst : ∀ u : World, u.heap[b]? = some (.map es clock) → (Instr.entryStore t (.map (some b)) (goInt e0.born) val).run P u = .ok () (setBlock u b (.map (es.modify j (fun e' => { e' with key := key, val := val })) clock)) := fun u hu => by
        simp [Instr.entryStore, MapKept.run_getObj_map hu, asInt, asIntOf, goInt, hidx, hmod, MapKept.run_setObj_map _ hu, Result.andThen, setBlock]
      rw [hst _ (hget _), hset]
    · simp [Instr.mapUpdate, run_underlying ht, MapKept.run_getObj_map hb, K.check w false hkey, h1, hj, h3, K.stays w hkey, MapKept.run_setObj_map _ hb, Result.andThen, setBlock]
end
section
variable {E : Type} {M : Elm E} {w w' : World} {g n r cnt : Nat} {f : Int × Int → Option E} {ks done : List (Int × Int)}
theorem KG.entry (h : KG M w g n f ks) (hn : n < 1000000) {p : Int × Int} (hp : wfK p) : ∃ (st : Nat) (w1 : World), (Instr.mapEntry M.ty (.map (some g)) (keyV p)).run Try.prog w = .ok (.tuple #[M.val ((f p).getD M.z), .int .i64 (st : Int)]) w1 ∧ w.grownBy w1 (some g) ∧
    (Instr.lookup M.ty (.map (some g)) (keyV p) false).run Try.prog w1 = .ok (M.val ((f p).getD M.z)) w1 ∧
    ∀ e, ∃ w2, (Instr.entryStore M.ty (.map (some g)) (.int .i64 (st : Int)) (M.val e)).run Try.prog w1 = .ok () w2 ∧ KG M w2 g (n + 1) (updP f p (some e)) (addP ks p) ∧ w.grownBy w2 (some g) := by
  have hl := h.look hp
  obtain ⟨D, ⟨es, c, hx, F, hs, hD⟩, h2⟩ := id h
  obtain ⟨v0, st, w1, e1, e2, e3, e4⟩ := entry_two keyedK M.und M.zr hx F (keyOfK hp)
  rw [hl] at e2
  cases e2
  obtain ⟨w1', q1, q2, q3⟩ := h.put hn hp ((f p).getD M.z)
  rw [e3] at q1
  cases q1
  refine ⟨st, w1, e1, q3, ?_, fun e => ?_⟩
  · have := q2.look hp
    rw [updP_at] at this
    exact this
  · obtain ⟨w2, r1, r2⟩ := e4 (M.val e)
    obtain ⟨w2', s1, s2, s3⟩ := h.put hn hp e
    rw [r2] at s1
    cases s1
    exact ⟨w2, r1, s2, s3⟩
/-- Block r ranges over the map of block g; the keys of done have come. -/
def KGR (M : Elm E) (w : World) (g r n : Nat) (f : Int × Int → Option E) (done : List (Int × Int)) (cnt : Nat) : Prop :=
  ∃ (D : DataW E) (left : Lit → Bool), w.ranges Try.prog KT M.R g r n D left cnt ∧ (∀ p, wfK p → Maps.has D (klit p) = (f p).isSome ∧ D.atKey (klit p) (.held M.z) = .held ((f p).getD M.z)) ∧
    (∀ p, wfK p → left (klit p) = ((f p).isSome && !done.contains p)) ∧ done.Nodup ∧ (∀ p ∈ done, (f p).isSome = true)
theorem KG.range (h : KG M w g n f ks) : ∃ w', (Instr.range M.ty (.map (some g))).run Try.prog w = .ok (.pointer (some ⟨w.heap.size, 0, none⟩)) w' ∧ (∃ cnt, KGR M w' g w.heap.size n f [] cnt) ∧ Below w.heap.size w w' ∧ w'.heap.size = w.heap.size + 1 := by
  obtain ⟨D, h1, h2, -⟩ := h
  obtain ⟨w', e1, e2, e3, e4⟩ := h1.range keyedK M.und
  exact ⟨w', e1, ⟨_, D, _, e2, h2, fun p hp => by rw [(h2 p hp).1]; simp, List.nodup_nil, fun p hp => by cases hp⟩, ⟨e3.os, e3.tape, e3.output, e3.size, fun i hi => e3.block i hi (by simp)⟩, e4⟩
theorem KGR.next (h : KGR M w g r n f done cnt) (ty : TypeId) :
    (Instr.next (.pointer (some ⟨r, 0, none⟩)) false ty).run Try.prog w = .ok (.tuple #[.bool false]) w ∨
    ∃ p e w' cnt', wfK p ∧ f p = some e ∧ (Instr.next (.pointer (some ⟨r, 0, none⟩)) false ty).run Try.prog w = .ok (.tuple #[.bool true, keyV p, M.val e]) w' ∧
      KGR M w' g r n f (done ++ [p]) cnt' ∧ cnt' < cnt ∧ w.grownBy w' (some r) ∧ w'.heap.size = w.heap.size ∧ (Instr.entry (.pointer (some ⟨r, 0, none⟩))).run Try.prog w' = .ok (.tuple #[keyV p, M.val e]) w' := by
  obtain ⟨D, left, h1, h2, h3, h4, h5⟩ := h
  rcases h1.next keyedK ty with ⟨-, hl, hrun⟩ | ⟨key, v, kl, y, w', cnt', hkey, hlk, hv, hat, hrun, hrg, hlt, hgr, hsz, hen⟩
  · exact .inl hrun
  · obtain ⟨p, hp, rfl, rfl⟩ := keyOfK_inv hkey
    obtain ⟨q, rfl, rfl⟩ := M.inv hv
    have e1 : D.atKey (klit p) (.held M.z) = .held q := hat _
    rw [(h2 p hp).2] at e1
    have e3 := h3 p hp
    rw [hlk] at e3
    have hs : (f p).isSome = true ∧ p ∉ done := by simpa using e3.symm
    obtain ⟨b, hb⟩ := Option.isSome_iff_exists.1 hs.1
    rw [hb] at e1
    cases e1
    refine .inr ⟨p, b, w', cnt', hp, hb, hrun, ⟨D, _, hrg, h2, fun z hz => ?_, ?_, fun z hz => ?_⟩, hlt, hgr, hsz, hen⟩
    · rw [h3 z hz]
      by_cases e : z = p
      · subst e
        rw [WideAt.sameKey_self (klit_key hz)]
        simp
      · have hn : (klit z).sameKey (klit p) = false := by
          cases hq : (klit z).sameKey (klit p) with
          | false => rfl
          | true => exact absurd (klit_inj hz hp (WideAt.sameKey_eq hq)) e
        rw [hn]
        simp [e]
    · rw [List.nodup_append]
      exact ⟨h4, by simp, fun a ha b hb e => by
        have : b = p := by simpa using hb
        rw [e, this] at ha
        exact hs.2 ha⟩
    · rcases List.mem_append.1 hz with q | q
      · exact h5 z q
      · have : z = p := by simpa using q
        rw [this]; exact hs.1
theorem KGR.kept (h : KGR M w g r n f done cnt) {row : Option Nat} (hg : w.grownBy w' row) (h1 : some g ≠ row) (h2 : some r ≠ row) : KGR M w' g r n f done cnt := by
  obtain ⟨D, left, q1, q2⟩ := h
  exact ⟨D, left, q1.kept hg h1 h2, q2⟩
theorem KGR.later (h : KGR M w g r n f done cnt) (hb : Below w.heap.size w w') : KGR M w' g r n f done cnt := h.kept (grown_of_below hb none) (by simp) (by simp)
theorem KGR.left_eq (h : KGR M w g r n f done cnt) : w.rangeLeft g r = cnt := by
  obtain ⟨D, left, q1, q2⟩ := h
  exact q1.left_eq
theorem KGR.lt (h : KGR M w g r n f done cnt) : r < w.heap.size := by
  obtain ⟨D, left, q1, q2⟩ := h
  exact q1.lt
theorem KGR.ne (h : KGR M w g r n f done cnt) : r ≠ g := by
  obtain ⟨D, left, q, _⟩ := h
  exact q.ne
end
/-- Slices of a block's bytes. -/
def bslV : Option Nat → Value
  | some g => .slice (some ⟨g, 0, none⟩) 64 64
  | none => .slice none 0 0
def bslE (v : Value) : Option (DataW (Option Nat) × List MemPlace) :=
  match v with
  | .slice (some ⟨g, 0, none⟩) 64 64 => some (.held (some g), [])
  | .slice none 0 0 => some (.held none, [])
  | _ => none
def elB : Elm (Option Nat) where
  R := bslE
  val := bslV
  z := none
  ty := 54
  el := 35
  und := Try.underlying54
  zr := fun w => by kernel_rfl
  rd := fun e => by cases e <;> rfl
  inv := fun {v y} h => by
    unfold bslE at h
    split at h
    · cases h; exact ⟨some _, rfl, rfl⟩
    · cases h; exact ⟨none, rfl, rfl⟩
    · cases h
end Go.Proofs.Ytdnkeplmjimjcaa
/-
  CacheKeeps' numbers: what is dirty, and how often pinned, under a key.
-/
namespace Go.Proofs.Ytdnkeplmjimjcaa
open Go.RowKit

def Dk (L : List Bk) (p : Int × Int) : Option (Nat → Nat) := match findK L p with | some s => if s.dirty = true then some s.data else none | none => none
def Pk (L : List Bk) (p : Int × Int) : Int := match findK L p with | some s => s.pins | none => 0
theorem Dk_eq {L L' : List Bk} {p q : Int × Int} (h : findK L p = findK L' q) : Dk L p = Dk L' q := by unfold Dk; rw [h]
theorem Pk_eq {L L' : List Bk} {p q : Int × Int} (h : findK L p = findK L' q) : Pk L p = Pk L' q := by unfold Pk; rw [h]
theorem findK_wo_ne {L : List Bk} {p q : Int × Int} (h : q ≠ p) : findK (woK L p) q = findK L q := by
  unfold findK woK
  rw [List.find?_filter]
  congr 1
  funext s
  by_cases e : s.key = q
  · simp [e, h]
  · simp [e]
theorem findK_wo {L : List Bk} {p : Int × Int} : findK (woK L p) p = none := findK_none (woK_nok L p)
theorem findK_app {A : List Bk} {s : Bk} {q : Int × Int} : findK (A ++ [s]) q = (findK A q).or (if s.key = q then some s else none) := by
  unfold findK
  rw [List.find?_append]
  congr 1
  by_cases e : s.key = q <;> simp [e]
/-- A list whose last one is the key's. -/
theorem findK_use {L : List Bk} {s : Bk} {q : Int × Int} : findK (woK L s.key ++ [s]) q = if q = s.key then some s else findK L q := by
  rw [findK_app]
  by_cases e : q = s.key
  · rw [if_pos e, e, findK_wo, if_pos rfl]; rfl
  · rw [if_neg e, findK_wo_ne e, if_neg (fun h => e h.symm), Option.or_none]
theorem findK_set {L : List Bk} {p q : Int × Int} {g : Bk → Bk} (hg : ∀ s, (g s).key = s.key) : findK (setK L p g) q = if q = p then (findK L p).map g else findK L q := by
  unfold findK setK
  rw [List.find?_map]
  by_cases e : q = p
  · subst e
    rw [if_pos rfl]
    have : ((fun s : Bk => decide (s.key = q)) ∘ fun s => if s.key = q then g s else s) = fun s => decide (s.key = q) := by
      funext s
      have h1 : (if s.key = q then g s else s).key = s.key := by split <;> simp [hg]
      simp only [Function.comp, h1]
    rw [this]
    cases hf : L.find? fun s => decide (s.key = q) with
    | none => rfl
    | some s =>
      have : s.key = q := by simpa using List.find?_some hf
      simp [this]
  · rw [if_neg e]
    have : ((fun s : Bk => decide (s.key = q)) ∘ fun s => if s.key = p then g s else s) = fun s => decide (s.key = q) := by
      funext s
      have h1 : (if s.key = p then g s else s).key = s.key := by split <;> simp [hg]
      simp only [Function.comp, h1]
    rw [this]
    cases hf : L.find? fun s => decide (s.key = q) with
    | none => rfl
    | some s =>
      have h1 : s.key = q := by simpa using List.find?_some hf
      simp only [Option.map_some]
      rw [if_neg (fun h => e (h1.symm.trans h))]
theorem findK_in {L : List Bk} (hn : (L.map Bk.key).Nodup) {s : Bk} (hs : s ∈ L) : findK L s.key = some s := find_only hs rfl (fun _ ht e => nodup_key hn ht hs e)
/-- What makes room takes nothing that is dirty, or pinned. -/
theorem room_keep {room : Int} {L : List Bk} (hn : (L.map Bk.key).Nodup) (q : Int × Int) : Dk (roomK room L).1 q = Dk L q ∧ Pk (roomK room L).1 q = Pk L q := by
  unfold roomK
  by_cases h1 : (L.length : Int) < room
  · rw [if_pos h1]; exact ⟨rfl, rfl⟩
  · rw [if_neg h1]
    cases h2 : L.find? goK with
    | none => exact ⟨rfl, rfl⟩
    | some s =>
      have hs := List.mem_of_find?_eq_some h2
      have hg : goK s = true := List.find?_some h2
      have hd : s.dirty = false ∧ s.pins = 0 := by simpa [goK] using hg
      by_cases e : q = s.key
      · subst e
        show Dk (woK L s.key) s.key = _ ∧ Pk (woK L s.key) s.key = _
        unfold Dk Pk
        rw [findK_wo, findK_in hn hs]
        simp [hd.1, hd.2]
      · exact ⟨Dk_eq (findK_wo_ne e), Pk_eq (findK_wo_ne e)⟩
theorem put_D {room : Int} {L : List Bk} {p : Int × Int} {l : List Nat} {d : Bool} (hn : (L.map Bk.key).Nodup) (h : (putK room L p l d).2 = 0) (q : Int × Int) :
    Dk (putK room L p l d).1 q = (if q = p then (if ((Dk L p).isSome || d) = true then some (gd l) else none) else Dk L q) ∧ Pk (putK room L p l d).1 q = Pk L q := by
  obtain ⟨h64, -⟩ := put_yes h
  unfold putK at h ⊢
  rw [if_neg (by omega)] at h ⊢
  cases hf : findK L p with
  | some s =>
    have hk : (⟨p, gd l, s.dirty || d, s.pins⟩ : Bk).key = p := rfl
    have := findK_use (L := L) (s := ⟨p, gd l, s.dirty || d, s.pins⟩) (q := q)
    rw [hk] at this
    simp only
    by_cases e : q = p
    · subst e
      rw [if_pos rfl] at this
      unfold Dk Pk
      rw [this, hf]
      simp only
      refine ⟨?_, trivial⟩
      rw [if_pos trivial]
      by_cases hd : s.dirty = true
      · simp [hd]
      · simp [hd]
    · rw [if_neg e] at this
      rw [if_neg e]
      exact ⟨Dk_eq this, Pk_eq this⟩
  | none =>
    rw [hf] at h
    simp only at h ⊢
    by_cases hr : (roomK room L).2 = true
    · rw [if_pos hr] at h ⊢
      have hnk : findK (roomK room L).1 p = none := by
        cases hq : findK (roomK room L).1 p with
        | none => rfl
        | some t =>
          obtain ⟨h1, h2⟩ := findK_mem hq
          obtain ⟨t', ht'⟩ := findK_some (room_sub t h1) h2
          rw [hf] at ht'; cases ht'
      have hu : findK ((roomK room L).1 ++ [⟨p, gd l, d, 0⟩]) q = if q = p then some ⟨p, gd l, d, 0⟩ else findK (roomK room L).1 q := by
        rw [findK_app]
        by_cases e : q = p
        · rw [if_pos e, e, hnk, if_pos rfl]; rfl
        · rw [if_neg e, if_neg (fun h => e h.symm), Option.or_none]
      obtain ⟨k1, k2⟩ := room_keep (room := room) hn q
      by_cases e : q = p
      · subst e
        rw [if_pos rfl] at hu
        unfold Dk Pk
        simp only [hu, hf]
        cases d <;> simp
      · rw [if_neg e] at hu
        rw [if_neg e, ← k1, ← k2]
        exact ⟨Dk_eq hu, Pk_eq hu⟩
    · rw [if_neg hr] at h
      cases h
theorem get_D {L : List Bk} {p : Int × Int} (q : Int × Int) : Dk (getK L p).1 q = Dk L q ∧ Pk (getK L p).1 q = Pk L q := by
  unfold getK
  cases hf : findK L p with
  | none => exact ⟨rfl, rfl⟩
  | some s =>
    have hk := (findK_mem hf).2
    have : findK (woK L p ++ [s]) q = findK L q := by
      have := findK_use (L := L) (s := s) (q := q)
      rw [hk] at this
      rw [this]
      split
      · rename_i e; rw [e, hf]
      · rfl
    exact ⟨Dk_eq this, Pk_eq this⟩
/-- A call that Do tells, and that was let. -/
theorem do_D {L : List Bk} {k : Int} {p : Int × Int} (hp : ∀ s ∈ L, 0 ≤ s.pins) (h : (doK L k p).2 = 0) (q : Int × Int) :
    Dk (doK L k p).1 q = (if q = p ∧ (k = 3 ∨ (k ≠ 4 ∧ k ≠ 5)) then none else Dk L q) ∧ Pk (doK L k p).1 q = (if q = p then (if k = 3 then Pk L p else if k = 4 then Pk L p + 1 else if k = 5 then Pk L p - 1 else 0) else Pk L q) ∧ (k ≠ 3 → k ≠ 4 → k ≠ 5 → Pk L p = 0) := by
  unfold doK at h ⊢
  cases hf : findK L p with
  | none => rw [hf] at h; cases h
  | some s =>
    rw [hf] at h
    have hpin := hp s (findK_mem hf).1
    simp only at h ⊢
    by_cases h3 : k = 3
    · rw [if_pos h3] at h ⊢
      have := findK_set (L := L) (p := p) (q := q) (g := fun s => { s with dirty := false }) (fun _ => rfl)
      refine ⟨?_, ?_, fun e => absurd h3 e⟩
      · by_cases e : q = p
        · rw [if_pos ⟨e, .inl h3⟩]
          rw [if_pos e, hf] at this
          unfold Dk
          rw [this]; rfl
        · rw [if_neg (fun h => e h.1)]
          rw [if_neg e] at this
          exact Dk_eq this
      · by_cases e : q = p
        · rw [if_pos e, if_pos h3]
          rw [if_pos e, hf] at this
          unfold Pk
          rw [this, hf]; rfl
        · rw [if_neg e]
          rw [if_neg e] at this
          exact Pk_eq this
    rw [if_neg h3] at h ⊢
    by_cases h4 : k = 4
    · rw [if_pos h4] at h ⊢
      have := findK_set (L := L) (p := p) (q := q) (g := fun s => { s with pins := s.pins + 1 }) (fun _ => rfl)
      refine ⟨?_, ?_, fun _ e => absurd h4 e⟩
      · rw [if_neg (fun h => by omega)]
        by_cases e : q = p
        · rw [if_pos e, hf] at this
          unfold Dk
          rw [this, e, hf]; rfl
        · rw [if_neg e] at this
          exact Dk_eq this
      · by_cases e : q = p
        · rw [if_pos e, if_neg h3, if_pos h4]
          rw [if_pos e, hf] at this
          unfold Pk
          rw [this, hf]; rfl
        · rw [if_neg e]
          rw [if_neg e] at this
          exact Pk_eq this
    rw [if_neg h4] at h ⊢
    by_cases h5 : k = 5
    · rw [if_pos h5] at h ⊢
      by_cases h0 : s.pins = 0
      · rw [if_pos h0] at h; cases h
      rw [if_neg h0] at h ⊢
      have := findK_set (L := L) (p := p) (q := q) (g := fun s => { s with pins := s.pins - 1 }) (fun _ => rfl)
      refine ⟨?_, ?_, fun _ _ e => absurd h5 e⟩
      · rw [if_neg (fun h => by omega)]
        by_cases e : q = p
        · rw [if_pos e, hf] at this
          unfold Dk
          rw [this, e, hf]; rfl
        · rw [if_neg e] at this
          exact Dk_eq this
      · by_cases e : q = p
        · rw [if_pos e, if_neg h3, if_neg h4, if_pos h5]
          rw [if_pos e, hf] at this
          unfold Pk
          rw [this, hf]; rfl
        · rw [if_neg e]
          rw [if_neg e] at this
          exact Pk_eq this
    rw [if_neg h5] at h ⊢
    by_cases h0 : 0 < s.pins
    · rw [if_pos h0] at h; cases h
    rw [if_neg h0] at h ⊢
    refine ⟨?_, ?_, fun _ _ _ => ?_⟩
    · by_cases e : q = p
      · rw [if_pos ⟨e, .inr ⟨h4, h5⟩⟩, e]
        unfold Dk
        rw [findK_wo]
      · rw [if_neg (fun h => e h.1)]
        exact Dk_eq (findK_wo_ne e)
    · by_cases e : q = p
      · rw [if_pos e, if_neg h3, if_neg h4, if_neg h5, e]
        unfold Pk
        rw [findK_wo]
      · rw [if_neg e]
        exact Pk_eq (findK_wo_ne e)
    · unfold Pk
      rw [hf]
      show s.pins = 0
      omega
theorem do_no {L : List Bk} {k : Int} {p : Int × Int} (h : (doK L k p).2 ≠ 0) : (doK L k p).1 = L := by
  unfold doK at h ⊢
  cases hf : findK L p with
  | none => rfl
  | some s =>
    rw [hf] at h
    simp only at h ⊢
    by_cases h3 : k = 3
    · rw [if_pos h3] at h; exact absurd rfl h
    rw [if_neg h3] at h ⊢
    by_cases h4 : k = 4
    · rw [if_pos h4] at h; exact absurd rfl h
    rw [if_neg h4] at h ⊢
    by_cases h5 : k = 5
    · rw [if_pos h5] at h ⊢
      by_cases h0 : s.pins = 0
      · rw [if_pos h0]
      · rw [if_neg h0] at h; exact absurd rfl h
    rw [if_neg h5] at h ⊢
    by_cases h0 : 0 < s.pins
    · rw [if_pos h0]
    · rw [if_neg h0] at h; exact absurd rfl h
theorem Dk_mem {L : List Bk} {p : Int × Int} (h : (Dk L p).isSome = true) : ∃ s ∈ L, s.key = p ∧ s.dirty = true ∧ Dk L p = some s.data := by
  unfold Dk at h ⊢
  cases hf : findK L p with
  | none => rw [hf] at h; cases h
  | some s =>
    rw [hf] at h
    simp only at h ⊢
    by_cases hd : s.dirty = true
    · exact ⟨s, (findK_mem hf).1, (findK_mem hf).2, hd, by rw [if_pos hd]⟩
    · rw [if_neg hd] at h; cases h
theorem Pk_mem {L : List Bk} {p : Int × Int} (h : Pk L p ≠ 0) : ∃ s ∈ L, s.key = p := by
  unfold Pk at h
  cases hf : findK L p with
  | none => rw [hf] at h; exact absurd rfl h
  | some s => exact ⟨s, findK_mem hf⟩
end Go.Proofs.Ytdnkeplmjimjcaa
/-
  What CacheKeeps keeps between calls: the cache, the map of what is dirty, the map of pins.
-/
namespace Go.Proofs.Ytdnkeplmjimjcaa
open Go.RowKit

/-- A block's bytes, where they are dirty. -/
def DDp (W : World) : Option (Nat → Nat) → Option (Option Nat) → Prop
  | none, none => True
  | some d, some (some g) => BBlk W g (dtL d)
  | _, _ => False
structure KeS (w : World) (bc bm : Nat) (r : Int) (md mp i : Nat) (L0 L : List Bk) (fd : Int × Int → Option (Option Nat)) (nd : Nat) (kd : List (Int × Int)) (fp : Int × Int → Option Int) (np : Nat) (kp : List (Int × Int)) (wr : World) : Prop where
  lw : LwS w bc bm r i i L [] wr
  dm : KG elB wr md nd fd kd
  pm : KG elI wr mp np fp kp
  dd : ∀ p, DDp wr (Dk L0 p) (fd p)
  pp : ∀ p, (fp p).getD 0 = Pk L0 p
  cnt : nd ≤ i ∧ np ≤ i
  ne : md ≠ bm ∧ mp ≠ bm ∧ md ≠ mp
  low : w.heap.size ≤ md ∧ w.heap.size ≤ mp
section
variable {w wr w' W W' : World} {bc bm md mp i : Nat} {r : Int} {N T N' T' : Nat} {L L' L0 : List Bk} {fd : Int × Int → Option (Option Nat)} {nd : Nat} {kd : List (Int × Int)} {fp : Int × Int → Option Int} {np : Nat} {kp : List (Int × Int)} {p : Int × Int}
theorem DDp.mono {a : Option (Nat → Nat)} {b : Option (Option Nat)} (h : DDp W a b) (hb : ∀ g l, BBlk W g l → BBlk W' g l) : DDp W' a b := by
  match a, b, h with
  | none, none, _ => trivial
  | some d, some (some g), h => exact hb _ _ h
theorem DDp.is {a : Option (Nat → Nat)} {b : Option (Option Nat)} (h : DDp W a b) : b.isSome = a.isSome := by
  match a, b, h with
  | none, none, _ => rfl
  | some d, some (some g), _ => rfl
theorem KG.del_any {E : Type} {M : Elm E} {g n : Nat} {f : Int × Int → Option E} {ks : List (Int × Int)} (h : KG M w g n f ks) (hp : wfK p) (ty : TypeId) : ∃ w' ks', (Builtin.delete_ #[M.ty, KT] ty #[.map (some g), keyV p]).run Try.prog w = .ok (.tuple #[]) w' ∧ KG M w' g n (updP f p none) ks' ∧ w.grownBy w' (some g) := by
  by_cases hin : p ∈ ks
  · obtain ⟨w', q1, q2, q3⟩ := h.del hp hin ty
    exact ⟨w', _, q1, q2, q3⟩
  · obtain ⟨w', q1, q2, q3⟩ := h.del_none hp hin ty
    have hf : f p = none := by
      obtain ⟨D, h1, h2, h5, h6, h8, h7⟩ := h
      cases hq : f p with
      | none => rfl
      | some e => exact absurd ((h6 p).2 (by rw [hq]; rfl)) hin
    refine ⟨w', ks, q1, ?_, q3⟩
    have : updP f p none = f := by
      funext q
      by_cases e : q = p
      · rw [e, updP_at, hf]
      · rw [updP_ne _ _ e]
    rw [this]
    exact q2
theorem KeS.later (h : KeS w bc bm r md mp i L0 L fd nd kd fp np kp wr) (hb : Below wr.heap.size wr w') : KeS w bc bm r md mp i L0 L fd nd kd fp np kp w' :=
  ⟨h.lw.later hb, h.dm.later hb, h.pm.later hb, fun p => (h.dd p).mono fun _ _ q => q.later hb, h.pp, h.cnt, h.ne, h.low⟩
theorem KeS.up (h : KeS w bc bm r md mp i L0 L fd nd kd fp np kp wr) : KeS w bc bm r md mp (i + 1) L0 L fd nd kd fp np kp wr :=
  ⟨h.lw.mono (by omega) (by omega), h.dm, h.pm, h.dd, h.pp, ⟨by have := h.cnt; omega, by have := h.cnt; omega⟩, h.ne, h.low⟩
theorem KeS.call (h : KeS w bc bm r md mp i L0 L fd nd kd fp np kp wr) (hC : CA w' bc bm w.heap.size r (i + 1) (i + 1) L') (ho : Out (XC wr bc bm w.heap.size) wr w') : KeS w bc bm r md mp (i + 1) L0 L' fd nd kd fp np kp w' :=
  ⟨h.lw.call hC ho, h.dm.outq ho (mp_xc h.dm h.ne.1 h.lw.ca), h.pm.outq ho (mp_xc h.pm h.ne.2.1 h.lw.ca), fun p => (h.dd p).mono fun _ _ q => ⟨ho.blo q.1 (xc_u8 h.lw.ca q.1), q.2⟩, h.pp, ⟨by have := h.cnt; omega, by have := h.cnt; omega⟩, h.ne, h.low⟩
theorem KeS.same (h : KeS w bc bm r md mp i L0 L fd nd kd fp np kp wr) (hq : ∀ q, Dk L q = Dk L0 q ∧ Pk L q = Pk L0 q) : KeS w bc bm r md mp i L L fd nd kd fp np kp wr :=
  ⟨h.lw, h.dm, h.pm, fun p => by rw [(hq p).1]; exact h.dd p, fun p => by rw [(hq p).2]; exact h.pp p, h.cnt, h.ne, h.low⟩
/-- A block of bytes is put under a key. -/
theorem KeS.dput (h : KeS w bc bm r md mp i L0 L fd nd kd fp np kp wr) (hg : wr.grownBy w' (some md)) {g : Nat} {l : List Nat} (hB : BBlk wr g l) (hM : KG elB w' md (nd + 1) (updP fd p (some (some g))) (addP kd p)) (hn : nd + 1 ≤ i)
    (hq : ∀ q, Dk L q = (if q = p then some (gd l) else Dk L0 q) ∧ Pk L q = Pk L0 q) : KeS w bc bm r md mp i L L (updP fd p (some (some g))) (nd + 1) (addP kd p) fp np kp w' := by
  have ho : Out (fun g => g = md) wr w' := Out.of_grown hg (fun g e => by cases e; rfl)
  have hk : ∀ g l, BBlk wr g l → BBlk w' g l := fun g l q => ⟨ho.blo q.1 (fun e => h.dm.blo q.1 e.symm), q.2⟩
  refine ⟨h.lw.map h.dm h.ne.1 h.low.1 hg, hM, h.pm.outq ho (fun e => h.ne.2.2 e.symm), fun q => ?_, fun q => by rw [(hq q).2]; exact h.pp q, ⟨hn, h.cnt.2⟩, h.ne, h.low⟩
  rw [(hq q).1]
  by_cases e : q = p
  · rw [if_pos e, e, updP_at]
    show BBlk w' g (dtL (gd l))
    rw [dtL_gd hB.2.1]
    exact hk _ _ hB
  · rw [if_neg e, updP_ne _ _ e]
    exact (h.dd q).mono hk
/-- A key is deleted. -/
theorem KeS.ddel (h : KeS w bc bm r md mp i L0 L fd nd kd fp np kp wr) (hg : wr.grownBy w' (some md)) {kd' : List (Int × Int)} (hM : KG elB w' md nd (updP fd p none) kd')
    (hq : ∀ q, Dk L q = (if q = p then none else Dk L0 q) ∧ Pk L q = Pk L0 q) : KeS w bc bm r md mp i L L (updP fd p none) nd kd' fp np kp w' := by
  have ho : Out (fun g => g = md) wr w' := Out.of_grown hg (fun g e => by cases e; rfl)
  have hk : ∀ g l, BBlk wr g l → BBlk w' g l := fun g l q => ⟨ho.blo q.1 (fun e => h.dm.blo q.1 e.symm), q.2⟩
  refine ⟨h.lw.map h.dm h.ne.1 h.low.1 hg, hM, h.pm.outq ho (fun e => h.ne.2.2 e.symm), fun q => ?_, fun q => by rw [(hq q).2]; exact h.pp q, h.cnt, h.ne, h.low⟩
  rw [(hq q).1]
  by_cases e : q = p
  · rw [if_pos e, e, updP_at]; trivial
  · rw [if_neg e, updP_ne _ _ e]
    exact (h.dd q).mono hk
/-- A number is put under a key. -/
theorem KeS.pput (h : KeS w bc bm r md mp i L0 L fd nd kd fp np kp wr) (hg : wr.grownBy w' (some mp)) {v : Int} (hM : KG elI w' mp (np + 1) (updP fp p (some v)) (addP kp p)) (hn : np + 1 ≤ i)
    (hq : ∀ q, Dk L q = Dk L0 q ∧ Pk L q = (if q = p then v else Pk L0 q)) : KeS w bc bm r md mp i L L fd nd kd (updP fp p (some v)) (np + 1) (addP kp p) w' := by
  have ho : Out (fun g => g = mp) wr w' := Out.of_grown hg (fun g e => by cases e; rfl)
  have hk : ∀ g l, BBlk wr g l → BBlk w' g l := fun g l q => ⟨ho.blo q.1 (fun e => h.pm.blo q.1 e.symm), q.2⟩
  refine ⟨h.lw.map h.pm h.ne.2.1 h.low.2 hg, h.dm.outq ho h.ne.2.2, hM, fun q => by rw [(hq q).1]; exact (h.dd q).mono hk, fun q => ?_, ⟨h.cnt.1, hn⟩, h.ne, h.low⟩
  rw [(hq q).2]
  by_cases e : q = p
  · rw [if_pos e, e, updP_at]; rfl
  · rw [if_neg e, updP_ne _ _ e]
    exact h.pp q
theorem CA.pins {base : Nat} (h : CA W bc bm base r N T L) : ∀ s ∈ L, 0 ≤ s.pins ∧ s.pins ≤ (T : Int) := fun s hs => by
  obtain ⟨x, hC, rfl⟩ := h
  unfold lstK at hs
  obtain ⟨b, hb, rfl⟩ := List.mem_map.1 hs
  exact hC.ps.pins b hb
theorem CA.pk {base : Nat} (h : CA W bc bm base r N T L) (p : Int × Int) : 0 ≤ Pk L p ∧ Pk L p ≤ (T : Int) := by
  unfold Pk
  cases hf : findK L p with
  | none => exact ⟨Int.le_refl _, by show (0 : Int) ≤ _; omega⟩
  | some s => exact h.pins s (findK_mem hf).1
end
end Go.Proofs.Ytdnkeplmjimjcaa
