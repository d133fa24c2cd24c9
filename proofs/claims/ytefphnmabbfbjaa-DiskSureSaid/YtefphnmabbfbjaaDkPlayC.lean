/-
  Play's call of Crash, and of none.
-/
import Derived.Test.YtefphnmabbfbjaaDkPlayB
import Derived.Test.YtefphnmabbfbjaaCopyIn
namespace Go.Proofs.Ytefphnmabbfbjaa
open Go.RowKit

theorem info_bool : (Try.prog.info? 4).map (fun i => (i.zero, i.size, i.bytes)) = some (some (.bool false), 1, 1) := by kernel_rfl
def cellsL (l : List Bool) : List Value := l.map Value.bool
theorem cellsL_get (l : List Bool) (i : Nat) (h : i < l.length) : (cellsL l)[i]? = some (.bool (l.getD i false)) := by
  simp [cellsL, List.getD_eq_getElem?_getD, List.getElem?_eq_getElem h]
theorem cellsL_one (l : List Bool) : ∀ u ∈ cellsL l, u.oneCell' = true := fun u hu => by
  obtain ⟨b, _, rfl⟩ := List.mem_map.1 hu; rfl
theorem bools_add {w : World} {a : Option Addr} {l : List Bool} (h : Bools w a l) : ∀ ad, a = some ad → ∀ j u, (cellsL l)[j]? = some u → w.cell? (ad.add j) = some u := fun ad ha j u hj => by
  have hjl : j < l.length := by
    have := (List.getElem?_eq_some_iff.1 hj).1
    simpa [cellsL] using this
  obtain ⟨b, o, ha', hc⟩ := h (fun e => by rw [e] at hjl; cases hjl)
  rw [ha] at ha'
  cases ha'
  rw [Addr.add_lit, hc j hjl, ← hj, cellsL_get l j hjl]
theorem bools_own {w : World} {base n cap : Nat} {e : TypeId} {a : Option Addr} {l : List Bool} (h : w.ownsRow base e 1 (.slice a n cap) n (cellsL l)) : Bools w a l := fun hl => by
  have hlen : n = l.length := by have := h.1; simp [cellsL] at this; exact this.symm
  rcases id h.2 with ⟨h1, h0⟩ | ⟨g, c, cur, h1, _⟩
  · exact absurd (List.eq_nil_of_length_eq_zero (by omega)) hl
  · cases h1
    exact ⟨g, 0, rfl, fun i hi => by rw [Nat.zero_add, h.cellAt i (by omega), cellsL_get l i hi]⟩
/-- Small enough. -/
structure Sm (B : Nat) (d : Dm) : Prop where
  st : d.steps ≤ B
  ql : d.Q.length ≤ B
  pos : 0 ≤ d.left
theorem Sm.mono {B B' : Nat} {d : Dm} (h : Sm B d) (hb : B ≤ B') : Sm B' d := ⟨by have := h.st; omega, by have := h.ql; omega, h.pos⟩
theorem sm_write {B : Nat} {d : Dm} (h : Sm B d) (k : Int) (l : List Nat) : Sm (B + 1) (writeD d k l).1 := by
  unfold writeD
  split
  · exact h.mono (by omega)
  · split
    · exact h.mono (by omega)
    · rename_i _ hd
      exact ⟨by show d.steps + 1 ≤ _; have := h.st; omega, by show (d.Q ++ [_]).length ≤ _; have := h.ql; simp; omega, putD_pos h.pos (bool_no hd)⟩
theorem sm_barr {B : Nat} {d : Dm} (h : Sm B d) : Sm (B + 1) (barrD d).1 := by
  unfold barrD
  split
  · exact h.mono (by omega)
  · rename_i hd
    exact ⟨by show d.steps + 1 ≤ _; have := h.st; omega, by show 0 ≤ _; omega, barD_pos h.pos (bool_no hd)⟩
theorem sm_arms {B : Nat} {d : Dm} (h : Sm B d) (k : Int) : Sm (B + 1) (armsD d k).1 := by
  unfold armsD
  split
  · exact h.mono (by omega)
  · split
    · exact h.mono (by omega)
    · rename_i hk _
      exact ⟨by show d.steps ≤ _; have := h.st; omega, by show d.Q.length ≤ _; have := h.ql; omega, by show 0 ≤ k; omega⟩
theorem sm_crash (B : Nat) (d : Dm) (keep : List Bool) (torn sec : Int) : Sm B (crashD d keep torn sec) := ⟨by show (0 : Int) ≤ B; omega, Nat.zero_le _, Int.le_refl 0⟩
theorem Dk.beside {C1 : Nat} {w w' : World} {L Lc : Dl} {d1 : Dm} (h : Dk C1 w Lc d1) (ho : Out L.has w w') (hx : ∀ i, Lc.has i → ¬ L.has i) : Dk C1 w' Lc d1 := h.out ho hx
set_option maxRecDepth 100000 in
set_option maxHeartbeats 4000000 in
theorem play_none {w0 w : World} {L : Dl} {d : Dm} {sa qa ba ka : Option Addr} {sc qc bn bc kn kc : Nat} {x : OpT} (h0 : Below w0.heap.size w0 w) (h : Dk w0.heap.size w L d) (hm : Mr w sa qa sc qc d) (hk1 : (x.k == 1) = false) (hk2 : (x.k == 2) = false) (hk3 : (x.k == 3) = false) (hk4 : (x.k == 4) = false) :
    Calls Try.prog 13 #[.pointer (some ⟨L.bd, 0, none⟩), .agg (agR sa qa sc qc d), .agg (opA ba bn bc ka kn kc x)] w (PlayO w0.heap.size L w d) := by
  have HC : Hid (w0.heap.size ≤ w.heap.size) := h0.size
  have HPS := Lib.hid (ps_new w (agR sa qa sc qc d) (opA ba bn bc ka kn kc x))
  have hb := three_below w (.cells (agR sa qa sc qc d) RDT) (.cells (opA ba bn bc ka kn kc x) OPT) (.cells zeroR RDT)
  have HB : Hid (Fr L w _) := fr_new hb
  have HD := Lib.hid (h.later hb)
  have HM := Lib.hid (hm.later hb)
  clear h0 h hm hb
  show Calls Try.prog 13 #[.pointer (some ⟨L.bd, 0, none⟩), .agg #[.slice sa d.n sc, .slice qa d.Q.length qc, .int .i64 d.steps, .int .i64 (lfD d)], .agg #[.int .i64 x.k, .int .i64 x.n, .int .i64 x.s, .slice ba bn bc, .bool x.raw, .slice ka kn kc]] w (PlayO w0.heap.size L w d)
  go_enter Try.func13, Try.ntmps13
  go_upto_region 2 with (fail)
  obtain ⟨w2, hw2⟩ : ∃ w2, ((w.alloc (.cells (agR sa qa sc qc d) RDT)).alloc (.cells (opA ba bn bc ka kn kc x) OPT)).alloc (.cells zeroR RDT) = w2 := ⟨_, rfl⟩
  rw [hw2] at HPS HB HD HM
  have hw3 : ((w.alloc (.cells #[.slice sa d.n sc, .slice qa d.Q.length qc, .int .i64 d.steps, .int .i64 (lfD d)] RDT)).alloc (.cells #[.int .i64 x.k, .int .i64 x.n, .int .i64 x.s, .slice ba bn bc, .bool x.raw, .slice ka kn kc] OPT)).alloc (.cells #[.slice none 0 0, .slice none 0 0, .int .i64 0, .int .i64 0] RDT) = w2 := hw2
  simp only [hw3]
  clear hw2 hw3
  have o0 := HPS.out.o.cell 0
  simp [opA] at o0
  go_upto_region 30 with (fail)
  have HF : Hid (Ps4 w0.heap.size w2 w.heap.size (opA ba bn bc ka kn kc x) L d sa qa sc qc) := ⟨HPS.out, HD.out, HM.out⟩
  clear HPS HD HM o0
  have y0 := HF.out.ps.m.cell 0
  have y1 := HF.out.ps.m.cell 1
  have y2 := HF.out.ps.m.cell 2
  have y3 := HF.out.ps.m.cell 3
  have z0 := HF.out.ps.z.cell 0
  have z1 := HF.out.ps.z.cell 1
  have z2 := HF.out.ps.z.cell 2
  have z3 := HF.out.ps.z.cell 3
  have f0 := HF.out.ps.z.frozen 0
  have f1 := HF.out.ps.z.frozen 1
  have f2 := HF.out.ps.z.frozen 2
  have f3 := HF.out.ps.z.frozen 3
  simp [agR, zeroR] at y0 y1 y2 y3 z0 z1 z2 z3
  have HFin := Lib.hid (ps4_fin HF.out HB.out)
  go_region
  all_goals
    clear y0 y1 y2 y3 f0 f1 f2 f3
    go_wp2
    refine bodyPost_ret (v := .tuple #[.pointer (some ⟨L.bd, 0, none⟩), .agg #[.slice sa d.n sc, .slice qa d.Q.length qc, .int .i64 d.steps, .int .i64 (lfD d)], .bool true]) ?_ rfl HFin.out
    simp [results, Try.results13, go_sem, z0, z1, z2, z3]
set_option maxRecDepth 100000 in
set_option maxHeartbeats 4000000 in
theorem play_crash {w0 w : World} {L : Dl} {d : Dm} {sa qa ba ka : Option Addr} {sc qc bn bc kn kc : Nat} {x : OpT} (h0 : Below w0.heap.size w0 w) (hop : OpIs w0 ba bn bc ka kn kc x) (h : Dk w0.heap.size w L d) (hm : Mr w sa qa sc qc d) (hsm : Sm 90000 d) (hk : x.k = 4) :
    Calls Try.prog 13 #[.pointer (some ⟨L.bd, 0, none⟩), .agg (agR sa qa sc qc d), .agg (opA ba bn bc ka kn kc x)] w (PlayO w0.heap.size L w (crashD d x.keep x.n x.s)) := by
  have HC : Hid (w0.heap.size ≤ w.heap.size) := h0.size
  have HPS := Lib.hid (ps_new w (agR sa qa sc qc d) (opA ba bn bc ka kn kc x))
  have hb := three_below w (.cells (agR sa qa sc qc d) RDT) (.cells (opA ba bn bc ka kn kc x) OPT) (.cells zeroR RDT)
  have HB : Hid (Fr L w _) := fr_new hb
  have HD := Lib.hid (h.later hb)
  have HM := Lib.hid (hm.later hb)
  have HK := Lib.hid hk
  have HB0 := Lib.hid (h0.trans (hb.mono h0.size))
  have HOp := Lib.hid hop
  have HSm := Lib.hid hsm
  have HDd := Lib.hid h
  have H0 := Lib.hid h0
  clear h0 h hm hb hk hop hsm
  show Calls Try.prog 13 #[.pointer (some ⟨L.bd, 0, none⟩), .agg #[.slice sa d.n sc, .slice qa d.Q.length qc, .int .i64 d.steps, .int .i64 (lfD d)], .agg #[.int .i64 x.k, .int .i64 x.n, .int .i64 x.s, .slice ba bn bc, .bool x.raw, .slice ka kn kc]] w (PlayO w0.heap.size L w (crashD d x.keep x.n x.s))
  go_enter Try.func13, Try.ntmps13
  go_upto_region 2 with (fail)
  obtain ⟨w2, hw2⟩ : ∃ w2, ((w.alloc (.cells (agR sa qa sc qc d) RDT)).alloc (.cells (opA ba bn bc ka kn kc x) OPT)).alloc (.cells zeroR RDT) = w2 := ⟨_, rfl⟩
  rw [hw2] at HPS HB HD HM HB0
  have hw3 : ((w.alloc (.cells #[.slice sa d.n sc, .slice qa d.Q.length qc, .int .i64 d.steps, .int .i64 (lfD d)] RDT)).alloc (.cells #[.int .i64 x.k, .int .i64 x.n, .int .i64 x.s, .slice ba bn bc, .bool x.raw, .slice ka kn kc] OPT)).alloc (.cells #[.slice none 0 0, .slice none 0 0, .int .i64 0, .int .i64 0] RDT) = w2 := hw2
  simp only [hw3]
  clear hw2 hw3
  have o0 := HPS.out.o.cell 0
  simp [opA] at o0
  rw [HK.out] at o0
  go_upto_region 24 with (fail)
  clear o0
  have HB20 : Hid (w.heap.size ≤ w2.heap.size) := HB.out.size
  have KP : Hid (∀ W, Below w2.heap.size w2 W → W.cell? ⟨w.heap.size + 1, 1, none⟩ = some (.int .i64 x.n) ∧ W.cell? ⟨w.heap.size + 1, 2, none⟩ = some (.int .i64 x.s) ∧ W.cell? ⟨w.heap.size + 1, 5, none⟩ = some (.slice ka kn kc)) := fun W hb =>
    ⟨by simpa [opA] using (HPS.out.later hb).o.cell 1, by simpa [opA] using (HPS.out.later hb).o.cell 2, by simpa [opA] using (HPS.out.later hb).o.cell 5⟩
  obtain ⟨hkn, hkb, hknone, hkr⟩ := HOp.out.keep
  have HKn := Lib.hid hkn
  have HKb := Lib.hid hkb
  have HKx := Lib.hid hknone
  clear hkn hkb hknone
  have hal : Below w2.heap.size w2 (w2.drew.alloc (.cells #[] 4)) := ((Below.refl _ _).drew).alloc (Nat.le_refl _) _
  have HAl := Lib.hid hal
  clear hal
  have HLen : Hid ((cellsL x.keep).length = kn * 1) := by show (cellsL x.keep).length = kn * 1; rw [HKn.out]; simp [cellsL]
  go_region_held3 (fun W => W.cell? ⟨w.heap.size + 1, 1, none⟩ = some (.int .i64 x.n) ∧ W.cell? ⟨w.heap.size + 1, 2, none⟩ = some (.int .i64 x.s) ∧ W.cell? ⟨w.heap.size + 1, 5, none⟩ = some (.slice ka kn kc)) ((first | exact KP.out _ ((Below.refl _ _).drew) | exact KP.out _ HAl.out | exact HKS.out | exact HKS3.out | fail)) ((first
    | (refine step_copy_in (by rfl) (.tmp 92) (.tmp 94) 37 (by rfl) w2.heap.size 4 (.bool false) 1 1 Try.underlying37 info_bool rfl (by decide) (.slice (some ⟨w2.heap.size, 0, none⟩) 0 0) (by simp [go_sem]) (own_empty w2.drew w2.heap.size 4 1 (Nat.le_refl _)) ka kn kc (cellsL x.keep) (by simp [go_sem]) HLen.out (bools_add (HKb.out.below (HB0.out.trans (HAl.out.mono HB0.out.size)))) (cellsL_one _) HKx.out (by omega) (by omega) (by simp) ?_; intro a5 c5 w3 hown hgrow; have HB3 : Hid (Below w2.heap.size w2 w3) := HAl.out.grown hgrow HAl.out.size (fun q hq => by simp [Value.ownBlock] at hq; omega); have HK3 := Lib.hid (bools_own hown); have HKS := Lib.hid (KP.out _ HB3.out); clear hown hgrow)
    | (go_at_call 18; (with_reducible refine (crash_any (HD.out.later HB3.out) _ x.keep _ _ HKn.out (by omega) HK3.out x.n x.s).mono ?_); rintro e w4 ⟨Lc, rfl, hDc, hb4⟩; have HB4 : Hid (Below w2.heap.size w2 w4) := HB3.out.trans (hb4.mono HB3.out.size); have HDc := Lib.hid (hDc.deeper HB3.out.size); have HKS3 := Lib.hid (KP.out _ HB4.out); clear hDc hb4)))
  rename_i hHeld
  clear hHeld HKS HKS3 KP HAl HLen HK3 HB3
  have HD4 := Lib.hid (HD.out.later HB4.out)
  have HM4 := Lib.hid (HM.out.later HB4.out)
  have HPS4 := Lib.hid (HPS.out.later HB4.out)
  have HB4w : Hid (Fr L w w4) := HB.out.later HB4.out
  have HLo : Hid (∀ i, L.has i → i < w2.heap.size) := fun i hi => (HD.out.has_lt hi).2
  have HHi : Hid (∀ i, Lc.has i → w2.heap.size ≤ i) := fun i hi => (HDc.out.has_lt hi).1
  clear HB4 HPS HD HM
  have y0 := HPS4.out.m.cell 0
  have y1 := HPS4.out.m.cell 1
  have y2 := HPS4.out.m.cell 2
  have y3 := HPS4.out.m.cell 3
  simp [agR] at y0 y1 y2 y3
  go_wp2_with fail
  refine (tells_any sa qa sc qc HD4.out HM4.out).mono ?_
  rintro e w5 ⟨rfl, hb5⟩
  have HD5 := Lib.hid (HD4.out.later hb5)
  have HM5 := Lib.hid (HM4.out.later hb5)
  have HPS5 := Lib.hid (HPS4.out.later hb5)
  have HDc5 := Lib.hid (HDc.out.later hb5)
  have HB5 : Hid (Fr L w w5) := HB4w.out.later hb5
  clear hb5 HD4 HM4 HPS4 HDc HB4w y0 y1 y2 y3
  go_wp2_with fail
  refine (bytes_any _ 1 1 [77] _ rfl (by decide) (bytes_one w5 77 (by decide))).mono ?_
  rintro e w6 ⟨g6, rfl, hk6, hg6, hb6⟩
  have hs6 : Below w5.heap.size w5 w6 := ((Below.refl _ _).alloc (Nat.le_refl _) _).trans (hb6.mono (by simp))
  have HD6 := Lib.hid (HD5.out.later hs6)
  have HM6 := Lib.hid (HM5.out.later hs6)
  have HPS6 := Lib.hid (HPS5.out.later hs6)
  have HDc6 := Lib.hid (HDc5.out.later hs6)
  have HB6 : Hid (Fr L w w6) := HB5.out.later hs6
  have HK6 := Lib.hid hk6
  clear hk6 hg6 hb6 hs6 HD5 HM5 HPS5 HDc5 HB5
  go_wp2_with fail
  refine (write_any (d := d) 0 (some ⟨g6, 0, none⟩) 64 64 (byt [77]) (byt_length _).symm (by decide) HSm.out.pos (by have := HSm.out.st; omega) (by have := HSm.out.ql; omega) (fun _ => ⟨g6, rfl, HK6.out.s⟩) HD6.out).mono ?_
  intro e w7 hO
  obtain ⟨rfl, qv, hD7, hO7, hq7⟩ := hO
  have HSm7 := Lib.hid (sm_write HSm.out 0 (byt [77]))
  obtain ⟨d7, hd7⟩ : ∃ d7, (writeD d 0 (byt [77])).1 = d7 := ⟨_, rfl⟩
  rw [hd7] at hD7 HSm7
  have HD7 := Lib.hid hD7
  have HM7 := Lib.hid (HM6.out.disk HD6.out hO7)
  have HPS7 := Lib.hid (HPS6.out.disk HD6.out hO7)
  have HDc7 := Lib.hid (HDc6.out.beside hO7 (fun i hi hL => by have := HLo.out i hL; have := HHi.out i hi; omega))
  have HAp : Hid (∀ i, Lc.has i → ¬ Dl.has { L with qv := qv } i) := fun i hi hL => by
    have h1 := HHi.out i hi
    have h2 := (HDc6.out.has_lt hi).2
    rcases hL with e | e | e | e
    · have := HLo.out i (.inl e); omega
    · have := HLo.out i (.inr (.inl e)); omega
    · have := HLo.out i (.inr (.inr (.inl e))); omega
    · rcases hq7 i e with q | q
      · have := HLo.out i (.inr (.inr (.inr q))); omega
      · omega
  have HB7 : Hid (Fr L w w7) := HB6.out.disk hO7
  have HQ7 : Hid (∀ i, i < w.heap.size → Dl.has { L with qv := qv } i → L.has i) := fun i hi hL => by
    have hsz := HB6.out.size
    rcases hL with e | e | e | e
    · exact .inl e
    · exact .inr (.inl e)
    · exact .inr (.inr (.inl e))
    · rcases hq7 i e with q | q
      · exact .inr (.inr (.inr q))
      · omega
  clear hD7 hO7 hq7 hd7 HD6 HM6 HPS6 HDc6 HB6 HK6 HLo HHi
  go_wp2_with fail
  refine (barr_any HSm7.out.pos (by have := HSm7.out.st; omega) HD7.out).mono ?_
  intro e w8 hO
  obtain ⟨rfl, qv8, _, hO8, _⟩ := hO
  have HM8 := Lib.hid (HM7.out.disk HD7.out hO8)
  have HPS8 := Lib.hid (HPS7.out.disk HD7.out hO8)
  have HDc8 := Lib.hid (HDc7.out.beside hO8 HAp.out)
  have HB8 : Hid (Fr L w w8) := Out.trans HB7.out hO8 HQ7.out
  clear hO8 HM7 HPS7 HDc7 HB7 HAp HSm7 HQ7
  have y0 := HPS8.out.m.cell 0
  have y1 := HPS8.out.m.cell 1
  have y2 := HPS8.out.m.cell 2
  have y3 := HPS8.out.m.cell 3
  have o1 := HPS8.out.o.cell 1
  have o2 := HPS8.out.o.cell 2
  have o5 := HPS8.out.o.cell 5
  simp [agR, opA] at y0 y1 y2 y3 o1 o2 o5
  go_wp2_with fail
  refine (mcrash_any ka kn kc x.keep x.n x.s HDd.out HM8.out (by have := HSm.out.ql; omega) HKn.out (by omega) (HKb.out.below (H0.out.trans (HB8.out.below HDd.out HC.out)))).mono ?_
  rintro e w9 ⟨sa', qa', sc', qc', rfl, hM9, hB9⟩
  unfold agR
  have HPS9 := Lib.hid (HPS8.out.later hB9)
  have HD9 := Lib.hid ((HDc8.out.later hB9).deeper (Nat.le_trans HC.out HB20.out))
  have HM9 := Lib.hid hM9
  have HB9 : Hid (Fr L w w9) := HB8.out.later hB9
  clear hM9 hB9 HPS8 HDc8 HM8 HB8 y0 y1 y2 y3 o1 o2 o5 HDd
  generalize crashD d x.keep x.n x.s = d' at *
  have y0 := HPS9.out.m.cell 0
  have y1 := HPS9.out.m.cell 1
  have y2 := HPS9.out.m.cell 2
  have y3 := HPS9.out.m.cell 3
  have f0 := HPS9.out.m.frozen 0
  have f1 := HPS9.out.m.frozen 1
  have f2 := HPS9.out.m.frozen 2
  have f3 := HPS9.out.m.frozen 3
  simp [agR] at y0 y1 y2 y3
  go_upto_region 30 with (fail)
  have HF := Lib.hid (ps4_put HPS9.out rfl HD9.out HM9.out)
  have HB10 : Hid (Fr L w (SetR w9 w.heap.size sa' qa' sc' qc' d')) := HB9.out.put (put4_out _ _ _ _ _ _) (Nat.le_refl _)
  obtain ⟨w10, hw5⟩ : ∃ w10, SetR w9 w.heap.size sa' qa' sc' qc' d' = w10 := ⟨_, rfl⟩
  rw [hw5] at HF HB10
  have hw6 : ((((w9.setCell ⟨w.heap.size, 0, none⟩ (.slice sa' d'.n sc')).setCell ⟨w.heap.size, 1, none⟩ (.slice qa' d'.Q.length qc')).setCell ⟨w.heap.size, 2, none⟩ (.int .i64 d'.steps)).setCell ⟨w.heap.size, 3, none⟩ (.int .i64 (lfD d'))) = w10 := hw5
  simp only [hw6]
  clear hw5 hw6 HPS9 HD9 HM9 HB9 y0 y1 y2 y3 f0 f1 f2 f3
  have y0 := HF.out.ps.m.cell 0
  have y1 := HF.out.ps.m.cell 1
  have y2 := HF.out.ps.m.cell 2
  have y3 := HF.out.ps.m.cell 3
  have z0 := HF.out.ps.z.cell 0
  have z1 := HF.out.ps.z.cell 1
  have z2 := HF.out.ps.z.cell 2
  have z3 := HF.out.ps.z.cell 3
  have f0 := HF.out.ps.z.frozen 0
  have f1 := HF.out.ps.z.frozen 1
  have f2 := HF.out.ps.z.frozen 2
  have f3 := HF.out.ps.z.frozen 3
  simp [agR, zeroR] at y0 y1 y2 y3 z0 z1 z2 z3
  have HFin := Lib.hid (ps4_fin HF.out HB10.out)
  go_region
  all_goals
    clear y0 y1 y2 y3 f0 f1 f2 f3
    go_wp2
    refine bodyPost_ret (v := .tuple #[.pointer (some ⟨Lc.bd, 0, none⟩), .agg #[.slice sa' d'.n sc', .slice qa' d'.Q.length qc', .int .i64 d'.steps, .int .i64 (lfD d')], .bool true]) ?_ rfl HFin.out
    simp [results, Try.results13, go_sem, z0, z1, z2, z3]
end Go.Proofs.Ytefphnmabbfbjaa
