/-
  The walk of FileNeeds.
-/
import Derived.Test.YtnlmpnpelnmpeaaFlCutsL
import Derived.Test.YtnlmpnpelnmpeaaFlFnFind
namespace Go.Proofs.Ytnlmpnpelnmpeaa
open Go.RowKit Go.Maps

theorem findD_any (k : Nat) (hk : k < 600) (w : World) : Calls Try.prog 25 #[.int .i64 k] w fun e w' => ∃ r am cm a2 n2 c2, e = .returned (.tuple #[.agg #[.int .i64 k, .int .i64 0, .int .i64 k, .int .i64 r, .slice am (way k).length cm, .slice a2 n2 c2], .bool true]) ∧ Ints w' am (way k) ∧ Below w.heap.size w w' := by
  obtain ⟨h1, h2, h3⟩ := data_isB k hk
  have h := find_any (k : Int) w (by omega) (by omega)
  unfold wantM at h
  rw [if_pos h1, h2, h3] at h
  refine h.mono ?_
  rintro e w' ⟨am, cm, a2, c2, rfl, hi, _, _, _, hb⟩
  exact ⟨_, am, cm, a2, _, c2, rfl, hi, hb⟩
theorem Ints.map {w w' : World} {a : Option Addr} {l : List Int} {g n : Nat} {v : Int → Option Int} {ks : List Int} (h : Ints w a l) (hm : IM w g n v ks) (hg : w.grownBy w' (some g)) : Ints w' a l := fun hl => by
  obtain ⟨b, o, ha, hc⟩ := h hl
  refine ⟨b, o, ha, fun i hi => hg.cell (hc i hi) (fun e => ?_)⟩
  obtain ⟨es, c, hx⟩ := hm.obj
  have e2 : b = g := by simpa using e
  subst e2
  have := hc i hi
  simp [World.cell?, hx] at this
/-- What is needed: these keys, each counted. -/
structure NeK (P : Int → Prop) (v : Int → Option Int) (ks : List Int) (q : Nat) : Prop where
  mem : ∀ x, x ∈ ks ↔ P x
  bd : ∀ x, 0 ≤ (v x).getD 0 ∧ (v x).getD 0 ≤ (q : Int)
  pos : ∀ x, x ∈ ks → 1 ≤ (v x).getD 0
theorem NeK.put {P : Int → Prop} {v : Int → Option Int} {ks : List Int} {q : Nat} (h : NeK P v ks q) (x c : Int) (hc : (v x).getD 0 = c) : NeK (fun y => P y ∨ y = x) (updO v x (some (c + 1))) (addK ks x) (q + 1) := by
  have hb := h.bd x
  rw [hc] at hb
  refine ⟨fun y => by rw [addK_mem, h.mem], fun y => ?_, fun y hy => ?_⟩
  · by_cases e : y = x
    · subst e; rw [updO_at]; simp; omega
    · rw [updO_ne _ _ e]; have := h.bd y; omega
  · by_cases e : y = x
    · subst e; rw [updO_at]; simp; omega
    · rw [updO_ne _ _ e]
      rcases (addK_mem ks x y).1 hy with h1 | h1
      · exact h.pos y h1
      · exact absurd h1 e
theorem NeK.iff {P Q : Int → Prop} {v : Int → Option Int} {ks : List Int} {q q' : Nat} (h : NeK P v ks q) (hi : ∀ x, P x ↔ Q x) (hq : q ≤ q') : NeK Q v ks q' :=
  ⟨fun x => (h.mem x).trans (hi x), fun x => by have := h.bd x; omega, h.pos⟩
def NeP (fr : Nat) (d : Nat → Int) (x : Int) : Prop := ∃ n, n < 600 ∧ n < fr ∧ d n ≠ 0 ∧ x ∈ way n
def NeS (w : World) (M b g fr len : Nat) (t : Value) (wr : World) : Prop :=
  ∃ (j : Nat) (d : Nat → Int) (ad : Int → Int) (v : Int → Option Int) (ks : List Int), j ≤ len ∧ j ≤ 40 ∧ t = .int .i64 j ∧ FX w.heap.size M b (3 * j) d ad wr ∧ IM wr g (3 * j) v ks ∧ NeK (NeP fr d) v ks (3 * j) ∧ Below w.heap.size w wr
def NeI (w : World) (M b g j : Nat) (d : Nat → Int) (ad : Int → Int) (ks0 ms : List Int) (q : Nat) (am : Option Addr) (t : Value) (wr : World) : Prop :=
  ∃ (i : Nat) (v : Int → Option Int) (ks : List Int), i ≤ q ∧ t = .int .i64 i ∧ FX w.heap.size M b (3 * j + 3) d ad wr ∧ IM wr g (3 * j + i) v ks ∧ NeK (fun x => x ∈ ks0 ∨ x ∈ ms.take i) v ks (3 * j + i) ∧ Ints wr am ms ∧ Below w.heap.size w wr
def NeT (w5 : World) (q : Nat) (t : Value) (wr : World) : Prop := ∃ j : Nat, j ≤ q ∧ t = .int .i64 j ∧ wr = w5
theorem neP_in (fr : Nat) (d : Nat → Int) (k : Nat) (hk : k < 600) (v : Int) (hv : v ≠ 0) (hf : k < fr) (x : Int) : NeP fr (updN d k v) x ↔ (NeP fr d x ∨ x ∈ way k) := by
  unfold NeP
  constructor
  · rintro ⟨n, h1, h2, h3, h4⟩
    by_cases e : n = k
    · subst e; exact .inr h4
    · rw [updN_ne _ _ e] at h3; exact .inl ⟨n, h1, h2, h3, h4⟩
  · rintro (⟨n, h1, h2, h3, h4⟩ | h)
    · by_cases e : n = k
      · subst e; exact ⟨n, h1, h2, by rw [updN_at]; exact hv, h4⟩
      · exact ⟨n, h1, h2, by rw [updN_ne _ _ e]; exact h3, h4⟩
    · exact ⟨k, hk, hf, by rw [updN_at]; exact hv, h⟩
theorem neP_out (fr : Nat) (d : Nat → Int) (k : Nat) (v : Int) (hf : ¬ k < fr) (x : Int) : NeP fr d x ↔ NeP fr (updN d k v) x := by
  unfold NeP
  constructor
  · rintro ⟨n, h1, h2, h3, h4⟩
    exact ⟨n, h1, h2, by rw [updN_ne _ _ (fun e => hf (by omega))]; exact h3, h4⟩
  · rintro ⟨n, h1, h2, h3, h4⟩
    rw [updN_ne _ _ (fun e => hf (by omega))] at h3
    exact ⟨n, h1, h2, h3, h4⟩
theorem neP_cut (fr : Nat) (d : Nat → Int) (x : Int) : x ∈ metL (dC d fr 600) ↔ NeP fr d x := by
  rw [metL_mem, cov_pos]
  unfold NeP dC
  constructor
  · rintro ⟨n, h1, h2, h3⟩
    by_cases e : fr ≤ n ∧ n < 600
    · rw [if_pos e] at h2; exact absurd rfl h2
    · rw [if_neg e] at h2; exact ⟨n, h1, by omega, h2, h3⟩
  · rintro ⟨n, h1, h2, h3, h4⟩
    exact ⟨n, h1, by rw [if_neg (by omega)]; exact h3, h4⟩
theorem len_same {l m : List Int} (hl : l.Nodup) (hm : m.Nodup) (h : ∀ x, x ∈ l ↔ x ∈ m) : l.length = m.length := ((List.perm_ext_iff_of_nodup hl hm).2 h).length_eq
theorem IM.nodup {w : World} {g n : Nat} {v : Int → Option Int} {ks : List Int} (h : IM w g n v ks) : ks.Nodup := by obtain ⟨D, _, _, h, _⟩ := h; exact h
theorem take_snoc' {l : List Int} {j : Nat} (hj : j < l.length) (x : Int) : x ∈ l.take (j + 1) ↔ (x ∈ l.take j ∨ x = l[j]) := by rw [List.take_succ_eq_append_getElem hj, List.mem_append, List.mem_singleton]
set_option maxRecDepth 100000 in
set_option maxHeartbeats 4000000 in
theorem fileNeeds_walk (a : Option Addr) (len cap : Nat) (L : List Int) (x : Int) (w : World) (hp : IntsIn w a len cap L) (_ : (Lit.int .i64 x).wf = true) :
    Calls Try.prog 6 #[.slice a len cap, .int .i64 x] w fun e w' => e = .returned (.bool true) ∧ Below w.heap.size w w' := by
  obtain ⟨fr, hfr, eF⟩ := cut601 x
  have HP := Lib.hid hp
  have HLn := Lib.hid hp.leq
  clear hp
  have hmm := @run_makeMap Try.prog
  go_enter Try.func6, Try.ntmps6
  go_wp2_with fail
  refine (new_any w).mono ?_
  rintro e w1 ⟨rfl, hf1, hb1⟩
  have HF1 := Lib.hid hf1
  have HB1 := Lib.hid hb1
  have hz1 := hb1.size
  clear hf1 hb1
  go_wp2_with fail
  refine (awake_any w1).mono ?_
  rintro e w2 ⟨rfl, hb2⟩
  have HF2 := Lib.hid (HF1.out.later hb2)
  have HB2 := Lib.hid (HB1.out.trans (hb2.mono HB1.out.size))
  have hbl : w.heap.size < w2.heap.size := by obtain ⟨f, hh⟩ := HF2.out; exact hh.mp.lt
  clear hb2 HF1 HB1
  go_wp2_with fail
  rw [eF]
  clear eF
  have him := IM.made w2
  have hl3 := sup_pc w2 (.map #[] 0)
  have HS3 : Hid (NeS w (w.heap.size + 1) w.heap.size w2.heap.size fr len (.int .i64 0) (w2.alloc (.map #[] 0))) :=
    ⟨0, _, _, _, _, Nat.zero_le _, by omega, rfl, HF2.out.later hl3, him, ⟨fun x => ⟨(fun h => by cases h), (fun ⟨n, _, _, h, _⟩ => absurd rfl h)⟩, (fun _ => ⟨by decide, by decide⟩), (fun _ h => by cases h)⟩, HB2.out.trans (hl3.mono HB2.out.size)⟩
  have hgb : w2.heap.size ≠ w.heap.size := by omega
  have hgw : w.heap.size ≤ w2.heap.size := by omega
  clear him hl3 HF2 HB2 hmm
  generalize w2.alloc (.map #[] 0) = w3 at *
  generalize w2.heap.size = g at *
  generalize hM : w.heap.size + 1 = M at *
  clear hM
  go_loopw [7] (fun t wr => NeS w M w.heap.size g fr len t wr) (fun t _ => 40 - (intOf t).toNat)
  case atStart => exact HS3.out
  case round =>
    clear HS3
    obtain ⟨j, d, ad, v, ks, hjl, hj40, rfl, hf, hm, hv, hb⟩ := hrel
    have HF := Lib.hid hf
    have HM := Lib.hid hm
    have HV := Lib.hid hv
    have HB := Lib.hid hb
    clear hf hm hv hb
    by_cases hlt : j < len ∧ j < 40
    · obtain ⟨hl1, hl2⟩ := hlt
      have hne : L ≠ [] := fun e => by have := HLn.out; rw [e] at this; simp at this; omega
      obtain ⟨ba, oa, rfl, hcs⟩ := HP.out.ints hne
      have cJ := cell_later HB.out (hcs j (by have := HLn.out; omega))
      obtain ⟨k, hk, ek⟩ := cut600 (L.getD j 0)
      generalize L.getD j 0 = z at *
      have HK := Lib.hid ek
      clear hcs hne ek
      have hi1 : (j : Int) < (len : Int) := by omega
      have hi2 : (j : Int) < 40 := by omega
      have hv0 : (j : Int) + 1 ≠ 0 := by omega
      go_wp2_with fail
      rw [HK.out]
      refine (set_data k hk ((j : Int) + 1) (by omega) (by omega) HF.out (by omega)).mono ?_
      rintro e w4 ⟨u, m, rfl, -, -, hf4, hs4⟩
      have HF4 := Lib.hid hf4
      have HM4 := Lib.hid (HM.out.fs hs4 hgb)
      have HB4 := Lib.hid (HB.out.trans hs4.be)
      clear hf4 hs4 HF HM HB HK cJ
      by_cases hkf : k < fr
      · have hkf2 : (k : Int) < (fr : Int) := by omega
        have HFi := Lib.hid (fun W => findD_any k hk W)
        have HNp := Lib.hid (fun x => neP_in fr d k hk ((j : Int) + 1) hv0 hkf x)
        have hW := way_f k hk
        have hl3 := hW.len
        have HBd := Lib.hid hW.bd
        generalize way k = ms at *
        clear hW
        obtain ⟨q, hq⟩ : ∃ q, q = ms.length := ⟨_, rfl⟩
        have HQ := Lib.hid hq
        go_wp2_with fail
        refine (HFi.out _).mono ?_
        rintro e w5 ⟨r, am, cm, a2, n2, c2, rfl, hi5, hb5⟩
        rw [← hq] at hl3 ⊢
        clear hq
        have HI5 := Lib.hid hi5
        have HF5 := Lib.hid (HF4.out.later hb5)
        have HM5 := Lib.hid (HM4.out.later hb5)
        have HB5 := Lib.hid (HB4.out.trans (hb5.mono HB4.out.size))
        clear hi5 hb5 HF4 HM4 HB4 HFi
        go_wp2_with fail
        have hl6 := sup_pc w5 (.cells #[.int .i64 (k : Int), .int .i64 0, .int .i64 (k : Int), .int .i64 r, .slice am q cm, .slice a2 n2 c2] 68)
        have HS6 : Hid (NeI w M w.heap.size g j (updN d k ((j : Int) + 1)) (sdA d ad k ((j : Int) + 1)) ks ms q am (.int .i64 0) (w5.alloc (.cells #[.int .i64 (k : Int), .int .i64 0, .int .i64 (k : Int), .int .i64 r, .slice am q cm, .slice a2 n2 c2] 68))) :=
          ⟨0, v, ks, Nat.zero_le _, rfl, HF5.out.later hl6, HM5.out.later hl6, HV.out.iff (fun x => by rw [List.take_zero, ← HV.out.mem x]; simp) (by omega), HI5.out.below hl6, HB5.out.trans (hl6.mono HB5.out.size)⟩
        have HKs := Lib.hid HV.out.mem
        clear hl6 HF5 HM5 HB5 HI5 HV
        generalize w5.alloc (.cells #[.int .i64 (k : Int), .int .i64 0, .int .i64 (k : Int), .int .i64 r, .slice am q cm, .slice a2 n2 c2] 68) = w6 at *
        go_loopw [71] (fun t wr => NeI w M w.heap.size g j (updN d k ((j : Int) + 1)) (sdA d ad k ((j : Int) + 1)) ks ms q am t wr) (fun t _ => q - (intOf t).toNat)
        case atStart => exact HS6.out
        case round =>
          clear HS6
          rename World => wq
          obtain ⟨i, v1, ks1, hiq, rfl, hf, hm, hv, hin, hb⟩ := hrel
          have HF := Lib.hid hf
          have HM := Lib.hid hm
          have HV := Lib.hid hv
          have HB := Lib.hid hb
          have HI := Lib.hid hin
          clear hf hm hv hb hin
          by_cases hiq2 : i < q
          · have hil : i < ms.length := by rw [← HQ.out]; exact hiq2
            obtain ⟨bm, om, rfl, hcs⟩ := HI.out (fun e => by rw [e] at hil; cases hil)
            have cI := hcs i hil
            rw [show ms.getD i 0 = ms[i] by simp [List.getD_eq_getElem?_getD, hil]] at cI
            have HTk := Lib.hid (fun x => take_snoc' hil x)
            have hbx := HBd.out ms[i] (List.getElem_mem hil)
            clear hcs
            generalize ms[i] = y at *
            clear hil
            have HWy := Lib.hid (wfI y (by omega) (by omega))
            obtain ⟨c, hc⟩ : ∃ c, (v1 y).getD 0 = c := ⟨_, rfl⟩
            have hcb := HV.out.bd y
            rw [hc] at hcb
            have HC := Lib.hid hc
            have HWc := Lib.hid (wfI (c + 1) (by omega) (by omega))
            clear hc hbx
            go_wp2_with (first
              | (at_lookup; refine wp_imap_get _ rfl _ _ rfl g (3 * j + i) v1 ks1 rfl HM.out y rfl HWy.out c HC.out ?_)
              | (at_mapUpdate; refine wp_imap_put _ rfl _ _ _ rfl g (3 * j + i) v1 ks1 rfl HM.out (by omega) y rfl HWy.out (c + 1) rfl HWc.out ?_; intro w7 hm7 hg7; have HM7 := Lib.hid hm7; have HG7 := Lib.hid hg7; clear hm7 hg7))
            have HF7 := Lib.hid (HF.out.map HM.out hgb HG7.out)
            have HI7 := Lib.hid (HI.out.map HM.out HG7.out)
            have HB7 := Lib.hid (HB.out.grown HG7.out HB.out.size (fun z e => by cases e; exact hgw))
            have HV7 := Lib.hid ((HV.out.put y c HC.out).iff (Q := fun x => x ∈ ks ∨ x ∈ ms.take (i + 1)) (q' := 3 * j + (i + 1)) (fun x => by rw [HTk.out x, or_assoc]) (by omega))
            go_roundw
            case rel => exact ⟨i + 1, _, _, hiq2, by simp, HF7.out, HM7.out, HV7.out, HI7.out, HB7.out⟩
            case measure => simp [intOf]; omega
          · obtain rfl : i = q := by omega
            have HV2 := Lib.hid (HV.out.iff (Q := NeP fr (updN d k ((j : Int) + 1))) (q' := 3 * (j + 1)) (fun x => by rw [HQ.out, List.take_length, HNp.out x, HKs.out x]) (by omega))
            obtain ⟨D, hD1, hD2⟩ := HM.out
            have HM2 : Hid (IM wq g (3 * (j + 1)) v1 ks1) := ⟨D, hD1.mono (by omega), hD2⟩
            have HF2 := Lib.hid (HF.out.mono (n' := 3 * (j + 1)) (by omega))
            clear hD1 hD2 HV HM HF HI
            go_wp2_with fail
            go_roundw
            case rel => exact ⟨j + 1, _, _, _, _, hl1, hl2, by simp, HF2.out, HM2.out, HV2.out, HB.out⟩
            case measure => simp [intOf]; omega
      · have hkf2 : ¬ (k : Int) < (fr : Int) := by omega
        have HV2 := Lib.hid (HV.out.iff (q' := 3 * (j + 1)) (fun x => neP_out fr d k ((j : Int) + 1) hkf x) (by omega))
        obtain ⟨D, hD1, hD2⟩ := HM4.out
        have HM2 : Hid (IM w4 g (3 * (j + 1)) v ks) := ⟨D, hD1.mono (by omega), hD2⟩
        have HF2 := Lib.hid (HF4.out.mono (n' := 3 * (j + 1)) (by omega))
        clear hD1 hD2 HV HM4 HF4
        go_wp2_with fail
        go_roundw
        case rel => exact ⟨j + 1, _, _, _, _, hl1, hl2, by simp, HF2.out, HM2.out, HV2.out, HB4.out⟩
        case measure => simp [intOf]; omega
    · have hx : (¬ (j : Int) < (len : Int)) ∨ ((j : Int) < (len : Int) ∧ ¬ (j : Int) < 40) := by omega
      clear hlt
      rcases hx with i1 | ⟨i1, i2⟩
      all_goals
        go_wp2_with fail
        refine (cut_any fr hfr HF.out (by omega)).mono ?_
        rintro e w4 ⟨u4, m4, rfl, -, -, hf4, hs4⟩
        have HF4 := Lib.hid hf4
        have HM4 := Lib.hid (HM.out.fs hs4 hgb)
        have HB4 := Lib.hid (HB.out.trans hs4.be)
        clear hf4 hs4 HF HM HB
        go_wp2_with fail
        refine (metas_anyF HF4.out).mono ?_
        rintro e w5 ⟨u5, m5, rfl, hm5, ho5, hb5⟩
        obtain ⟨a5, c5, rfl, -⟩ := own_slice ho5
        have HM5 := Lib.hid (HM4.out.later hb5)
        have HB5 := Lib.hid (HB4.out.trans (hb5.mono HB4.out.size))
        have HO5 := Lib.hid ho5
        have HNd := Lib.hid (metL_nodup (dC d fr 600))
        have HMe := Lib.hid (fun x => (neP_cut fr d x).trans (HV.out.mem x).symm)
        have HBx := Lib.hid (fun x (hx : x ∈ metL (dC d fr 600)) => metAll_f.2.2.1 x (List.mem_filter.1 hx).1)
        have HQ := Lib.hid hm5
        have hq42 : m5 ≤ 42 := by have := metL_len (dC d fr 600); omega
        clear ho5 hb5 HF4 HM4 HB4 hm5
        generalize metL (dC d fr 600) = ms at *
        have HLen : Hid ((m5 : Int) = (ks.length : Nat)) := by
          show _ = _
          rw [HQ.out, len_same HNd.out HM5.out.nodup HMe.out]
        go_wp2_with fail
        go_loopw [92] (fun t wr => NeT w5 m5 t wr) (fun t _ => m5 - (intOf t).toNat)
        case atStart => exact ⟨0, by omega, rfl, rfl⟩
        case round =>
          obtain ⟨i, hi, rfl, rfl⟩ := hrel
          by_cases hlt : i < m5
          · obtain ⟨g1, rfl, -, -, -, -⟩ := own_some HO5.out (by omega)
            have hil : i < ms.length := by rw [← HQ.out]; exact hlt
            have cJ : wr.cell? ⟨g1, i, none⟩ = some (.int .i64 ms[i]) := by
              rw [HO5.out.cellAt i (by omega), cellsI_get ms i hil]; simp [List.getD_eq_getElem?_getD, hil]
            have hbx := HBx.out ms[i] (List.getElem_mem hil)
            have hin := HV.out.pos ms[i] ((HMe.out ms[i]).1 (List.getElem_mem hil))
            generalize ms[i] = y at *
            clear hil
            have HWy := Lib.hid (wfI y (by omega) (by omega))
            obtain ⟨c, hc⟩ : ∃ c, (v y).getD 0 = c := ⟨_, rfl⟩
            rw [hc] at hin
            have HC := Lib.hid hc
            have hc0 : (c == 0) = false := by simp; omega
            clear hc hbx hin
            go_wp2_with (at_lookup; refine wp_imap_get _ rfl _ _ rfl g (3 * j) v ks rfl HM5.out y rfl HWy.out c HC.out ?_)
            exact ⟨⟨i + 1, hlt, by simp, rfl⟩, by simp [intOf]; omega⟩
          · obtain rfl : i = m5 := by omega
            go_wp2_with (at_len; refine wp_imap_len _ rfl _ rfl g (3 * j) v ks rfl HM5.out ?_)
            rw [← HLen.out]
            go_wp2_with fail
            go_ret
            exact ⟨by simp, HB5.out⟩
end Go.Proofs.Ytnlmpnpelnmpeaa
