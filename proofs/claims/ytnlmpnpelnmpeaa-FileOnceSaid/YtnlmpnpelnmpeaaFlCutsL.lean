/-
  The walk of FileCuts.
-/
import Derived.Test.YtnlmpnpelnmpeaaFlAwake
import Derived.Test.YtnlmpnpelnmpeaaFlPlaces
import Derived.Test.YtnlmpnpelnmpeaaIMap
import Derived.Test.YtnlmpnpelnmpeaaIntsIn
namespace Go.Proofs.Ytnlmpnpelnmpeaa
open Go.RowKit Go.Maps

theorem cut_n' (x : Int) (m : Nat) : ∃ k : Nat, k ≤ m ∧ wrap64 ((IntKind.u64.wrap x).tmod ((m : Int) + 1)) = (k : Int) ∨ True := ⟨0, .inr trivial⟩
theorem cut600 (x : Int) : ∃ k : Nat, k < 600 ∧ wrap64 ((IntKind.u64.wrap x).tmod 600) = (k : Int) := by
  have h0 : 0 ≤ IntKind.u64.wrap x := by simp [IntKind.wrap, IntKind.signed, IntKind.bits]; omega
  have h1 := Int.tmod_nonneg 600 h0
  have h2 := Int.tmod_lt_of_pos (IntKind.u64.wrap x) (show (0 : Int) < 600 by decide)
  refine ⟨((IntKind.u64.wrap x).tmod 600).toNat, by omega, ?_⟩
  unfold wrap64
  omega
theorem cut601 (x : Int) : ∃ k : Nat, k ≤ 600 ∧ wrap64 ((IntKind.u64.wrap x).tmod 601) = (k : Int) := by
  have h0 : 0 ≤ IntKind.u64.wrap x := by simp [IntKind.wrap, IntKind.signed, IntKind.bits]; omega
  have h1 := Int.tmod_nonneg 601 h0
  have h2 := Int.tmod_lt_of_pos (IntKind.u64.wrap x) (show (0 : Int) < 601 by decide)
  refine ⟨((IntKind.u64.wrap x).tmod 601).toNat, by omega, ?_⟩
  unfold wrap64
  omega
section
variable {B M b n : Nat} {d : Nat → Int} {ad : Int → Int} {w w' : World} {g m : Nat} {v : Int → Option Int} {ks : List Int}
/-- A map of integers may be written. -/
theorem FX.map (h : FX B M b n d ad w) (hm : IM w g m v ks) (hne : g ≠ b) (hg : w.grownBy w' (some g)) : FX B M b n d ad w' := by
  obtain ⟨f, h⟩ := h
  obtain ⟨c0, h3, h4⟩ := h.box
  exact ⟨f, ⟨c0, h3.grown hg (fun e => hm.blo h3 (Option.some.inj e).symm), h4⟩, h.mp.kept hg (fun e => hne (Option.some.inj e).symm), h.is, fun x k e => ⟨(h.mt x k e).1.grown hg (fun e2 => hm.blo (h.mt x k e).1 (Option.some.inj e2).symm), (h.mt x k e).2⟩, h.ap, h.lo, h.dB, h.aB, h.cB, h.az⟩
theorem IM.fs (h : IM w g m v ks) (hs : FS B b w w') (hne : g ≠ b) : IM w' g m v ks := by
  obtain ⟨es, c, hx⟩ := h.obj
  refine h.same (fun o ho => hs.st g o ho (fun e => ?_))
  rw [hx] at ho
  cases ho
  exact hne e
end
theorem Ints.belowB {w w' : World} {a : Option Addr} {l : List Int} (h : Ints w a l) {B : Nat} (hB : w.heap.size = B) (hb : Below B w w') : Ints w' a l := by subst hB; exact h.below hb
theorem get_dx {B M b n : Nat} {d : Nat → Int} {ad : Int → Int} {w : World} (k : Nat) (hk : k < 600) (h : FX B M b n d ad w) : Calls Try.prog 24 #[.pointer (some ⟨M, 0, none⟩), .int .i64 k] w fun e w' => e = .returned (.int .i64 (d k)) ∧ w = w' := by
  obtain ⟨f, h⟩ := h
  exact get_data k hk h
theorem get_x {B M b n : Nat} {d : Nat → Int} {ad : Int → Int} {w : World} (x : Int) (hw : (Lit.int .i64 x).wf = true) (h : FX B M b n d ad w) : Calls Try.prog 24 #[.pointer (some ⟨M, 0, none⟩), .int .i64 x] w fun e w' => e = .returned (.int .i64 (getM d ad x)) ∧ w = w' := by
  obtain ⟨f, h⟩ := h
  exact get_any x hw h
theorem has_x {B M b n : Nat} {d : Nat → Int} {ad : Int → Int} {w : World} (x : Int) (hw : (Lit.int .i64 x).wf = true) (h : FX B M b n d ad w) : Calls Try.prog 11 #[.pointer (some ⟨M, 0, none⟩), .int .i64 x] w fun e w' => e = .returned (.bool (hasM d ad (cov d) x)) ∧ w = w' := by
  obtain ⟨f, h⟩ := h
  exact has_any x hw h
/-- The state behind the first data: the map, what was wanted. -/
def CuS (w : World) (M b g : Nat) (len : Nat) (t : Value) (wr : World) : Prop :=
  ∃ (j : Nat) (d : Nat → Int) (ad : Int → Int) (v : Int → Option Int) (ks : List Int), j ≤ len ∧ j ≤ 40 ∧ t = .int .i64 j ∧ FX w.heap.size M b (3 * j) d ad wr ∧ IM wr g j v ks ∧ (∀ k : Nat, k < 600 → (v k).getD 0 = d k) ∧ Below w.heap.size w wr
def CuT (w5 : World) (t : Value) (wr : World) : Prop := ∃ j : Nat, j ≤ 600 ∧ t = .int .i64 j ∧ wr = w5
theorem cov_data (d : Nat → Int) (k : Nat) : cov d (k : Int) = 0 := by
  apply Classical.byContradiction
  intro h
  have := (cov_bd d k).1
  obtain ⟨n, h1, _, h3⟩ := (cov_pos d k).1 (by omega)
  have := ((way_f n h1).bd _ h3).2.1
  omega
theorem hasM_data (d : Nat → Int) (ad : Int → Int) (k : Nat) (h : k < 600) : hasM d ad (cov d) k = decide (d k ≠ 0) := by
  unfold hasM
  rw [cov_data, getM_data d ad k h]
  simp
theorem plc_nil (d : Nat → Int) (ad : Int → Int) (h : (plcL d ad).length = 0) : (metL d).length = 0 := by
  have h1 := List.eq_nil_of_length_eq_zero h
  unfold plcL at h1
  have h2 := (List.append_eq_nil_iff.1 h1).1
  have h3 : ∀ n, n < 600 → d n = 0 := fun n hn => by
    apply Classical.byContradiction
    intro hne
    have : ((n : Int), d n) ∈ datL d 600 := List.mem_flatMap.2 ⟨n, List.mem_range.2 hn, by rw [if_pos hne]; simp⟩
    rw [h2] at this
    cases this
  rw [List.length_eq_zero_iff, List.eq_nil_iff_forall_not_mem]
  intro x hx
  obtain ⟨n, h4, h5, _⟩ := (cov_pos d x).1 ((metL_mem d x).1 hx)
  exact h5 (h3 n h4)
set_option maxRecDepth 100000 in
set_option maxHeartbeats 4000000 in
theorem fileCuts_walk (a : Option Addr) (len cap : Nat) (L : List Int) (x : Int) (w : World) (hp : IntsIn w a len cap L) (_ : (Lit.int .i64 x).wf = true) :
    Calls Try.prog 8 #[.slice a len cap, .int .i64 x] w fun e w' => e = .returned (.bool true) ∧ Below w.heap.size w w' := by
  obtain ⟨fr, hfr, eF⟩ := cut601 x
  have HP := Lib.hid hp
  have HLn := Lib.hid hp.leq
  have HLm := Lib.hid hp.lenm
  clear hp
  have hmm := @run_makeMap Try.prog
  go_enter Try.func8, Try.ntmps8
  go_wp2_with fail
  refine (new_any w).mono ?_
  rintro e w1 ⟨rfl, hf1, hb1⟩
  have HF1 := Lib.hid hf1
  have HB1 := Lib.hid hb1
  have hz1 := hb1.size
  clear hf1 hb1
  go_wp2_with fail
  refine (awake_any w1).mono ?_
  rintro e w2 ⟨rfl, hb2⟩
  have HF2 := Lib.hid (HF1.out.later hb2)
  have HB2 := Lib.hid (HB1.out.trans (hb2.mono HB1.out.size))
  have hbl : w.heap.size < w2.heap.size := by obtain ⟨f, hh⟩ := HF2.out; exact hh.mp.lt
  clear hb2 HF1 HB1
  go_wp2_with fail
  rw [eF]
  clear eF
  have him := IM.made w2
  have hl3 := sup_pc w2 (.map #[] 0)
  have HS3 : Hid (CuS w (w.heap.size + 1) w.heap.size w2.heap.size len (.int .i64 0) (w2.alloc (.map #[] 0))) :=
    ⟨0, _, _, _, _, Nat.zero_le _, by omega, rfl, HF2.out.later hl3, him, fun _ _ => rfl, HB2.out.trans (hl3.mono HB2.out.size)⟩
  have hgb : w2.heap.size ≠ w.heap.size := by omega
  have hgw0 : w.heap.size ≤ w2.heap.size := by omega
  clear him hl3 HF2 HB2 hmm
  generalize w2.alloc (.map #[] 0) = w3 at *
  generalize w2.heap.size = g at *
  generalize hM : w.heap.size + 1 = M at *
  clear hM
  go_loopw [7] (fun t wr => CuS w M w.heap.size g len t wr) (fun t _ => 40 - (intOf t).toNat)
  case atStart => exact HS3.out
  case round =>
    clear HS3
    obtain ⟨j, d, ad, v, ks, hjl, hj40, rfl, hf, hm, hv, hb⟩ := hrel
    have HF := Lib.hid hf
    have HM := Lib.hid hm
    have HV := Lib.hid hv
    have HB := Lib.hid hb
    clear hf hm hv hb
    by_cases hlt : j < len ∧ j < 40
    · obtain ⟨hl1, hl2⟩ := hlt
      have hne : L ≠ [] := fun e => by have := HLn.out; rw [e] at this; simp at this; omega
      obtain ⟨ba, oa, rfl, hcs⟩ := HP.out.ints hne
      have cJ := cell_later HB.out (hcs j (by have := HLn.out; omega))
      obtain ⟨k, hk, ek⟩ := cut600 (L.getD j 0)
      generalize L.getD j 0 = z at *
      have HK := Lib.hid ek
      clear hcs hne ek
      have hi1 : (j : Int) < (len : Int) := by omega
      have hi2 : (j : Int) < 40 := by omega
      have HWk := Lib.hid (wfI (k : Int) (by omega) (by omega))
      have HWv := Lib.hid (wfI ((j : Int) + 1) (by omega) (by omega))
      go_wp2_with fail
      rw [HK.out]
      refine (set_data k hk ((j : Int) + 1) (by omega) (by omega) HF.out (by omega)).mono ?_
      rintro e w4 ⟨u, m, rfl, -, -, hf4, hs4⟩
      have HF4 := Lib.hid hf4
      have HM4 := Lib.hid (HM.out.fs hs4 hgb)
      have HB4 := Lib.hid (HB.out.trans hs4.be)
      have hgw : w.heap.size ≤ g := hgw0
      clear hf4 hs4 HF HM HB HK cJ
      go_wp2_with (at_mapUpdate; refine wp_imap_put _ rfl _ _ _ rfl g j v ks rfl HM4.out (by omega) (k : Int) rfl HWk.out ((j : Int) + 1) rfl HWv.out ?_; intro w5 hm5 hg5; have HM5 := Lib.hid hm5; have HG5 := Lib.hid hg5; clear hm5 hg5)
      have HF5 := Lib.hid (HF4.out.map HM4.out hgb HG5.out)
      have HB5 := Lib.hid (HB4.out.grown HG5.out HB4.out.size (fun y e => by cases e; exact hgw))
      have hv5 : ∀ i : Nat, i < 600 → ((updO v k (some ((j : Int) + 1))) i).getD 0 = updN d k ((j : Int) + 1) i := fun i hi => by
        by_cases e : i = k
        · subst e; rw [updO_at, updN_at]; rfl
        · rw [updO_ne _ _ (fun e2 => e (by omega)), updN_ne _ _ e]; exact HV.out i hi
      go_roundw
      case rel => exact ⟨j + 1, _, _, _, _, hl1, hl2, by simp, HF5.out, HM5.out, hv5, HB5.out⟩
      case measure => simp [intOf]; omega
    · have hx : (¬ (j : Int) < (len : Int)) ∨ ((j : Int) < (len : Int) ∧ ¬ (j : Int) < 40) := by omega
      clear hlt
      rcases hx with i1 | ⟨i1, i2⟩
      all_goals
        go_wp2_with fail
        refine (cut_any fr hfr HF.out (by omega)).mono ?_
        rintro e w4 ⟨u4, m4, rfl, -, -, hf4, hs4⟩
        have HF4 := Lib.hid hf4
        have HM4 := Lib.hid (HM.out.fs hs4 hgb)
        have HB4 := Lib.hid (HB.out.trans hs4.be)
        clear hf4 hs4 HF HM HB
        go_wp2_with fail
        go_loopw [11] (fun t wr => CuT w4 t wr) (fun t _ => 600 - (intOf t).toNat)
        case atStart => exact ⟨0, by omega, rfl, rfl⟩
        case round =>
          obtain ⟨i, hi, rfl, rfl⟩ := hrel
          by_cases hlt : i < 600
          · have hc := HV.out i hlt
            have HWi := Lib.hid (wfI (i : Int) (by omega) (by omega))
            have HG := Lib.hid (get_dx i hlt HF4.out)
            have hh := has_x (i : Int) HWi.out HF4.out
            rw [hasM_data _ _ _ hlt] at hh
            have HH := Lib.hid hh
            have hi6 : (i : Int) < 600 := by omega
            clear hh
            by_cases hfi : fr ≤ i
            · have hz : dC d fr 600 i = 0 := by unfold dC; rw [if_pos ⟨hfi, hlt⟩]
              rw [hz] at HG HH
              rw [show decide ((0 : Int) ≠ 0) = false by decide] at HH
              have hge : ¬ (i : Int) < (fr : Int) := by omega
              obtain ⟨c, hc2⟩ : ∃ c, (v i).getD 0 = c := ⟨_, rfl⟩
              have HC := Lib.hid hc2
              clear hz hc hc2
              go_wp2_with (at_lookup; refine wp_imap_get _ rfl _ _ rfl g j v ks rfl HM4.out (i : Int) rfl HWi.out c HC.out ?_)
              refine HG.out.mono ?_
              rintro e w5 ⟨rfl, rfl⟩
              go_wp2_with fail
              refine HH.out.mono ?_
              rintro e w5 ⟨rfl, rfl⟩
              go_wp2_with fail
              exact ⟨⟨i + 1, hlt, by simp, rfl⟩, by simp [intOf]; omega⟩
            · have hz : dC d fr 600 i = d i := by unfold dC; rw [if_neg (by omega)]
              rw [hz] at HG HH
              have hge : (i : Int) < (fr : Int) := by omega
              have HC := Lib.hid hc
              clear hz hc
              generalize d i = c at *
              by_cases hc0 : c = 0
              · subst hc0
                rw [show decide ((0 : Int) ≠ 0) = false by decide] at HH
                go_wp2_with (at_lookup; refine wp_imap_get _ rfl _ _ rfl g j v ks rfl HM4.out (i : Int) rfl HWi.out 0 HC.out ?_)
                refine HG.out.mono ?_
                rintro e w5 ⟨rfl, rfl⟩
                go_wp2_with fail
                refine HH.out.mono ?_
                rintro e w5 ⟨rfl, rfl⟩
                go_wp2_with fail
                exact ⟨⟨i + 1, hlt, by simp, rfl⟩, by simp [intOf]; omega⟩
              · rw [decide_eq_true hc0] at HH
                have q1 : (c != 0) = true := by simpa using hc0
                have q2 : (c != c) = false := by simp
                go_wp2_with (at_lookup; refine wp_imap_get _ rfl _ _ rfl g j v ks rfl HM4.out (i : Int) rfl HWi.out c HC.out ?_)
                refine HG.out.mono ?_
                rintro e w5 ⟨rfl, rfl⟩
                go_wp2_with fail
                refine HH.out.mono ?_
                rintro e w5 ⟨rfl, rfl⟩
                go_wp2_with fail
                exact ⟨⟨i + 1, hlt, by simp, rfl⟩, by simp [intOf]; omega⟩
          · obtain rfl : 600 = i := by omega
            go_wp2_with fail
            refine (cut_any fr hfr HF4.out (by omega)).mono ?_
            rintro e w5 ⟨u5, m5, rfl, hm5, ho5, hf5, hs5⟩
            have hcl : clL (dC d fr 600) (aC d ad fr 600) fr 600 = [] := clL_none _ _ _ (fun i h1 h2 => by unfold dC; rw [if_pos ⟨h1, h2⟩])
            rw [hcl, srt_nil] at hm5 ho5
            obtain ⟨a5, c5, rfl, -⟩ := own_slice ho5
            obtain rfl : m5 = 0 := hm5
            have HF5 := Lib.hid hf5
            have HB5 := Lib.hid (HB4.out.trans hs5.be)
            clear ho5 hf5 hs5 HF4 HB4 hcl
            go_wp2_with fail
            refine (places_any HF5.out).mono ?_
            rintro e w6 ⟨u6, m6, rfl, hm6, ho6, hb6⟩
            obtain ⟨a6, c6, rfl, -⟩ := own_slice ho6
            have HF6 := Lib.hid (HF5.out.later hb6)
            have HB6 := Lib.hid (HB5.out.trans (hb6.mono HB5.out.size))
            have HN6 := Lib.hid (fun (h : m6 = 0) => plc_nil _ _ (hm6.symm.trans h))
            clear ho6 hb6 HF5 HB5 hm6
            by_cases h6 : m6 = 0
            · subst h6
              go_wp2_with fail
              refine (metas_anyF HF6.out).mono ?_
              rintro e w7 ⟨u7, m7, rfl, hm7, ho7, hb7⟩
              rw [HN6.out (by first | exact trivial | rfl)] at hm7
              obtain ⟨a7, c7, rfl, -⟩ := own_slice ho7
              obtain rfl : m7 = 0 := hm7
              have HB7 := Lib.hid (HB6.out.trans (hb7.mono HB6.out.size))
              clear ho7 hb7
              go_wp2_with fail
              go_ret
              exact ⟨rfl, HB7.out⟩
            · have h60 : 0 < m6 := by omega
              have h61 : (0 : Int) < (m6 : Int) := by omega
              go_wp2_with fail
              go_ret
              exact ⟨rfl, HB6.out⟩
end Go.Proofs.Ytnlmpnpelnmpeaa
