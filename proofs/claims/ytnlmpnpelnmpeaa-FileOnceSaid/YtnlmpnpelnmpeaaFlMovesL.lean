/-
  The walk of FileMoves.
-/
import Derived.Test.YtnlmpnpelnmpeaaFlMovesM
import Derived.Deep.CutBlock
import Derived.Deep.DeepCutAuto
namespace Go.Proofs.Ytnlmpnpelnmpeaa
open Go.RowKit Go.Maps

theorem cut4095 (x : Int) : ∃ k : Nat, k < 4095 ∧ wrap64 ((IntKind.u64.wrap x).tmod 4095) = (k : Int) := by
  have h0 : 0 ≤ IntKind.u64.wrap x := by simp [IntKind.wrap, IntKind.signed, IntKind.bits]; omega
  have h1 := Int.tmod_nonneg 4095 h0
  have h2 := Int.tmod_lt_of_pos (IntKind.u64.wrap x) (show (0 : Int) < 4095 by decide)
  refine ⟨((IntKind.u64.wrap x).tmod 4095).toNat, by omega, ?_⟩
  unfold wrap64
  omega
def MvS (w : World) (M b len : Nat) (t : Value) (wr : World) : Prop :=
  ∃ (j : Nat) (d : Nat → Int) (ad : Int → Int), j ≤ len ∧ j ≤ 30 ∧ t = .int .i64 j ∧ FX w.heap.size M b (3 * j) d ad wr ∧ Below w.heap.size w wr
/-- What is known of the new places behind the first ones. -/
structure NwK (P : List (Int × Int)) (v : Int → Option Int) (ks : List Int) (j : Nat) : Prop where
  val : ∀ p ∈ P.take j, v p.1 = some p.2
  mem : ∀ x, x ∈ ks ↔ ∃ p ∈ P.take j, p.1 = x
  len : ks.length = j
theorem NwK.zero (P : List (Int × Int)) : NwK P (fun _ => none) [] 0 := ⟨fun p h => by simp at h, fun x => by simp, rfl⟩
theorem NwK.next {P : List (Int × Int)} {v : Int → Option Int} {ks : List Int} {j : Nat} (h : NwK P v ks j) (hn : (P.map (·.1)).Nodup) (hj : j < P.length) : NwK P (updO v P[j].1 (some P[j].2)) (addK ks P[j].1) (j + 1) := by
  have hnew : ∀ p ∈ P.take j, p.1 ≠ P[j].1 := fun p hp e => by
    obtain ⟨i, hi, e2⟩ := List.mem_take_iff_getElem.1 hp
    have hil : i < P.length := by omega
    have e3 : (P.map (·.1))[i]'(by simpa using hil) = (P.map (·.1))[j]'(by simpa using hj) := by
      rw [List.getElem_map, List.getElem_map, e2]; exact e
    have := (List.getElem_inj hn).1 e3
    omega
  have hk : P[j].1 ∉ ks := fun e => by
    obtain ⟨p, hp, e2⟩ := (h.mem _).1 e
    exact hnew p hp e2
  have hT : P.take (j + 1) = P.take j ++ [P[j]] := List.take_succ_eq_append_getElem hj
  refine ⟨fun p hp => ?_, fun x => ?_, ?_⟩
  · rw [hT] at hp
    rcases List.mem_append.1 hp with h1 | h1
    · rw [updO_ne _ _ (hnew p h1)]; exact h.val p h1
    · have : p = P[j] := by simpa using h1
      subst this; rw [updO_at]
  · rw [addK_mem, h.mem, hT]
    constructor
    · rintro (⟨p, hp, e⟩ | e)
      · exact ⟨p, List.mem_append_left _ hp, e⟩
      · exact ⟨P[j], List.mem_append_right _ (List.mem_singleton.2 rfl), e.symm⟩
    · rintro ⟨p, hp, e⟩
      rcases List.mem_append.1 hp with h1 | h1
      · exact .inl ⟨p, h1, e⟩
      · have : p = P[j] := by simpa using h1
        subst this; exact .inr e.symm
  · unfold addK; rw [if_neg hk, List.length_append, h.len]; rfl
def MvN (w : World) (M b g n : Nat) (d : Nat → Int) (ad : Int → Int) (P W : List (Int × Int)) (q r : Nat) (vp vw : Value) (t : Value) (wr : World) : Prop :=
  ∃ (j : Nat) (v : Int → Option Int) (ks : List Int), j ≤ q ∧ t = .int .i64 j ∧ FX w.heap.size M b n d ad wr ∧ IM wr g j v ks ∧ NwK P v ks j ∧ wr.ownsRow w.heap.size LT 2 vp q (cellsP P) ∧ wr.ownsRow w.heap.size LT 2 vw r (cellsP W) ∧ Below w.heap.size w wr
def MvW (w : World) (g q : Nat) (v : Int → Option Int) (ks : List Int) (W : List (Int × Int)) (r : Nat) (vw : Value) (t : Value) (wr : World) : Prop :=
  ∃ j : Nat, j ≤ r ∧ t = .int .i64 j ∧ IM wr g q v ks ∧ wr.ownsRow w.heap.size LT 2 vw r (cellsP W) ∧ Below w.heap.size w wr
theorem own_map {w w' : World} {base m size : Nat} {e : TypeId} {u : Value} {xs : List Value} {g n : Nat} {v : Int → Option Int} {ks : List Int} (h : w.ownsRow base e size u m xs) (hm : IM w g n v ks) (hg : w.grownBy w' (some g)) : w'.ownsRow base e size u m xs := by
  refine h.kept hg ?_
  rcases h.2 with ⟨rfl, _⟩ | ⟨k, cap, cur, rfl, _, hk, _⟩
  · exact .inl rfl
  · exact .inr (fun e => hm.blo (show Blo w k _ cur from hk) (Option.some.inj e).symm)
set_option maxRecDepth 100000 in
set_option maxHeartbeats 4000000 in
theorem fileMoves_walk (a : Option Addr) (len cap : Nat) (L : List Int) (x y : Int) (w : World) (hp : IntsIn w a len cap L) (_ : (Lit.int .i64 x).wf = true) (_ : (Lit.int .i64 y).wf = true) :
    Calls Try.prog 7 #[.slice a len cap, .int .i64 x, .int .i64 y] w fun e w' => e = .returned (.bool true) ∧ Below w.heap.size w w' := by
  obtain ⟨k0, hk0, eA⟩ := cut600 x
  obtain ⟨v0, hv0, eB⟩ := cut4095 y
  have HEA := Lib.hid eA
  have HEB := Lib.hid eB
  have HP := Lib.hid hp
  have HLn := Lib.hid hp.leq
  clear hp eA eB
  have hmm := @run_makeMap Try.prog
  go_enter Try.func7, Try.ntmps7
  go_wp2_with fail
  refine (new_any w).mono ?_
  rintro e w1 ⟨rfl, hf1, hb1⟩
  have HF1 := Lib.hid hf1
  have HB1 := Lib.hid hb1
  have hz1 := hb1.size
  clear hf1 hb1
  go_wp2_with fail
  refine (awake_any w1).mono ?_
  rintro e w2 ⟨rfl, hb2⟩
  have HF2 := Lib.hid (HF1.out.later hb2)
  have HB2 := Lib.hid (HB1.out.trans (hb2.mono HB1.out.size))
  clear hb2 HF1 HB1
  have HS3 : Hid (MvS w (w.heap.size + 1) w.heap.size len (.int .i64 0) w2) := ⟨0, _, _, Nat.zero_le _, by omega, rfl, HF2.out, HB2.out⟩
  clear HF2 HB2
  generalize hM : w.heap.size + 1 = M at *
  clear hM
  go_upto_block 0 with fail
  go_cut [] (fun wx => ∃ (n : Nat) (d : Nat → Int) (ad : Int → Int), n ≤ 100 ∧ FX w.heap.size M w.heap.size n d ad wx ∧ Below w.heap.size w wx)
  case first =>
    go_wp2_with fail
    go_loopw [8] (fun t wr => MvS w M w.heap.size len t wr) (fun t _ => 30 - (intOf t).toNat)
    case atStart => exact HS3.out
    case round =>
      clear HS3
      obtain ⟨j, d, ad, hjl, hj40, rfl, hf, hb⟩ := hrel
      have HF := Lib.hid hf
      have HB := Lib.hid hb
      clear hf hb
      by_cases hlt : j < len ∧ j < 30
      · obtain ⟨hl1, hl2⟩ := hlt
        have hne : L ≠ [] := fun e => by have := HLn.out; rw [e] at this; simp at this; omega
        obtain ⟨ba, oa, rfl, hcs⟩ := HP.out.ints hne
        have cJ := cell_later HB.out (hcs j (by have := HLn.out; omega))
        obtain ⟨k, hk, ek⟩ := cut600 (L.getD j 0)
        generalize L.getD j 0 = z at *
        have HK := Lib.hid ek
        clear hcs hne ek
        have hi1 : (j : Int) < (len : Int) := by omega
        have hi2 : (j : Int) < 30 := by omega
        go_wp2_with fail
        rw [HK.out]
        refine (set_data k hk ((j : Int) + 1) (by omega) (by omega) HF.out (by omega)).mono ?_
        rintro e w4 ⟨u, m, rfl, -, -, hf4, hs4⟩
        have HF4 := Lib.hid hf4
        have HB4 := Lib.hid (HB.out.trans hs4.be)
        clear hf4 hs4 HF HB HK cJ
        go_wp2_with fail
        go_roundw
        case rel => exact ⟨j + 1, _, _, hl1, hl2, by simp, HF4.out, HB4.out⟩
        case measure => simp [intOf]; omega
      · have hx : (¬ (j : Int) < (len : Int)) ∨ ((j : Int) < (len : Int) ∧ ¬ (j : Int) < 30) := by omega
        clear hlt
        rcases hx with i1 | ⟨i1, i2⟩
        all_goals
          go_wp2_with fail
          go_meet
          exact ⟨3 * j, d, ad, by omega, HF.out, HB.out⟩
  case rest =>
    obtain ⟨n, d, ad, hn, hf, hb⟩ := hcut
    have HF := Lib.hid hf
    have HB := Lib.hid hb
    clear hf hb HS3
    have HAz := Lib.hid HF.out.az
    have hww : wrap64 ((v0 : Int) + 1) = (v0 : Int) + 1 := by unfold wrap64; omega
    have HWW := Lib.hid hww
    have hvne : (v0 : Int) + 1 ≠ 0 := by omega
    clear hww
    go_wp2_with fail
    refine (places_any HF.out).mono ?_
    rintro e w4 ⟨u4, r, rfl, hr, ho4, hb4⟩
    obtain ⟨a4, c4, rfl, -⟩ := own_slice ho4
    have hz4 := HB.out.size
    have HF4 := Lib.hid (HF.out.later hb4)
    have HO4 := Lib.hid (own_weak ho4 hz4)
    have HB4 := Lib.hid (HB.out.trans (hb4.mono HB.out.size))
    have HR := Lib.hid hr
    clear ho4 hb4 HF HB hr hz4
    go_wp2_with fail
    rw [HEA.out, HEB.out, HWW.out]
    clear HEA HEB HWW
    obtain ⟨vv, hvv⟩ : ∃ vv : Int, vv = (v0 : Int) + 1 := ⟨_, rfl⟩
    rw [← hvv] at hvne ⊢
    have hvb : 0 ≤ vv ∧ vv < 4096 := by omega
    clear hvv hv0
    refine (get_dx k0 hk0 HF4.out).mono ?_
    rintro e w5 ⟨rfl, rfl⟩
    go_wp2_with fail
    refine (set_data k0 hk0 vv hvb.1 hvb.2 HF4.out (by omega)).mono ?_
    rintro e w5 ⟨u5, m5, rfl, hm5, ho5, hf5, hs5⟩
    obtain ⟨a5, c5, rfl, -⟩ := own_slice ho5
    rw [mv_gone d ad k0 vv hvne] at hm5 ho5
    rw [mv_ad d ad k0 hk0 vv hvne HAz.out] at hf5
    have HF5 := Lib.hid hf5
    have HB5 := Lib.hid (HB4.out.trans hs5.be)
    have HW5 := Lib.hid (hs5.own HO4.out (by decide) (by decide))
    have HG5 := Lib.hid (own_weak ho5 (show w.heap.size ≤ w4.heap.size from HB4.out.size))
    have HM5 := Lib.hid hm5
    have HLe := Lib.hid (mv_len d ad k0 hk0 vv hvne HAz.out)
    have HMe := Lib.hid (fun p hp hne => mv_mem d ad k0 hk0 vv hvne p hp hne)
    have HPb := Lib.hid (plc_bd HF4.out)
    have hgd := get_dx k0 hk0 HF5.out
    rw [updN_at] at hgd
    have HGd := Lib.hid hgd
    have HWk := Lib.hid (wfI (k0 : Int) (by omega) (by omega))
    have hhd := has_x (k0 : Int) HWk.out HF5.out
    rw [hasM_data _ _ _ hk0, updN_at, decide_eq_true hvne] at hhd
    have HHd := Lib.hid hhd
    have hdk := (by obtain ⟨f, hh⟩ := HF4.out; exact hh.dB k0 : 0 ≤ d k0 ∧ d k0 < 4096)
    clear ho5 hf5 hs5 hm5 HO4 HF4 HB4 hgd hhd
    have hq1 : (vv != vv) = false := by simp
    generalize d k0 = dk at *
    go_wp2_with fail
    refine HGd.out.mono ?_
    rintro e w6 ⟨rfl, rfl⟩
    go_wp2_with fail
    refine HHd.out.mono ?_
    rintro e w6 ⟨rfl, rfl⟩
    clear HGd HHd
    have h3 : dk = 0 ∨ (dk ≠ 0 ∧ dk = vv) ∨ (dk ≠ 0 ∧ dk ≠ vv) := by omega
    rcases h3 with rfl | ⟨h31, rfl⟩ | ⟨h31, h32⟩
    · -- CASES
      have hgn : goneM (0 : Int) vv = [] := by simp [goneM]
      rw [hgn] at HM5 HG5
      obtain rfl : m5 = 0 := HM5.out
      have HEnd : Hid ((plcL (updN d k0 vv) ad).length = (plcL d ad).length + 1) := HLe.out
      clear hgn HM5 HG5 HLe
      go_upto_region 16 with fail
      have him := IM.made w5
      have hl6 := sup_pc w5 (.map #[] 0)
      have HF6 := Lib.hid (HF5.out.later hl6)
      have HB6 := Lib.hid (HB5.out.trans (hl6.mono HB5.out.size))
      have HW6 := Lib.hid (own_later HW5.out hl6)
      have HI6 := Lib.hid him
      have hgb : w5.heap.size ≠ w.heap.size := by have := (by obtain ⟨f, hh⟩ := HF5.out; exact hh.mp.lt : w.heap.size < w5.heap.size); omega
      have hgw : w.heap.size ≤ w5.heap.size := HB5.out.size
      have HFs := Lib.hid (plc_fst (updN d k0 vv) ad)
      have HPb2 := Lib.hid (plc_bd HF5.out)
      clear him hl6 HF5 HB5 HW5
      go_wp2_with fail
      clear hmm
      generalize w5.alloc (.map #[] 0) = w6 at *
      generalize w5.heap.size = g at *
      refine (places_any HF6.out).mono ?_
      rintro e w7 ⟨u7, q, rfl, hq, ho7, hb7⟩
      obtain ⟨a7, c7, rfl, -⟩ := own_slice ho7
      have HF7 := Lib.hid (HF6.out.later hb7)
      have HI7 := Lib.hid (HI6.out.later hb7)
      have HW7 := Lib.hid (own_later HW6.out hb7)
      have HO7 := Lib.hid (own_weak ho7 (show w.heap.size ≤ w6.heap.size from HB6.out.size))
      have HB7 := Lib.hid (HB6.out.trans (hb7.mono HB6.out.size))
      have HQ := Lib.hid hq
      have hr642 : r ≤ 1000000 ∧ q ≤ 1000000 := by
        have h1 := HR.out
        have h2 := plc_len d ad
        have h3 := plc_len (updN d k0 vv) ad
        omega
      clear ho7 hb7 HF6 HI6 HW6 HB6 hq
      generalize plcL (updN d k0 vv) ad = P at *
      generalize plcL d ad = W at *
      go_wp2_with fail
      go_loopw [114] (fun t wr => MvN w M w.heap.size g (n + 3) (updN d k0 vv) ad P W q r (.slice a7 q c7) (.slice a4 r c4) t wr) (fun t _ => q - (intOf t).toNat)
      case atStart => exact ⟨0, _, _, Nat.zero_le _, rfl, HF7.out, HI7.out, NwK.zero P, HO7.out, HW7.out, HB7.out⟩
      case round =>
        clear HF7 HI7 HO7 HW7 HB7
        obtain ⟨j, v, ks, hj, rfl, hf, hm, hk, hp, hw, hb⟩ := hrel
        have HF := Lib.hid hf
        have HM := Lib.hid hm
        have HK := Lib.hid hk
        have HP := Lib.hid hp
        have HW := Lib.hid hw
        have HB := Lib.hid hb
        clear hf hm hk hp hw hb
        by_cases hlt : j < q
        · obtain ⟨g1, rfl, -, -, -, -⟩ := own_some HP.out (by omega)
          have hjl : j < P.length := by rw [← HQ.out]; exact hlt
          obtain ⟨e1, e2⟩ := cellsP_get P j hjl
          have cA : wr.cell? ⟨g1, j * 2, none⟩ = some (.int .i64 P[j].1) := by rw [HP.out.cellAt (j * 2) (by omega), Nat.mul_comm]; exact e1
          have cB : wr.cell? ⟨g1, j * 2 + 1, none⟩ = some (.int .i64 P[j].2) := by rw [HP.out.cellAt (j * 2 + 1) (by omega), Nat.mul_comm]; exact e2
          have hbd := HPb2.out P[j] (List.getElem_mem hjl)
          have HNx := Lib.hid (HK.out.next HFs.out hjl)
          clear e1 e2
          have HW1 := Lib.hid (wfI P[j].1 (by omega) (by omega))
          have HW2 := Lib.hid (wfI P[j].2 (by omega) (by omega))
          clear hbd
          generalize P[j].1 = x1 at *
          generalize P[j].2 = x2 at *
          clear hjl
          have hl8 := sup_pc wr (.cells #[.int .i64 x1, .int .i64 x2] LT)
          have HM8 := Lib.hid (HM.out.later hl8)
          have HF8 := Lib.hid (HF.out.later hl8)
          have HP8 := Lib.hid (own_later HP.out hl8)
          have HW8 := Lib.hid (own_later HW.out hl8)
          have HB8 := Lib.hid (HB.out.trans (hl8.mono HB.out.size))
          have hj9 : j < 1000000 := by omega
          clear hl8 HM HF HP HW HB HK
          go_wp2_with (at_mapUpdate; refine wp_imap_put _ rfl _ _ _ rfl g j v ks rfl HM8.out hj9 x1 rfl HW1.out x2 rfl HW2.out ?_; intro w9 hm9 hg9; have HM9 := Lib.hid hm9; have HG9 := Lib.hid hg9; clear hm9 hg9)
          have HF9 := Lib.hid (HF8.out.map HM8.out hgb HG9.out)
          have HP9 := Lib.hid (own_map HP8.out HM8.out HG9.out)
          have HW9 := Lib.hid (own_map HW8.out HM8.out HG9.out)
          have HB9 := Lib.hid (HB8.out.grown HG9.out HB8.out.size (fun z e => by cases e; exact hgw))
          go_roundw
          case rel => exact ⟨j + 1, _, _, hlt, by simp, HF9.out, HM9.out, HNx.out, HP9.out, HW9.out, HB9.out⟩
          case measure => simp [intOf]; omega
        · obtain rfl : j = q := by omega
          clear HP HF HPb2 HFs
          go_wp2_with fail
          go_loopw [126] (fun t wr => MvW w g j v ks W r (.slice a4 r c4) t wr) (fun t _ => r - (intOf t).toNat)
          case atStart => exact ⟨0, Nat.zero_le _, rfl, HM.out, HW.out, HB.out⟩
          case round =>
            clear HM HW HB
            rename World => wq
            obtain ⟨i, hi, rfl, hm, hw, hb⟩ := hrel
            have HM := Lib.hid hm
            have HW := Lib.hid hw
            have HB := Lib.hid hb
            clear hm hw hb
            by_cases hlt2 : i < r
            · obtain ⟨g1, rfl, -, -, -, -⟩ := own_some HW.out (by omega)
              have hil : i < W.length := by rw [← HR.out]; exact hlt2
              obtain ⟨e1, e2⟩ := cellsP_get W i hil
              have cA : wq.cell? ⟨g1, i * 2, none⟩ = some (.int .i64 W[i].1) := by rw [HW.out.cellAt (i * 2) (by omega), Nat.mul_comm]; exact e1
              have cB : wq.cell? ⟨g1, i * 2 + 1, none⟩ = some (.int .i64 W[i].2) := by rw [HW.out.cellAt (i * 2 + 1) (by omega), Nat.mul_comm]; exact e2
              have hbd := HPb.out W[i] (List.getElem_mem hil)
              have HIn : Hid (W[i].1 ≠ (k0 : Int) → (v W[i].1).getD 0 = W[i].2) := fun hne => by
                have h1 := HMe.out W[i] (List.getElem_mem hil) hne
                have h2 := HK.out.val W[i] (by rw [HQ.out, List.take_length]; exact h1)
                rw [h2]; rfl
              have HW1 := Lib.hid (wfI W[i].1 (by omega) (by omega))
              clear e1 e2 hbd
              generalize W[i].1 = x1 at *
              generalize W[i].2 = x2 at *
              clear hil
              have hl8 := sup_pc wq (.cells #[.int .i64 x1, .int .i64 x2] LT)
              have HM8 := Lib.hid (HM.out.later hl8)
              have HW8 := Lib.hid (own_later HW.out hl8)
              have HB8 := Lib.hid (HB.out.trans (hl8.mono HB.out.size))
              clear hl8 HM HW HB
              by_cases hx : x1 = (k0 : Int)
              · have q5 : (x1 != (k0 : Int)) = false := by simp [hx]
                clear HIn hx
                go_wp2_with fail
                go_roundw
                case rel => exact ⟨i + 1, hlt2, by simp, HM8.out, HW8.out, HB8.out⟩
                case measure => simp [intOf]; omega
              · have q5 : (x1 != (k0 : Int)) = true := by simpa using hx
                have q6 : (x2 != x2) = false := by simp
                have HC := Lib.hid (HIn.out hx)
                clear HIn hx
                go_wp2_with (at_lookup; refine wp_imap_get_g _ (by rfl) _ _ rfl g j v ks rfl HM8.out x1 rfl HW1.out x2 HC.out ?_)
                go_roundw
                case rel => exact ⟨i + 1, hlt2, by simp, HM8.out, HW8.out, HB8.out⟩
                case measure => simp [intOf]; omega
            · obtain rfl : i = r := by omega
              have hke : (ks.length : Int) = (j : Int) := by rw [HK.out.len]
              have hEq := HEnd.out
              rw [← HQ.out, ← HR.out] at hEq
              have HKe := Lib.hid hke
              have HEq := Lib.hid hEq
              clear hke hEq HK
              go_wp2_with (first | (at_len; refine wp_imap_len _ rfl _ rfl g j v ks rfl HM.out ?_) | (at_len; refine wp_imap_len_g _ (by rfl) _ rfl g j v ks rfl HM.out ?_))
              all_goals
                go_ret
                have h1 := HKe.out
                have h2 := HEq.out
                exact ⟨by first | rfl | (simp; omega), HB.out⟩

    · have hgn : goneM dk dk = [] := by simp [goneM]
      rw [hgn] at HM5 HG5
      obtain rfl : m5 = 0 := HM5.out
      have HEnd : Hid ((plcL (updN d k0 dk) ad).length = (plcL d ad).length + 0) := by
        have := HLe.out
        rw [if_neg h31] at this
        exact this
      have q1 : (dk != 0) = true := by simpa using h31
      have q2 : (dk == 0) = false := by simpa using h31
      have q3 : (dk == dk) = true := by simp
      obtain ⟨vv, hvv⟩ : ∃ vv, vv = dk := ⟨_, rfl⟩
      rw [← hvv] at HEnd HF5 HMe
      clear hgn HM5 HG5 HLe
      go_upto_region 16 with fail
      have him := IM.made w5
      have hl6 := sup_pc w5 (.map #[] 0)
      have HF6 := Lib.hid (HF5.out.later hl6)
      have HB6 := Lib.hid (HB5.out.trans (hl6.mono HB5.out.size))
      have HW6 := Lib.hid (own_later HW5.out hl6)
      have HI6 := Lib.hid him
      have hgb : w5.heap.size ≠ w.heap.size := by have := (by obtain ⟨f, hh⟩ := HF5.out; exact hh.mp.lt : w.heap.size < w5.heap.size); omega
      have hgw : w.heap.size ≤ w5.heap.size := HB5.out.size
      have HFs := Lib.hid (plc_fst (updN d k0 vv) ad)
      have HPb2 := Lib.hid (plc_bd HF5.out)
      clear him hl6 HF5 HB5 HW5
      go_wp2_with fail
      clear hmm
      generalize w5.alloc (.map #[] 0) = w6 at *
      generalize w5.heap.size = g at *
      refine (places_any HF6.out).mono ?_
      rintro e w7 ⟨u7, q, rfl, hq, ho7, hb7⟩
      obtain ⟨a7, c7, rfl, -⟩ := own_slice ho7
      have HF7 := Lib.hid (HF6.out.later hb7)
      have HI7 := Lib.hid (HI6.out.later hb7)
      have HW7 := Lib.hid (own_later HW6.out hb7)
      have HO7 := Lib.hid (own_weak ho7 (show w.heap.size ≤ w6.heap.size from HB6.out.size))
      have HB7 := Lib.hid (HB6.out.trans (hb7.mono HB6.out.size))
      have HQ := Lib.hid hq
      have hr642 : r ≤ 1000000 ∧ q ≤ 1000000 := by
        have h1 := HR.out
        have h2 := plc_len d ad
        have h3 := plc_len (updN d k0 vv) ad
        omega
      clear ho7 hb7 HF6 HI6 HW6 HB6 hq
      generalize plcL (updN d k0 vv) ad = P at *
      generalize plcL d ad = W at *
      go_wp2_with fail
      go_loopw [114] (fun t wr => MvN w M w.heap.size g (n + 3) (updN d k0 vv) ad P W q r (.slice a7 q c7) (.slice a4 r c4) t wr) (fun t _ => q - (intOf t).toNat)
      case atStart => exact ⟨0, _, _, Nat.zero_le _, rfl, HF7.out, HI7.out, NwK.zero P, HO7.out, HW7.out, HB7.out⟩
      case round =>
        clear HF7 HI7 HO7 HW7 HB7
        obtain ⟨j, v, ks, hj, rfl, hf, hm, hk, hp, hw, hb⟩ := hrel
        have HF := Lib.hid hf
        have HM := Lib.hid hm
        have HK := Lib.hid hk
        have HP := Lib.hid hp
        have HW := Lib.hid hw
        have HB := Lib.hid hb
        clear hf hm hk hp hw hb
        by_cases hlt : j < q
        · obtain ⟨g1, rfl, -, -, -, -⟩ := own_some HP.out (by omega)
          have hjl : j < P.length := by rw [← HQ.out]; exact hlt
          obtain ⟨e1, e2⟩ := cellsP_get P j hjl
          have cA : wr.cell? ⟨g1, j * 2, none⟩ = some (.int .i64 P[j].1) := by rw [HP.out.cellAt (j * 2) (by omega), Nat.mul_comm]; exact e1
          have cB : wr.cell? ⟨g1, j * 2 + 1, none⟩ = some (.int .i64 P[j].2) := by rw [HP.out.cellAt (j * 2 + 1) (by omega), Nat.mul_comm]; exact e2
          have hbd := HPb2.out P[j] (List.getElem_mem hjl)
          have HNx := Lib.hid (HK.out.next HFs.out hjl)
          clear e1 e2
          have HW1 := Lib.hid (wfI P[j].1 (by omega) (by omega))
          have HW2 := Lib.hid (wfI P[j].2 (by omega) (by omega))
          clear hbd
          generalize P[j].1 = x1 at *
          generalize P[j].2 = x2 at *
          clear hjl
          have hl8 := sup_pc wr (.cells #[.int .i64 x1, .int .i64 x2] LT)
          have HM8 := Lib.hid (HM.out.later hl8)
          have HF8 := Lib.hid (HF.out.later hl8)
          have HP8 := Lib.hid (own_later HP.out hl8)
          have HW8 := Lib.hid (own_later HW.out hl8)
          have HB8 := Lib.hid (HB.out.trans (hl8.mono HB.out.size))
          have hj9 : j < 1000000 := by omega
          clear hl8 HM HF HP HW HB HK
          go_wp2_with (at_mapUpdate; refine wp_imap_put _ rfl _ _ _ rfl g j v ks rfl HM8.out hj9 x1 rfl HW1.out x2 rfl HW2.out ?_; intro w9 hm9 hg9; have HM9 := Lib.hid hm9; have HG9 := Lib.hid hg9; clear hm9 hg9)
          have HF9 := Lib.hid (HF8.out.map HM8.out hgb HG9.out)
          have HP9 := Lib.hid (own_map HP8.out HM8.out HG9.out)
          have HW9 := Lib.hid (own_map HW8.out HM8.out HG9.out)
          have HB9 := Lib.hid (HB8.out.grown HG9.out HB8.out.size (fun z e => by cases e; exact hgw))
          go_roundw
          case rel => exact ⟨j + 1, _, _, hlt, by simp, HF9.out, HM9.out, HNx.out, HP9.out, HW9.out, HB9.out⟩
          case measure => simp [intOf]; omega
        · obtain rfl : j = q := by omega
          clear HP HF HPb2 HFs
          go_wp2_with fail
          go_loopw [126] (fun t wr => MvW w g j v ks W r (.slice a4 r c4) t wr) (fun t _ => r - (intOf t).toNat)
          case atStart => exact ⟨0, Nat.zero_le _, rfl, HM.out, HW.out, HB.out⟩
          case round =>
            clear HM HW HB
            rename World => wq
            obtain ⟨i, hi, rfl, hm, hw, hb⟩ := hrel
            have HM := Lib.hid hm
            have HW := Lib.hid hw
            have HB := Lib.hid hb
            clear hm hw hb
            by_cases hlt2 : i < r
            · obtain ⟨g1, rfl, -, -, -, -⟩ := own_some HW.out (by omega)
              have hil : i < W.length := by rw [← HR.out]; exact hlt2
              obtain ⟨e1, e2⟩ := cellsP_get W i hil
              have cA : wq.cell? ⟨g1, i * 2, none⟩ = some (.int .i64 W[i].1) := by rw [HW.out.cellAt (i * 2) (by omega), Nat.mul_comm]; exact e1
              have cB : wq.cell? ⟨g1, i * 2 + 1, none⟩ = some (.int .i64 W[i].2) := by rw [HW.out.cellAt (i * 2 + 1) (by omega), Nat.mul_comm]; exact e2
              have hbd := HPb.out W[i] (List.getElem_mem hil)
              have HIn : Hid (W[i].1 ≠ (k0 : Int) → (v W[i].1).getD 0 = W[i].2) := fun hne => by
                have h1 := HMe.out W[i] (List.getElem_mem hil) hne
                have h2 := HK.out.val W[i] (by rw [HQ.out, List.take_length]; exact h1)
                rw [h2]; rfl
              have HW1 := Lib.hid (wfI W[i].1 (by omega) (by omega))
              clear e1 e2 hbd
              generalize W[i].1 = x1 at *
              generalize W[i].2 = x2 at *
              clear hil
              have hl8 := sup_pc wq (.cells #[.int .i64 x1, .int .i64 x2] LT)
              have HM8 := Lib.hid (HM.out.later hl8)
              have HW8 := Lib.hid (own_later HW.out hl8)
              have HB8 := Lib.hid (HB.out.trans (hl8.mono HB.out.size))
              clear hl8 HM HW HB
              by_cases hx : x1 = (k0 : Int)
              · have q5 : (x1 != (k0 : Int)) = false := by simp [hx]
                clear HIn hx
                go_wp2_with fail
                go_roundw
                case rel => exact ⟨i + 1, hlt2, by simp, HM8.out, HW8.out, HB8.out⟩
                case measure => simp [intOf]; omega
              · have q5 : (x1 != (k0 : Int)) = true := by simpa using hx
                have q6 : (x2 != x2) = false := by simp
                have HC := Lib.hid (HIn.out hx)
                clear HIn hx
                go_wp2_with (at_lookup; refine wp_imap_get_g _ (by rfl) _ _ rfl g j v ks rfl HM8.out x1 rfl HW1.out x2 HC.out ?_)
                go_roundw
                case rel => exact ⟨i + 1, hlt2, by simp, HM8.out, HW8.out, HB8.out⟩
                case measure => simp [intOf]; omega
            · obtain rfl : i = r := by omega
              have hke : (ks.length : Int) = (j : Int) := by rw [HK.out.len]
              have hEq := HEnd.out
              rw [← HQ.out, ← HR.out] at hEq
              have HKe := Lib.hid hke
              have HEq := Lib.hid hEq
              clear hke hEq HK
              go_wp2_with (first | (at_len; refine wp_imap_len _ rfl _ rfl g j v ks rfl HM.out ?_) | (at_len; refine wp_imap_len_g _ (by rfl) _ rfl g j v ks rfl HM.out ?_))
              all_goals
                go_ret
                have h1 := HKe.out
                have h2 := HEq.out
                exact ⟨by first | rfl | (simp; omega), HB.out⟩

    · have hgn : goneM dk vv = [dk] := by unfold goneM; rw [if_neg (by omega)]
      rw [hgn] at HM5 HG5
      obtain rfl : m5 = 1 := HM5.out
      have HEnd : Hid ((plcL (updN d k0 vv) ad).length = (plcL d ad).length + 0) := by
        have := HLe.out
        rw [if_neg h31] at this
        exact this
      have q1 : (dk != 0) = true := by simpa using h31
      have q2 : (dk == 0) = false := by simpa using h31
      have q3 : (dk == vv) = false := by simpa using h32
      have q4 : (dk != vv) = true := by simpa using h32
      clear hgn HM5 HLe
      go_wp2_with fail
      have hl6 := sup_pc w5 (.cells #[.int .i64 dk] 3)
      refine (ints_same [dk] [dk] a5 _ 1 c5 1 _ rfl rfl (by decide) (Ints.own (own_later HG5.out hl6)) (Ints.laid w5 [dk] _ _ rfl)).mono ?_
      rintro e w5 ⟨rfl, hb6⟩
      have hb7 := hl6.trans (hb6.mono hl6.size)
      have HF6 := Lib.hid (HF5.out.later hb7)
      have HB6 := Lib.hid (HB5.out.trans (hb7.mono HB5.out.size))
      have HW6 := Lib.hid (own_later HW5.out hb7)
      rw [decide_eq_true rfl]
      clear hl6 hb6 hb7 HF5 HB5 HW5 HG5
      have HF5 := HF6
      have HB5 := HB6
      have HW5 := HW6
      clear HF6 HB6 HW6
      go_upto_region 16 with fail
      have him := IM.made w5
      have hl6 := sup_pc w5 (.map #[] 0)
      have HF6 := Lib.hid (HF5.out.later hl6)
      have HB6 := Lib.hid (HB5.out.trans (hl6.mono HB5.out.size))
      have HW6 := Lib.hid (own_later HW5.out hl6)
      have HI6 := Lib.hid him
      have hgb : w5.heap.size ≠ w.heap.size := by have := (by obtain ⟨f, hh⟩ := HF5.out; exact hh.mp.lt : w.heap.size < w5.heap.size); omega
      have hgw : w.heap.size ≤ w5.heap.size := HB5.out.size
      have HFs := Lib.hid (plc_fst (updN d k0 vv) ad)
      have HPb2 := Lib.hid (plc_bd HF5.out)
      clear him hl6 HF5 HB5 HW5
      go_wp2_with fail
      clear hmm
      generalize w5.alloc (.map #[] 0) = w6 at *
      generalize w5.heap.size = g at *
      refine (places_any HF6.out).mono ?_
      rintro e w7 ⟨u7, q, rfl, hq, ho7, hb7⟩
      obtain ⟨a7, c7, rfl, -⟩ := own_slice ho7
      have HF7 := Lib.hid (HF6.out.later hb7)
      have HI7 := Lib.hid (HI6.out.later hb7)
      have HW7 := Lib.hid (own_later HW6.out hb7)
      have HO7 := Lib.hid (own_weak ho7 (show w.heap.size ≤ w6.heap.size from HB6.out.size))
      have HB7 := Lib.hid (HB6.out.trans (hb7.mono HB6.out.size))
      have HQ := Lib.hid hq
      have hr642 : r ≤ 1000000 ∧ q ≤ 1000000 := by
        have h1 := HR.out
        have h2 := plc_len d ad
        have h3 := plc_len (updN d k0 vv) ad
        omega
      clear ho7 hb7 HF6 HI6 HW6 HB6 hq
      generalize plcL (updN d k0 vv) ad = P at *
      generalize plcL d ad = W at *
      go_wp2_with fail
      go_loopw [114] (fun t wr => MvN w M w.heap.size g (n + 3) (updN d k0 vv) ad P W q r (.slice a7 q c7) (.slice a4 r c4) t wr) (fun t _ => q - (intOf t).toNat)
      case atStart => exact ⟨0, _, _, Nat.zero_le _, rfl, HF7.out, HI7.out, NwK.zero P, HO7.out, HW7.out, HB7.out⟩
      case round =>
        clear HF7 HI7 HO7 HW7 HB7
        obtain ⟨j, v, ks, hj, rfl, hf, hm, hk, hp, hw, hb⟩ := hrel
        have HF := Lib.hid hf
        have HM := Lib.hid hm
        have HK := Lib.hid hk
        have HP := Lib.hid hp
        have HW := Lib.hid hw
        have HB := Lib.hid hb
        clear hf hm hk hp hw hb
        by_cases hlt : j < q
        · obtain ⟨g1, rfl, -, -, -, -⟩ := own_some HP.out (by omega)
          have hjl : j < P.length := by rw [← HQ.out]; exact hlt
          obtain ⟨e1, e2⟩ := cellsP_get P j hjl
          have cA : wr.cell? ⟨g1, j * 2, none⟩ = some (.int .i64 P[j].1) := by rw [HP.out.cellAt (j * 2) (by omega), Nat.mul_comm]; exact e1
          have cB : wr.cell? ⟨g1, j * 2 + 1, none⟩ = some (.int .i64 P[j].2) := by rw [HP.out.cellAt (j * 2 + 1) (by omega), Nat.mul_comm]; exact e2
          have hbd := HPb2.out P[j] (List.getElem_mem hjl)
          have HNx := Lib.hid (HK.out.next HFs.out hjl)
          clear e1 e2
          have HW1 := Lib.hid (wfI P[j].1 (by omega) (by omega))
          have HW2 := Lib.hid (wfI P[j].2 (by omega) (by omega))
          clear hbd
          generalize P[j].1 = x1 at *
          generalize P[j].2 = x2 at *
          clear hjl
          have hl8 := sup_pc wr (.cells #[.int .i64 x1, .int .i64 x2] LT)
          have HM8 := Lib.hid (HM.out.later hl8)
          have HF8 := Lib.hid (HF.out.later hl8)
          have HP8 := Lib.hid (own_later HP.out hl8)
          have HW8 := Lib.hid (own_later HW.out hl8)
          have HB8 := Lib.hid (HB.out.trans (hl8.mono HB.out.size))
          have hj9 : j < 1000000 := by omega
          clear hl8 HM HF HP HW HB HK
          go_wp2_with (at_mapUpdate; refine wp_imap_put _ rfl _ _ _ rfl g j v ks rfl HM8.out hj9 x1 rfl HW1.out x2 rfl HW2.out ?_; intro w9 hm9 hg9; have HM9 := Lib.hid hm9; have HG9 := Lib.hid hg9; clear hm9 hg9)
          have HF9 := Lib.hid (HF8.out.map HM8.out hgb HG9.out)
          have HP9 := Lib.hid (own_map HP8.out HM8.out HG9.out)
          have HW9 := Lib.hid (own_map HW8.out HM8.out HG9.out)
          have HB9 := Lib.hid (HB8.out.grown HG9.out HB8.out.size (fun z e => by cases e; exact hgw))
          go_roundw
          case rel => exact ⟨j + 1, _, _, hlt, by simp, HF9.out, HM9.out, HNx.out, HP9.out, HW9.out, HB9.out⟩
          case measure => simp [intOf]; omega
        · obtain rfl : j = q := by omega
          clear HP HF HPb2 HFs
          go_wp2_with fail
          go_loopw [126] (fun t wr => MvW w g j v ks W r (.slice a4 r c4) t wr) (fun t _ => r - (intOf t).toNat)
          case atStart => exact ⟨0, Nat.zero_le _, rfl, HM.out, HW.out, HB.out⟩
          case round =>
            clear HM HW HB
            rename World => wq
            obtain ⟨i, hi, rfl, hm, hw, hb⟩ := hrel
            have HM := Lib.hid hm
            have HW := Lib.hid hw
            have HB := Lib.hid hb
            clear hm hw hb
            by_cases hlt2 : i < r
            · obtain ⟨g1, rfl, -, -, -, -⟩ := own_some HW.out (by omega)
              have hil : i < W.length := by rw [← HR.out]; exact hlt2
              obtain ⟨e1, e2⟩ := cellsP_get W i hil
              have cA : wq.cell? ⟨g1, i * 2, none⟩ = some (.int .i64 W[i].1) := by rw [HW.out.cellAt (i * 2) (by omega), Nat.mul_comm]; exact e1
              have cB : wq.cell? ⟨g1, i * 2 + 1, none⟩ = some (.int .i64 W[i].2) := by rw [HW.out.cellAt (i * 2 + 1) (by omega), Nat.mul_comm]; exact e2
              have hbd := HPb.out W[i] (List.getElem_mem hil)
              have HIn : Hid (W[i].1 ≠ (k0 : Int) → (v W[i].1).getD 0 = W[i].2) := fun hne => by
                have h1 := HMe.out W[i] (List.getElem_mem hil) hne
                have h2 := HK.out.val W[i] (by rw [HQ.out, List.take_length]; exact h1)
                rw [h2]; rfl
              have HW1 := Lib.hid (wfI W[i].1 (by omega) (by omega))
              clear e1 e2 hbd
              generalize W[i].1 = x1 at *
              generalize W[i].2 = x2 at *
              clear hil
              have hl8 := sup_pc wq (.cells #[.int .i64 x1, .int .i64 x2] LT)
              have HM8 := Lib.hid (HM.out.later hl8)
              have HW8 := Lib.hid (own_later HW.out hl8)
              have HB8 := Lib.hid (HB.out.trans (hl8.mono HB.out.size))
              clear hl8 HM HW HB
              by_cases hx : x1 = (k0 : Int)
              · have q5 : (x1 != (k0 : Int)) = false := by simp [hx]
                clear HIn hx
                go_wp2_with fail
                go_roundw
                case rel => exact ⟨i + 1, hlt2, by simp, HM8.out, HW8.out, HB8.out⟩
                case measure => simp [intOf]; omega
              · have q5 : (x1 != (k0 : Int)) = true := by simpa using hx
                have q6 : (x2 != x2) = false := by simp
                have HC := Lib.hid (HIn.out hx)
                clear HIn hx
                go_wp2_with (at_lookup; refine wp_imap_get_g _ (by rfl) _ _ rfl g j v ks rfl HM8.out x1 rfl HW1.out x2 HC.out ?_)
                go_roundw
                case rel => exact ⟨i + 1, hlt2, by simp, HM8.out, HW8.out, HB8.out⟩
                case measure => simp [intOf]; omega
            · obtain rfl : i = r := by omega
              have hke : (ks.length : Int) = (j : Int) := by rw [HK.out.len]
              have hEq := HEnd.out
              rw [← HQ.out, ← HR.out] at hEq
              have HKe := Lib.hid hke
              have HEq := Lib.hid hEq
              clear hke hEq HK
              go_wp2_with (first | (at_len; refine wp_imap_len _ rfl _ rfl g j v ks rfl HM.out ?_) | (at_len; refine wp_imap_len_g _ (by rfl) _ rfl g j v ks rfl HM.out ?_))
              all_goals
                go_ret
                have h1 := HKe.out
                have h2 := HEq.out
                exact ⟨by first | rfl | (simp; omega), HB.out⟩

end Go.Proofs.Ytnlmpnpelnmpeaa
