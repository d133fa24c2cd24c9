/-
  The walk of GeomPlaces: of any block its segment and its place in it are the document's; and of any segment its first block.
-/
import Derived.Test.YtdfppilancimhaaGeomApart
namespace Go.Proofs.Ytdfppilancimhaa
open Go.RowKit

set_option maxHeartbeats 400000 in
theorem ref_any (b s i : Int) (w : World) :
    Calls Try.prog 8 #[.agg #[.int .i64 b, .int .i64 s, .int .i64 i]] w fun e w' => e = .returned (.agg #[.int .i64 b, .int .i64 s, .int .i64 i]) ∧ Below w.heap.size w w' := by
  go_enter Try.func8, Try.ntmps8
  go_wp2
  exact bodyPost_ret (v := .agg #[.int .i64 b, .int .i64 s, .int .i64 i]) (by simp [results, Try.results8, go_sem]) rfl ⟨rfl, ((Below.refl _ _).alloc (Nat.le_refl _) _).alloc (by simp) _⟩
/-- The numbers are within a geometry's bounds. -/
def InBounds (b s i : Int) : Prop := 64 ≤ b ∧ b ≤ 4096 ∧ 8 ≤ s ∧ s ≤ 64 ∧ 4 ≤ i ∧ i ≤ 200
theorem good_iff (b s i : Int) : Good b s i ↔ InBounds b s i ∧ 6 ≤ (b - 3) / s := by
  unfold Good InBounds
  constructor
  · intro ⟨h1, h2, h3, h4, h5, h6, h7⟩; exact ⟨⟨h1, h2, h3, h4, h5, h6⟩, h7⟩
  · intro ⟨⟨h1, h2, h3, h4, h5, h6⟩, h7⟩; exact ⟨h1, h2, h3, h4, h5, h6, h7⟩
theorem count_step (b s : Int) (n : Nat) (hs : 0 < s) : 3 + ((n : Int) + 1) * s ≤ b ↔ (n : Int) + 1 ≤ (b - 3) / s := by
  rw [Int.le_ediv_iff_mul_le hs]
  omega
set_option maxRecDepth 20000 in
set_option maxHeartbeats 600000 in
theorem refSegs_in (b s i : Int) (w : World) (h : InBounds b s i) :
    Calls Try.prog 7 #[.agg #[.int .i64 b, .int .i64 s, .int .i64 i]] w fun e w' => e = .returned (.int .i64 (nsegs b s i)) ∧ Below w.heap.size w w' := by
  have HI := Lib.hid h
  obtain ⟨h1, h2, h3, h4, h5, h6⟩ := h
  have hq := div_bd b s h1 h2 h3
  have HB := Lib.hid (sup_below w (.cells #[.int .i64 b, .int .i64 s, .int .i64 i] 26))
  have hN : ∀ q, q = (b - 3) / s → nsegs b s i = if q < 6 then 0 else q := by
    intro q hq
    by_cases hg : Good b s i
    · rw [nsegs_good hg, if_neg (by have := hg.2.2.2.2.2.2; omega), hq]
    · rw [nsegs_bad hg, if_pos]
      apply Int.not_le.1
      intro e
      exact hg ((good_iff b s i).2 ⟨HI.out, by omega⟩)
  have HN := Lib.hid (hN _ rfl)
  have hstep := fun n => count_step b s n (by omega)
  have HS := Lib.hid hstep
  obtain ⟨q, hqe⟩ : ∃ q, q = (b - 3) / s := ⟨_, rfl⟩
  rw [← hqe] at hq HN
  have HQ := Lib.hid hqe
  clear hN hstep hqe
  go_enter Try.func7, Try.ntmps7
  go_wp2_with fail
  go_loop [3] (fun t => ∃ n : Nat, t = .int .i64 n ∧ (n : Int) ≤ q) (fun t => 600 - (intOf t).toNat)
  case atStart => exact ⟨0, rfl, by omega⟩
  case round =>
    obtain ⟨n, rfl, hn⟩ := hrel
    have hm : 0 ≤ ((n : Int) + 1) * s ∧ ((n : Int) + 1) * s ≤ 600 * 64 := by
      refine ⟨Int.mul_nonneg (by omega) (by omega), ?_⟩
      exact Int.mul_le_mul (by omega) h4 (by omega) (by omega)
    have hst := HS.out n
    by_cases hlt : (n : Int) + 1 ≤ q
    · have hc : 3 + ((n : Int) + 1) * s ≤ b := hst.2 (by rw [← HQ.out]; exact hlt)
      clear hst
      go_wp2
      go_round
      case rel => exact ⟨n + 1, by go_num, by omega⟩
      case measure => simp [intOf]; omega
    · have hc : ¬ (3 + ((n : Int) + 1) * s ≤ b) := fun e => hlt (by have := hst.1 e; rw [← HQ.out] at this; exact this)
      have hnq : (n : Int) = q := by omega
      have hne : nsegs b s i = if (n : Int) < 6 then 0 else (n : Int) := by rw [hnq]; exact HN.out
      have HNE := Lib.hid hne
      clear hst hlt hnq hne
      by_cases h6n : (n : Int) < 6
      · have e0 : Hid (nsegs b s i = 0) := by have := HNE.out; rw [if_pos h6n] at this; exact this
        go_wp2
        go_ret
        exact ⟨by rw [e0.out]; rfl, HB.out⟩
      · have e0 : Hid (nsegs b s i = (n : Int)) := by have := HNE.out; rw [if_neg h6n] at this; exact this
        go_wp2
        go_ret
        exact ⟨by rw [e0.out]; rfl, HB.out⟩
set_option maxHeartbeats 600000 in
theorem refSegs_out (b s i : Int) (w : World) (h : ¬ InBounds b s i) :
    Calls Try.prog 7 #[.agg #[.int .i64 b, .int .i64 s, .int .i64 i]] w fun e w' => e = .returned (.int .i64 0) ∧ Below w.heap.size w w' := by
  have HB := Lib.hid (sup_below w (.cells #[.int .i64 b, .int .i64 s, .int .i64 i] 26))
  have key : b < 64 ∨ (64 ≤ b ∧ 4096 < b) ∨ (64 ≤ b ∧ b ≤ 4096 ∧ s < 8) ∨ (64 ≤ b ∧ b ≤ 4096 ∧ 8 ≤ s ∧ 64 < s) ∨ (64 ≤ b ∧ b ≤ 4096 ∧ 8 ≤ s ∧ s ≤ 64 ∧ i < 4) ∨ (64 ≤ b ∧ b ≤ 4096 ∧ 8 ≤ s ∧ s ≤ 64 ∧ 4 ≤ i ∧ 200 < i) := by
    unfold InBounds at h
    omega
  clear h
  rcases key with h1 | ⟨h1, h2⟩ | ⟨h1, h2, h3⟩ | ⟨h1, h2, h3, h4⟩ | ⟨h1, h2, h3, h4, h5⟩ | ⟨h1, h2, h3, h4, h5, h6⟩
  all_goals
    go_enter Try.func7, Try.ntmps7
    go_wp2
    go_ret
    exact ⟨rfl, HB.out⟩
theorem refSegs_any (b s i : Int) (w : World) :
    Calls Try.prog 7 #[.agg #[.int .i64 b, .int .i64 s, .int .i64 i]] w fun e w' => e = .returned (.int .i64 (nsegs b s i)) ∧ Below w.heap.size w w' := by
  by_cases h : InBounds b s i
  · exact refSegs_in b s i w h
  · have : nsegs b s i = 0 := nsegs_bad fun e => h ((good_iff b s i).1 e).1
    rw [this]
    exact refSegs_out b s i w h

theorem apart_of (s j k Q R : Int) (hs : 0 < s) (hk0 : 0 ≤ k) (hk : k < s) (hR0 : 0 ≤ R) (hR : R < s) (h : 3 + Q * s + R = 3 + j * s + k) : j = Q ∧ k = R := by
  obtain ⟨e1, e2⟩ := place_math s j k hs hk0 hk
  obtain ⟨f1, f2⟩ := place_math s Q R hs hR0 hR
  rw [h] at f1 f2
  omega
def OfRel (w : World) (b s i q : Int) (seg : Value) (wr : World) : Prop :=
  ∃ j : Nat, seg = .int .i64 j ∧ (j : Int) ≤ q ∧ Cells3 wr w.heap.size b s i ∧ Below w.heap.size w wr
set_option maxRecDepth 20000 in
set_option maxHeartbeats 1000000 in
theorem refOf_out (b s i addr : Int) (w : World) (h : ¬ InSeg b s i addr) :
    Calls Try.prog 10 #[.agg #[.int .i64 b, .int .i64 s, .int .i64 i], .int .i64 addr] w fun e w' => e = .returned (.tuple #[.int .i64 0, .int .i64 0, .int .i64 22]) ∧ Below w.heap.size w w' := by
  have HB := Lib.hid (sup_below w (.cells #[.int .i64 b, .int .i64 s, .int .i64 i] 26))
  have HC0 := Lib.hid (cells3_laid w b s i 26)
  have hn := nsegs_bd b s i
  have KS := Lib.hid fun W => refSegs_any b s i W
  have HNo : Hid (∀ j k : Int, Good b s i → 0 ≤ j → j < nsegs b s i → 0 ≤ k → k < s → addr ≠ 3 + j * s + k) := fun j k hG h1 h2 h3 h4 e => h (e ▸ place_in b s i j k hG h1 h2 h3 h4)
  clear h
  go_enter Try.func10, Try.ntmps10
  go_wp2_with fail
  go_loopw [7] (fun u wr => OfRel w b s i (nsegs b s i) u wr) (fun u _ => 512 - (intOf u).toNat)
  case atStart => exact ⟨0, rfl, by omega, HC0.out, HB.out⟩
  case round =>
    obtain ⟨j, rfl, hj, hcr, hbr⟩ := hrel
    have HCr := Lib.hid hcr
    have HBr := Lib.hid hbr
    obtain ⟨c0, c1, c2⟩ := hcr
    clear hbr
    go_wp2_with fail
    refine (KS.out _).mono ?_
    rintro e wa ⟨rfl, hba⟩
    have HCa := Lib.hid (HCr.out.later hba)
    have HBa : Hid (Below w.heap.size w wa) := HBr.out.trans (hba.mono HBr.out.size)
    clear hba c0 c1 c2
    obtain ⟨c0, c1, c2⟩ := HCa.out
    by_cases hjn : (j : Int) < nsegs b s i
    · have hG : Good b s i := by
        by_cases hg : Good b s i
        · exact hg
        · rw [nsegs_bad hg] at hjn; omega
      have HG := Lib.hid hG
      have hs8 := hG.2.2.1
      have hs64 := hG.2.2.2.1
      have hm := mul_bd (j : Int) s (by omega) (by omega) (by omega) hs64
      clear hG
      go_wp2_with fail
      go_loop [8] (fun u => ∃ k : Nat, u = .int .i64 k ∧ (k : Int) ≤ s) (fun u => 64 - (intOf u).toNat)
      case atStart => exact ⟨0, rfl, by omega⟩
      case round =>
        obtain ⟨k, rfl, hk⟩ := hrel
        by_cases hks : (k : Int) < s
        · have hne : (addr == 3 + (j : Int) * s + (k : Int)) = false := beq_false_of_ne (HNo.out j k HG.out (by omega) hjn (by omega) hks)
          go_wp2
          go_round
          case rel => exact ⟨k + 1, by go_num, by omega⟩
          case measure => simp [intOf]; omega
        · have hge : decide ((k : Int) < s) = false := by simpa using hks
          clear hks hk
          go_wp2_with fail
          go_roundw
          case rel => exact ⟨j + 1, by go_num, by omega, HCa.out, HBa.out⟩
          case measure => simp [intOf]; omega
    · go_wp2
      go_ret3
      exact ⟨rfl, HBa.out⟩
set_option maxRecDepth 20000 in
set_option maxHeartbeats 1000000 in
theorem refOf_in (b s i addr : Int) (w : World) (h : InSeg b s i addr) :
    Calls Try.prog 10 #[.agg #[.int .i64 b, .int .i64 s, .int .i64 i], .int .i64 addr] w fun e w' => e = .returned (.tuple #[.int .i64 ((addr - 3) / s), .int .i64 ((addr - 3) % s), .int .i64 0]) ∧ Below w.heap.size w w' := by
  have HB := Lib.hid (sup_below w (.cells #[.int .i64 b, .int .i64 s, .int .i64 i] 26))
  have HC0 := Lib.hid (cells3_laid w b s i 26)
  have hn := nsegs_bd b s i
  have KS := Lib.hid fun W => refSegs_any b s i W
  have hG := h.good
  have hs8 := hG.2.2.1
  have hs64 := hG.2.2.2.1
  have hR0 := Int.emod_nonneg (addr - 3) (show s ≠ 0 by omega)
  have hR1 := Int.emod_lt_of_pos (addr - 3) (show 0 < s by omega)
  have hQ0 := Int.ediv_nonneg (show 0 ≤ addr - 3 by have := h.1; omega) (show 0 ≤ s by omega)
  have hQ1 : (addr - 3) / s < nsegs b s i := Int.ediv_lt_of_lt_mul (by omega) (by have := h.2; omega)
  have hA : addr = 3 + (addr - 3) / s * s + (addr - 3) % s := by have := Int.mul_ediv_add_emod (addr - 3) s; rw [Int.mul_comm] at this; omega
  clear h hG
  generalize (addr - 3) / s = Q at *
  generalize (addr - 3) % s = R at *
  have HA := Lib.hid hA
  clear hA
  go_enter Try.func10, Try.ntmps10
  go_wp2_with fail
  go_loopw [7] (fun u wr => OfRel w b s i Q u wr) (fun u _ => 512 - (intOf u).toNat)
  case atStart => exact ⟨0, rfl, by omega, HC0.out, HB.out⟩
  case round =>
    obtain ⟨j, rfl, hj, hcr, hbr⟩ := hrel
    have HCr := Lib.hid hcr
    have HBr := Lib.hid hbr
    obtain ⟨c0, c1, c2⟩ := hcr
    clear hbr
    go_wp2_with fail
    refine (KS.out _).mono ?_
    rintro e wa ⟨rfl, hba⟩
    have HCa := Lib.hid (HCr.out.later hba)
    have HBa : Hid (Below w.heap.size w wa) := HBr.out.trans (hba.mono HBr.out.size)
    clear hba c0 c1 c2
    obtain ⟨c0, c1, c2⟩ := HCa.out
    have hjn : (j : Int) < nsegs b s i := by omega
    have hm := mul_bd (j : Int) s (by omega) (by omega) (by omega) hs64
    go_wp2_with fail
    go_loop [8] (fun u => ∃ k : Nat, u = .int .i64 k ∧ (k : Int) ≤ s ∧ ((j : Int) = Q → (k : Int) ≤ R)) (fun u => 64 - (intOf u).toNat)
    case atStart => exact ⟨0, rfl, by omega, fun _ => by omega⟩
    case round =>
      obtain ⟨k, rfl, hk, hkR⟩ := hrel
      by_cases hks : (k : Int) < s
      · by_cases hit : (j : Int) = Q ∧ (k : Int) = R
        · obtain ⟨h1, h2⟩ := hit
          have he : (addr == 3 + (j : Int) * s + (k : Int)) = true := by rw [h1, h2]; exact beq_iff_eq.2 HA.out
          have H1 := Lib.hid h1
          have H2 := Lib.hid h2
          clear h1 h2 hkR
          go_wp2
          go_ret3
          exact ⟨by rw [← H1.out, ← H2.out]; rfl, HBa.out⟩
        · have hne : (addr == 3 + (j : Int) * s + (k : Int)) = false := beq_false_of_ne fun e => hit (apart_of s j k Q R (by omega) (by omega) hks hR0 hR1 (by rw [← HA.out]; exact e))
          have HK : Hid ((j : Int) = Q → (k : Int) + 1 ≤ R) := fun e => by
            have := hkR e
            have : ¬ (k : Int) = R := fun e2 => hit ⟨e, e2⟩
            omega
          clear hkR hit
          go_wp2
          go_round
          case rel => exact ⟨k + 1, by go_num, by omega, HK.out⟩
          case measure => simp [intOf]; omega
      · have hjQ : (j : Int) + 1 ≤ Q := by
          have : ¬ (j : Int) = Q := fun e => by have := hkR e; omega
          omega
        have hge : decide ((k : Int) < s) = false := by simpa using hks
        clear hks hk hkR
        go_wp2_with fail
        go_roundw
        case rel => exact ⟨j + 1, by go_num, hjQ, HCa.out, HBa.out⟩
        case measure => simp [intOf]; omega

theorem of_first (b s i seg : Int) (w : World) (hG : Good b s i) (h0 : 0 ≤ seg) (h1 : seg < nsegs b s i) :
    Calls Try.prog 9 #[.agg #[.int .i64 b, .int .i64 s, .int .i64 i], .int .i64 (3 + seg * s)] w fun e w' => e = .returned (.tuple #[.int .i64 seg, .int .i64 0, .int .i64 0]) ∧ Below w.heap.size w w' := by
  have h := of_at b s i seg 0 w hG h0 h1 (by omega) (by have := hG.2.2.1; omega)
  rw [Int.add_zero] at h
  exact h
theorem first_room (b s i seg : Int) (hG : Good b s i) (h0 : 0 ≤ seg) (h1 : seg < nsegs b s i) : 3 + seg * s + s ≤ b := by
  have hs := hG.2.2.1
  have h2 : (seg + 1) * s ≤ nsegs b s i * s := Int.mul_le_mul_of_nonneg_right (by omega) (by omega)
  rw [Int.add_mul, Int.one_mul] at h2
  have := (ap_end b s i hG).1
  omega
set_option maxRecDepth 20000 in
set_option maxHeartbeats 2000000 in
theorem geomPlaces_one (b s i addr seg : Int) (X K C L : Int) (w : World)
    (KOf : ∀ W : World, Calls Try.prog 9 #[.agg #[.int .i64 b, .int .i64 s, .int .i64 i], .int .i64 addr] W fun e w' => e = .returned (.tuple #[.int .i64 X, .int .i64 K, .int .i64 C]) ∧ Below W.heap.size W w')
    (KRef : ∀ W : World, Calls Try.prog 10 #[.agg #[.int .i64 b, .int .i64 s, .int .i64 i], .int .i64 addr] W fun e w' => e = .returned (.tuple #[.int .i64 X, .int .i64 K, .int .i64 C]) ∧ Below W.heap.size W w')
    (KLeft : ∀ W : World, Calls Try.prog 11 #[.agg #[.int .i64 b, .int .i64 s, .int .i64 i], .int .i64 addr] W fun e w' => e = .returned (.tuple #[.int .i64 L, .int .i64 C]) ∧ Below W.heap.size W w')
    (hcase : (C = 0 ∧ L = s - K ∧ 0 ≤ K ∧ K < s ∧ s ≤ 64) ∨ (C = 22 ∧ L = 0)) :
    Calls Try.prog 3 #[.agg #[.int .i64 b, .int .i64 s, .int .i64 i], .int .i64 addr, .int .i64 seg] w fun e w' => e = .returned (.bool true) ∧ Below w.heap.size w w' := by
  have HB := Lib.hid (sup_below w)
  have HC0 := Lib.hid (cells3_laid w b s i 23)
  have KO := Lib.hid KOf
  have KR := Lib.hid KRef
  have KL := Lib.hid KLeft
  clear KOf KRef KLeft
  rcases hcase with ⟨rfl, rfl, hK0, hK1, hs64⟩ | ⟨rfl, rfl⟩
  all_goals
    go_enter Try.func3, Try.ntmps3
    go_wp2_with fail
    refine (awake_any _).mono ?_
    rintro e w1 ⟨rfl, hb1⟩
    have HB1 : Hid (Below w.heap.size w w1) := (HB.out _).trans (hb1.mono (by simp))
    have HC1 := Lib.hid (HC0.out.below hb1 (by simp))
    clear hb1
    obtain ⟨c0, c1, c2⟩ := HC1.out
    go_wp2_with fail
    refine (ref_any b s i _).mono ?_
    rintro e w2 ⟨rfl, hb2⟩
    have HB2 : Hid (Below w.heap.size w w2) := HB1.out.trans (hb2.mono HB1.out.size)
    have HC2 := Lib.hid (HC1.out.later hb2)
    clear hb2 c0 c1 c2
    obtain ⟨c0, c1, c2⟩ := HC2.out
    go_wp2_with fail
    refine (refSegs_any b s i _).mono ?_
    rintro e w3 ⟨rfl, hb3⟩
    have HB3 : Hid (Below w.heap.size w w3) := HB2.out.trans (hb3.mono HB2.out.size)
    have HC3 := Lib.hid (HC2.out.later hb3)
    clear hb3 c0 c1 c2
    obtain ⟨c0, c1, c2⟩ := HC3.out
    go_wp2_with fail
    refine (KO.out _).mono ?_
    rintro e w4 ⟨rfl, hb4⟩
    have HB4 : Hid (Below w.heap.size w w4) := HB3.out.trans (hb4.mono HB3.out.size)
    have HC4 := Lib.hid (HC3.out.later hb4)
    clear hb4 c0 c1 c2
    obtain ⟨c0, c1, c2⟩ := HC4.out
    go_wp2_with fail
    refine (ref_any b s i _).mono ?_
    rintro e w5 ⟨rfl, hb5⟩
    have HB5 : Hid (Below w.heap.size w w5) := HB4.out.trans (hb5.mono HB4.out.size)
    have HC5 := Lib.hid (HC4.out.later hb5)
    clear hb5 c0 c1 c2
    obtain ⟨c0, c1, c2⟩ := HC5.out
    go_wp2_with fail
    refine (KR.out _).mono ?_
    rintro e w6 ⟨rfl, hb6⟩
    have HB6 : Hid (Below w.heap.size w w6) := HB5.out.trans (hb6.mono HB5.out.size)
    have HC6 := Lib.hid (HC5.out.later hb6)
    clear hb6 c0 c1 c2
    obtain ⟨c0, c1, c2⟩ := HC6.out
    go_wp2_with fail
    refine (KL.out _).mono ?_
    rintro e w7 ⟨rfl, hb7⟩
    have HB7 : Hid (Below w.heap.size w w7) := HB6.out.trans (hb7.mono HB6.out.size)
    have HC7 := Lib.hid (HC6.out.later hb7)
    clear hb7 c0 c1 c2
    obtain ⟨c0, c1, c2⟩ := HC7.out
    go_wp2_with fail
    by_cases h0 : seg < 0
    · refine (first_neg b s i seg _ h0).mono ?_
      rintro e w8 ⟨rfl, hb8⟩
      have HB8 : Hid (Below w.heap.size w w8) := HB7.out.trans (hb8.mono HB7.out.size)
      clear hb8 c0 c1 c2
      go_wp2
      go_ret
      exact ⟨rfl, HB8.out⟩
    · by_cases h1 : nsegs b s i ≤ seg
      · refine (first_over b s i seg _ (by omega) h1).mono ?_
        rintro e w8 ⟨rfl, hb8⟩
        have HB8 : Hid (Below w.heap.size w w8) := HB7.out.trans (hb8.mono HB7.out.size)
        clear hb8 c0 c1 c2
        go_wp2
        go_ret
        exact ⟨rfl, HB8.out⟩
      · have hG : Good b s i := by
          by_cases hg : Good b s i
          · exact hg
          · rw [nsegs_bad hg] at h1; omega
        have hr := first_room b s i seg hG (by omega) (by omega)
        have hn := nsegs_bd b s i
        have hm := mul_bd seg s (by omega) (by omega) (by have := hG.2.2.1; omega) hG.2.2.2.1
        have hs8 := hG.2.2.1
        have hs65 := hG.2.2.2.1
        have HG := Lib.hid hG
        clear hG
        refine (first_ok b s i seg _ (by omega) (by omega)).mono ?_
        rintro e w8 ⟨rfl, hb8⟩
        have HB8 : Hid (Below w.heap.size w w8) := HB7.out.trans (hb8.mono HB7.out.size)
        have HC8 := Lib.hid (HC7.out.later hb8)
        clear hb8 c0 c1 c2
        obtain ⟨c0, c1, c2⟩ := HC8.out
        go_wp2_with fail
        refine (of_first b s i seg _ HG.out (by omega) (by omega)).mono ?_
        rintro e w9 ⟨rfl, hb9⟩
        have HB9 : Hid (Below w.heap.size w w9) := HB8.out.trans (hb9.mono HB8.out.size)
        have HC9 := Lib.hid (HC8.out.later hb9)
        clear hb9 c0 c1 c2
        obtain ⟨c0, c1, c2⟩ := HC9.out
        go_wp2
        go_ret
        exact ⟨rfl, HB9.out⟩
theorem geomPlaces_walk (b s i addr seg : Int) (w : World) (_ : (Lit.int .i64 b).wf = true) (_ : (Lit.int .i64 s).wf = true) (_ : (Lit.int .i64 i).wf = true) (_ : (Lit.int .i64 addr).wf = true) (_ : (Lit.int .i64 seg).wf = true) :
    Calls Try.prog 3 #[.agg #[.int .i64 b, .int .i64 s, .int .i64 i], .int .i64 addr, .int .i64 seg] w fun e w' => e = .returned (.bool true) ∧ Below w.heap.size w w' := by
  by_cases h : InSeg b s i addr
  · have hs := h.good.2.2.1
    exact geomPlaces_one b s i addr seg _ _ _ _ w (fun W => of_in b s i addr W h) (fun W => refOf_in b s i addr W h) (fun W => left_in b s i addr W h)
      (.inl ⟨rfl, rfl, Int.emod_nonneg _ (by omega), Int.emod_lt_of_pos _ (by omega), h.good.2.2.2.1⟩)
  · exact geomPlaces_one b s i addr seg _ _ _ _ w (fun W => of_out b s i addr W h) (fun W => refOf_out b s i addr W h) (fun W => left_out b s i addr W h) (.inr ⟨rfl, rfl⟩)
end Go.Proofs.Ytdfppilancimhaa
