/-
  The walk of IndexAll: the blocks of pointers of a whole file: each is one, none twice, each behind its parent.
-/
import Derived.Test.YtcekejaefbdhfaaIxAllMath
import Derived.Test.YtcekejaefbdhfaaIxAwake
import Derived.OpenShut
namespace Go.Proofs.Ytcekejaefbdhfaa
open Go.RowKit

/-- 'int(uint(x) % (n + 1))'. -/
theorem cut_n (x : Int) (n : Nat) (hn : n < 4611686018427387904) : ∃ k : Nat, k ≤ n ∧ wrap64 ((IntKind.u64.wrap x).tmod ((n : Int) + 1)) = (k : Int) := by
  have h0 : 0 ≤ IntKind.u64.wrap x := by rw [IntKind.wrap_u64]; omega
  rw [Int.tmod_eq_emod_of_nonneg h0]
  generalize IntKind.u64.wrap x = y at *
  refine ⟨(y % ((n : Int) + 1)).toNat, ?_, ?_⟩
  · have := Int.emod_lt_of_pos y (show (0 : Int) < (n : Int) + 1 by omega)
    have := Int.emod_nonneg y (show ((n : Int) + 1) ≠ 0 by omega)
    omega
  · have h1 := Int.emod_lt_of_pos y (show (0 : Int) < (n : Int) + 1 by omega)
    have h2 := Int.emod_nonneg y (show ((n : Int) + 1) ≠ 0 by omega)
    rw [IntWalk.wrap64_in _ (by omega)]
    omega
theorem cut601 (x : Int) : ∃ k : Nat, k ≤ 600 ∧ wrap64 ((IntKind.u64.wrap x).tmod 601) = (k : Int) := cut_n x 600 (by omega)
/-- 's[:k]' of integers. -/
theorem head_ints (b o n cap k : Nat) (hk : k ≤ n) (hc : n ≤ cap) (h0 : 0 < cap) (hm : cap ≤ 9223372036854775807) (W : World) :
    (Instr.slice 28 (.slice (some ⟨b, o, none⟩) n cap) none (some (.int .i64 (k : Int))) none).run Try.prog W = .ok (.slice (some ⟨b, o, none⟩) k cap) W := by
  have ht' : Try.prog.underlying 28 = some (.slice (Try.prog.elem 28)) := by simp [Program.elem, Try.underlying28]
  have he : Try.prog.elem 28 = 3 := by simp [Program.elem, Try.underlying28]
  have hz : ∀ w, (Go.sizeOf 3).run Try.prog w = .ok 1 w := fun w => by kernel_rfl
  rw [run_slice_h W _ _ _ _ ht' .i64 _ (by omega) (by omega), he, hz]
  have hc0 : ¬ cap = 0 := by omega
  simp [Result.andThen, sliced, Addr.add, hc0]
def AllRel (w : World) (a : Option Addr) (n : Nat) (L : List Int) (t : Value) (wr : World) : Prop := ∃ i : Nat, t = .int .i64 i ∧ i ≤ n ∧ Ints wr a L ∧ Below w.heap.size w wr
def HasRel (L : List Int) (p : Int) (i : Nat) (t b : Value) : Prop := ∃ j : Nat, t = .int .i64 j ∧ j ≤ i ∧ b = .bool (decide (p = 600 ∨ p ∈ L.take j))
set_option maxRecDepth 100000 in
set_option maxHeartbeats 4000000 in
theorem indexAll_walk (x : Int) (w : World) (_ : (Lit.int .i64 x).wf = true) :
    Calls Try.prog 7 #[.int .i64 x] w fun e w' => e = .returned (.bool true) ∧ Below w.heap.size w w' := by
  have HAw := Lib.hid awake_any
  obtain ⟨K, hK, eK⟩ := cut601 x
  have HM := Lib.hid (fun W => metas_good 0 (K : Int) W (by omega) (by omega) (by omega))
  have eL : mtsM 0 (K : Int) (K : Int).toNat = mtsM 0 1 K := by
    rcases Nat.eq_zero_or_pos K with h | h
    · subst h; rfl
    · rw [Int.toNat_natCast]; exact mtsM_tt (K : Int) (by omega) K
  rw [eL] at HM
  have hfac := all_facts K
  have hsome := mts_some K
  have hlen := mtsM_len 0 1 K
  clear eL
  generalize mtsM 0 1 K = L at *
  have HF := Lib.hid (fun i hi m hm => hfac i hK hi m hm)
  have HSo := Lib.hid hsome
  obtain ⟨n, hn⟩ : ∃ n, n = L.length := ⟨_, rfl⟩
  have HN := Lib.hid hn
  rw [← hn] at hlen
  clear hfac hsome hn
  go_enter Try.func7, Try.ntmps7
  go_wp2_with fail
  refine (HAw.out _).mono ?_
  rintro e w1 ⟨rfl, hb1⟩
  have HB1 := Lib.hid hb1
  clear hb1 HAw
  go_wp2_with fail
  rw [eK]
  refine (HM.out _).mono ?_
  rintro e w2 ⟨v, rfl, hv, hb2⟩
  have HB2 := Lib.hid (HB1.out.trans (hb2.mono HB1.out.size))
  unfold OwnL at hv
  rw [← HN.out] at hv
  obtain ⟨a, cap, rfl, hcap⟩ := own_slice hv
  have hcm : cap ≤ 9223372036854775807 := by
    rcases hv.2 with ⟨h1, _⟩ | ⟨g, c, cur, h1, _, _, _, h2, _⟩
    · cases h1; omega
    · cases h1; unfold maxLen at h2; omega
  have I0 := Lib.hid (Ints.own hv)
  clear hv hb2 HB1 HM eK
  go_wp2_with fail
  go_loopw [31] (fun t wr => AllRel w a n L t wr) (fun t _ => n - (intOf t).toNat)
  case atStart => exact ⟨0, rfl, by omega, I0.out, HB2.out⟩
  case round =>
    obtain ⟨i, rfl, hi, hI, hBe⟩ := hrel
    have I1 := Lib.hid hI
    have HB3 := Lib.hid hBe
    clear hI hBe I0 HB2
    by_cases hlt : i < n
    · obtain ⟨b, o, rfl, hx⟩ := I1.out (by intro e; have := HN.out; rw [e] at this; simp at this; omega)
      have x1 := hx i (by have := HN.out; omega)
      have f1 := HF.out i (by have := HN.out; omega) _ rfl
      have hsl := fun W => head_ints b o n cap i (by omega) hcap (by omega) hcm W
      have HX := Lib.hid hx
      clear hx
      generalize L.getD i 0 = m at *
      obtain ⟨hm, f2, f3, f4, f5⟩ := f1
      have rm := isB_range m hm
      have CM := Lib.hid (fun W => covers_yes m W (by omega) hm)
      have PM := Lib.hid (fun W => parent_yes m W (by omega) hm)
      have LM := Lib.hid (fun W => lawLevel_yes m W (by omega) hm)
      have fm1 := (facts m hm).m1
      have F3 := Lib.hid f3
      have F4 := Lib.hid f4
      clear hm f3 f4 rm
      generalize manyM (fOf m) (lvOf m) = mm at *
      generalize parM (fOf m) (lvOf m) = p at *
      generalize slotM (fOf m) (lvOf m) = s at *
      generalize fOf m = fm at *
      generalize lvOf m = lm at *
      go_wp2_with fail
      refine (PM.out _).mono ?_
      rintro e v1 ⟨rfl, hb1⟩
      have HV1 := Lib.hid hb1
      clear hb1 x1 PM
      go_wp2_with fail
      refine (CM.out _).mono ?_
      rintro e v2 ⟨rfl, hb2⟩
      have HV2 : Hid (Below wr.heap.size wr v2) := HV1.out.trans (hb2.mono HV1.out.size)
      clear hb2 HV1 CM
      go_wp2_with fail
      go_loop [54, 13] (fun t b => HasRel L p i t b) (fun t _ => i - (intOf t).toNat)
      case atStart => exact ⟨0, rfl, by omega, by by_cases h : p = 600 <;> simp [h]⟩
      case round =>
        obtain ⟨j, rfl, hj, rfl⟩ := hrel
        by_cases hjl : j < i
        · have y1 := cell_later HV2.out (HX.out j (by have := HN.out; omega))
          have hne : ¬ (L.getD j 0 = m) := by
            intro e
            apply F4.out
            rw [← e, List.getD_eq_getElem?_getD, List.getElem?_eq_getElem (by have := HN.out; omega)]
            exact List.mem_take_iff_getElem.2 ⟨j, by have := HN.out; omega, rfl⟩
          have hnx : Hid (decide (p = 600 ∨ p ∈ L.take (j + 1)) = (decide (p = 600 ∨ p ∈ L.take j) || (L.getD j 0 == p))) := by
            show _ = _
            rw [List.take_add_one, List.getD_eq_getElem?_getD, List.getElem?_eq_getElem (by have := HN.out; omega)]
            simp only [Option.toList, List.mem_append, List.mem_singleton, Option.getD_some]
            rw [Bool.eq_iff_iff]
            simp only [decide_eq_true_eq, Bool.or_eq_true, beq_iff_eq]
            constructor
            · rintro (h | h | h)
              · exact .inl (.inl h)
              · exact .inl (.inr h)
              · exact .inr h.symm
            · rintro ((h | h) | h)
              · exact .inl h
              · exact .inr (.inl h)
              · exact .inr (.inr h.symm)
          generalize L.getD j 0 = xj at *
          have hne2 : (xj == m) = false := by simpa using hne
          generalize hb0 : decide (p = 600 ∨ p ∈ L.take j) = b0 at *
          clear hb0
          cases b0
          · go_wp2_with fail
            go_round
            case rel => exact ⟨j + 1, by go_num, by omega, by rw [hnx.out]; simp⟩
            case measure => simp [intOf] <;> omega
          · go_wp2_with fail
            go_round
            case rel => exact ⟨j + 1, by go_num, by omega, by rw [hnx.out]; simp⟩
            case measure => simp [intOf] <;> omega
        · obtain rfl : j = i := by omega
          have hyes : decide (p = 600 ∨ p ∈ L.take j) = true := decide_eq_true F3.out
          rw [hyes]
          clear hyes hjl
          have hg : ¬ ((K : Int) ≤ fm) := by omega
          have hg2 : ¬ (mm < 1) := by omega
          go_wp2_with fail
          refine (LM.out _).mono ?_
          rintro e v3 ⟨rfl, hb3⟩
          have HV3 : Hid (Below wr.heap.size wr v3) := HV2.out.trans (hb3.mono HV2.out.size)
          have hg3 : ¬ (lm < 1) := by omega
          have FIN : Hid (AllRel w (some ⟨b, o, none⟩) n L (.int .i64 ((j + 1 : Nat) : Int)) v3) := ⟨j + 1, rfl, by omega, I1.out.below HV3.out, HB3.out.trans (HV3.out.mono HB3.out.size)⟩
          clear hb3 HV2 LM HV3
          go_wp2_with fail
          go_roundw
          case rel => exact FIN.out
          case measure => simp [intOf] <;> omega
    · obtain rfl : i = n := by omega
      have hK6 : 0 < i ↔ 6 < K := by rw [HN.out]; exact HSo.out
      by_cases h6 : 6 < K
      · have : 0 < i := hK6.2 h6
        clear hK6
        go_wp2_with fail
        go_ret
        exact ⟨by simp; omega, HB3.out⟩
      · have : ¬ 0 < i := fun e => h6 (hK6.1 e)
        clear hK6
        go_wp2_with fail
        go_ret
        exact ⟨by simp; omega, HB3.out⟩
end Go.Proofs.Ytcekejaefbdhfaa
