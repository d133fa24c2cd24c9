/-
  The blocks of pointers on the ways to a stretch of data are just those that cover some of it.
-/
import Derived.Test.YtcekejaefbdhfaaIxAllMath
namespace Go.Proofs.Ytcekejaefbdhfaa
open Go.RowKit

def wide (fr tt : Int) (m : Int) : Bool := decide (fr < fOf m + spanM (lvOf m) ∧ fr < tt)
theorem chkNum : ((List.range 600).all fun F => [1, 2, 3].all fun lv => !startsB (F : Int) lv || (decide (fOf (numM (F : Int) lv) = F) && decide (lvOf (numM (F : Int) lv) = lv))) = true := by kernel_rfl
theorem num_facts (F : Nat) (lv : Int) (hF : F < 600) (hl : lv = 1 ∨ lv = 2 ∨ lv = 3) (h : startsB (F : Int) lv = true) : fOf (numM (F : Int) lv) = F ∧ lvOf (numM (F : Int) lv) = lv := by
  have h1 := List.all_eq_true.1 (List.all_eq_true.1 chkNum F (List.mem_range.2 hF)) lv (by simp; exact hl)
  rw [h] at h1
  simpa using h1
theorem levM_filter (fr tt : Int) (F : Nat) (lv : Int) (hF : F < 600) (hl : lv = 1 ∨ lv = 2 ∨ lv = 3) : levM fr tt (F : Int) lv = (levM 0 1 (F : Int) lv).filter (wide fr tt) := by
  have hs := spanM_bd lv
  unfold levM
  by_cases h : startsB (F : Int) lv = true
  · obtain ⟨h1, h2⟩ := num_facts F lv hF hl h
    have e1 : (startsB (F : Int) lv = true ∧ (0 : Int) < (F : Int) + spanM lv ∧ (0 : Int) < 1) := ⟨h, by omega, by omega⟩
    rw [if_pos e1]
    have e2 : wide fr tt (numM (F : Int) lv) = decide (fr < (F : Int) + spanM lv ∧ fr < tt) := by unfold wide; rw [h1, h2]
    by_cases h3 : fr < (F : Int) + spanM lv ∧ fr < tt
    · rw [if_pos ⟨h, h3⟩]
      rw [List.filter_cons_of_pos (by rw [e2]; exact decide_eq_true h3)]
      rfl
    · rw [if_neg (fun e => h3 e.2)]
      rw [List.filter_cons_of_neg (by rw [e2]; simpa using h3)]
      rfl
  · rw [if_neg (fun e => h e.1), if_neg (fun e => h e.1)]
    rfl
theorem downM_filter (fr tt : Int) (F : Nat) (hF : F < 600) : downM fr tt (F : Int) 3 = (downM 0 1 (F : Int) 3).filter (wide fr tt) := by
  simp only [downM, List.filter_append, List.nil_append]
  rw [levM_filter fr tt F _ hF (by simp), levM_filter fr tt F _ hF (by simp), levM_filter fr tt F _ hF (by simp)]
theorem mtsM_filter (fr tt : Int) : ∀ k, k ≤ 600 → mtsM fr tt k = (mtsM 0 1 k).filter (wide fr tt)
  | 0, _ => rfl
  | k + 1, h => by simp only [mtsM, List.filter_append]; rw [mtsM_filter fr tt k (by omega), downM_filter fr tt k (by omega)]
theorem full_nodup : fullM.Nodup := by decide +kernel
theorem mts_nodup (fr tt : Int) (k : Nat) (h : k ≤ 600) : (mtsM fr tt k).Nodup := by
  rw [mtsM_filter fr tt k h]
  have h2 : (mtsM 0 1 k).Nodup := by
    rw [(mts_take k h).1]
    exact full_nodup.sublist (List.take_sublist _ _)
  exact List.Pairwise.filter _ h2
theorem chkOn : ((List.range 600).all fun n => ((metasM (n : Int) 0).all fun m => fullM.contains m) && fullM.all fun m => (metasM (n : Int) 0).contains m == decide (fOf m ≤ (n : Int) ∧ (n : Int) < fOf m + spanM (lvOf m))) = true := by kernel_rfl
theorem on_way (n : Nat) (hn : n < 600) (m : Int) : m ∈ metasM (n : Int) 0 ↔ m ∈ fullM ∧ fOf m ≤ (n : Int) ∧ (n : Int) < fOf m + spanM (lvOf m) := by
  have h := List.all_eq_true.1 chkOn n (List.mem_range.2 hn)
  rw [Bool.and_eq_true] at h
  constructor
  · intro hm
    have h1 := List.all_eq_true.1 h.1 m hm
    have hf : m ∈ fullM := by rw [← List.contains_iff_mem]; exact h1
    have h2 := List.all_eq_true.1 h.2 m hf
    have h3 : (metasM (n : Int) 0).contains m = true := by rw [List.contains_iff_mem]; exact hm
    rw [h3] at h2
    simp at h2
    exact ⟨hf, h2⟩
  · rintro ⟨hf, hd⟩
    have h2 := List.all_eq_true.1 h.2 m hf
    rw [decide_eq_true hd] at h2
    simpa using h2
theorem mts_mem (k : Nat) (hk : k ≤ 600) (m : Int) : m ∈ mtsM 0 1 k ↔ m ∈ fullM ∧ fOf m < (k : Int) := by
  constructor
  · intro h
    refine ⟨?_, mts_lt k hk m h⟩
    obtain ⟨t, ht⟩ := mtsM_pre 0 1 k (600 - k)
    rw [show k + (600 - k) = 600 by omega] at ht
    unfold fullM
    rw [ht]
    exact List.mem_append_left _ h
  · rintro ⟨h1, h2⟩
    have key : ∀ d, k + d ≤ 600 → m ∈ mtsM 0 1 (k + d) → m ∈ mtsM 0 1 k := by
      intro d
      induction d with
      | zero => intro _ h; exact h
      | succ d ih =>
        intro hd h
        rw [← Nat.add_assoc] at h
        rcases List.mem_append.1 h with h | h
        · exact ih (by omega) h
        · have h3 := List.all_eq_true.1 (List.all_eq_true.1 chkDown (k + d) (List.mem_range.2 (by omega))) m h
          have := of_decide_eq_true h3
          omega
    exact key (600 - k) (by omega) (by rw [show k + (600 - k) = 600 by omega]; exact h1)
/-- Those on the ways to the data from one on, ahead of another one, are just the Metas. -/
theorem ways_metas (fr tt : Nat) (h1 : fr ≤ tt) (h2 : tt ≤ 600) (m : Int) : m ∈ mtsM (fr : Int) (tt : Int) tt ↔ ∃ n : Nat, fr ≤ n ∧ n < tt ∧ m ∈ metasM (n : Int) 0 := by
  rw [mtsM_filter _ _ tt h2, List.mem_filter, mts_mem tt h2]
  unfold wide
  rw [decide_eq_true_eq]
  have hs := spanM_bd (lvOf m)
  constructor
  · rintro ⟨⟨hf, hlt⟩, hw, ht⟩
    by_cases h0 : fOf m ≤ (fr : Int)
    · exact ⟨fr, Nat.le_refl _, by omega, (on_way fr (by omega) m).2 ⟨hf, h0, hw⟩⟩
    · refine ⟨(fOf m).toNat, by omega, by omega, (on_way _ (by omega) m).2 ⟨hf, by omega, by omega⟩⟩
  · rintro ⟨n, hn1, hn2, hm⟩
    obtain ⟨hf, ha, hb⟩ := (on_way n (by omega) m).1 hm
    exact ⟨⟨hf, by omega⟩, by omega, by omega⟩
end Go.Proofs.Ytcekejaefbdhfaa
