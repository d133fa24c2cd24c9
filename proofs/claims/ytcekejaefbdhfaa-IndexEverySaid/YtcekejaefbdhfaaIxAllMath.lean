/-
  The blocks of pointers of a whole file, tried by the kernel one by one.
-/
import Derived.Test.YtcekejaefbdhfaaIxMath
import Derived.Test.YtcekejaefbdhfaaIxMetas
namespace Go.Proofs.Ytcekejaefbdhfaa
open Go.RowKit

theorem levM_tt (tt F lv : Int) (h : 0 < tt) (hF : 0 ≤ F) : levM 0 tt F lv = levM 0 1 F lv := by
  have := spanM_bd lv
  unfold levM
  have e : (startsB F lv = true ∧ (0 : Int) < F + spanM lv ∧ 0 < tt) ↔ (startsB F lv = true ∧ (0 : Int) < F + spanM lv ∧ (0 : Int) < 1) := by
    constructor
    · rintro ⟨h1, h2, _⟩; exact ⟨h1, h2, by omega⟩
    · rintro ⟨h1, h2, _⟩; exact ⟨h1, h2, h⟩
  simp only [e]
theorem downM_tt (tt F : Int) (h : 0 < tt) (hF : 0 ≤ F) : ∀ j, downM 0 tt F j = downM 0 1 F j
  | 0 => rfl
  | j + 1 => by simp only [downM, downM_tt tt F h hF j, levM_tt tt F _ h hF]
theorem mtsM_tt (tt : Int) (h : 0 < tt) : ∀ k, mtsM 0 tt k = mtsM 0 1 k
  | 0 => rfl
  | k + 1 => by simp only [mtsM, mtsM_tt tt h k, downM_tt tt (k : Int) h (by omega)]
theorem mtsM_pre (fr tt : Int) (k : Nat) : ∀ d, ∃ t, mtsM fr tt (k + d) = mtsM fr tt k ++ t
  | 0 => ⟨[], by simp⟩
  | d + 1 => by
    obtain ⟨t, ht⟩ := mtsM_pre fr tt k d
    exact ⟨t ++ downM fr tt ((k + d : Nat) : Int) 3, by rw [← Nat.add_assoc]; simp only [mtsM, ht, List.append_assoc]⟩
def fullM : List Int := mtsM 0 1 600
theorem mts_take (k : Nat) (h : k ≤ 600) : mtsM 0 1 k = fullM.take (mtsM 0 1 k).length ∧ (mtsM 0 1 k).length ≤ fullM.length := by
  obtain ⟨t, ht⟩ := mtsM_pre 0 1 k (600 - k)
  rw [show k + (600 - k) = 600 by omega] at ht
  unfold fullM
  rw [ht]
  simp
def chkFull : Bool := (List.range fullM.length).all fun i =>
  let m := fullM.getD i 0
  isB m && decide (1 ≤ lvOf m) && (decide (parM (fOf m) (lvOf m) = 600) || (fullM.take i).contains (parM (fOf m) (lvOf m))) && !(fullM.take i).contains m
theorem chkFull_true : chkFull = true := by kernel_rfl
theorem chkDown : ((List.range 600).all fun F => (downM 0 1 (F : Int) 3).all fun m => decide (fOf m = (F : Int))) = true := by kernel_rfl
theorem mts_lt : ∀ k, k ≤ 600 → ∀ m ∈ mtsM 0 1 k, fOf m < (k : Int)
  | 0, _, m, hm => by simp [mtsM] at hm
  | k + 1, hk, m, hm => by
    rcases List.mem_append.1 hm with h | h
    · have := mts_lt k (by omega) m h; omega
    · have h1 := List.all_eq_true.1 (List.all_eq_true.1 chkDown k (List.mem_range.2 (by omega))) m h
      have := of_decide_eq_true h1
      omega
theorem mts6 : mtsM 0 1 6 = [] ∧ mtsM 0 1 7 = [-6] := by constructor <;> kernel_rfl
theorem mts_some (k : Nat) : 0 < (mtsM 0 1 k).length ↔ 6 < k := by
  constructor
  · intro h
    apply Nat.not_le.1
    intro hk
    obtain ⟨t, ht⟩ := mtsM_pre 0 1 k (6 - k)
    rw [show k + (6 - k) = 6 by omega, mts6.1] at ht
    have := congrArg List.length ht
    simp at this
    omega
  · intro h
    obtain ⟨t, ht⟩ := mtsM_pre 0 1 7 (k - 7)
    rw [show 7 + (k - 7) = k by omega, mts6.2] at ht
    rw [ht]
    simp
theorem getD_take' (l : List Int) (n i : Nat) (h : i < n) : (l.take n).getD i 0 = l.getD i 0 := by
  rw [List.getD_eq_getElem?_getD, List.getD_eq_getElem?_getD, List.getElem?_take_of_lt h]
/-- What is true of each block of pointers of a file's first k data blocks. -/
theorem all_facts (k i : Nat) (hk : k ≤ 600) (hi : i < (mtsM 0 1 k).length) (m : Int) (hm : m = (mtsM 0 1 k).getD i 0) :
    isB m = true ∧ 1 ≤ lvOf m ∧ (parM (fOf m) (lvOf m) = 600 ∨ parM (fOf m) (lvOf m) ∈ (mtsM 0 1 k).take i) ∧ m ∉ (mtsM 0 1 k).take i ∧ fOf m < (k : Int) := by
  obtain ⟨h1, h2⟩ := mts_take k hk
  have hlt : fOf m < (k : Int) := mts_lt k hk m (by rw [hm, List.getD_eq_getElem?_getD, List.getElem?_eq_getElem hi]; exact List.getElem_mem hi)
  have e1 : m = fullM.getD i 0 := by rw [hm, h1, getD_take' _ _ _ hi]
  have e2 : (mtsM 0 1 k).take i = fullM.take i := by
    rw [h1, List.take_take]
    congr 1
    omega
  have hc := List.all_eq_true.1 chkFull_true i (List.mem_range.2 (by omega))
  simp only [Bool.and_eq_true, Bool.or_eq_true, decide_eq_true_eq, List.contains_iff_mem, Bool.not_eq_true'] at hc
  rw [← e1] at hc
  rw [e2]
  obtain ⟨⟨⟨c1, c2⟩, c3⟩, c4⟩ := hc
  refine ⟨c1, c2, c3, ?_, hlt⟩
  intro h
  rw [← List.contains_iff_mem] at h
  rw [h] at c4
  cases c4
end Go.Proofs.Ytcekejaefbdhfaa
