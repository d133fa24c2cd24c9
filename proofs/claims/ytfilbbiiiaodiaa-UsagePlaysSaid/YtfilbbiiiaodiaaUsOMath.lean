/-
  Plain mathematics of which segments are out: at most one is active, the one that was taken last.
-/
import Derived.Test.YtfilbbiiiaodiaaUsSweep
namespace Go.Proofs.Ytfilbbiiiaodiaa
open Go.RowKit

/-- The state of a segment. -/
def st (F : List Int) (j : Nat) : Int := F.getD (j * 3 + 1) 0
theorem getD_set (F : List Int) (i j : Nat) (v : Int) (hi : i < F.length) : (F.set i v).getD j 0 = if i = j then v else F.getD j 0 := by
  rw [List.getD_eq_getElem?_getD, List.getD_eq_getElem?_getD, List.getElem?_set]
  by_cases e : i = j
  · subst e; simp [hi]
  · simp [e]
theorem st_live (F : List Int) (s j : Nat) (v : Int) (h : s * 3 < F.length) : st (F.set (s * 3) v) j = st F j := by
  unfold st
  rw [getD_set _ _ _ _ h, if_neg (by omega)]
theorem st_use (F : List Int) (s j : Nat) (v : Int) (h : s * 3 + 1 < F.length) : st (F.set (s * 3 + 1) v) j = if s = j then v else st F j := by
  unfold st
  rw [getD_set _ _ _ _ h]
  by_cases e : s = j
  · rw [if_pos (by omega), if_pos e]
  · rw [if_neg (by omega), if_neg e]
theorem st_rel (F : List Int) (s j : Nat) (h : s * 3 + 2 < F.length) : st (rel F s) j = if s = j then 0 else st F j := by
  unfold rel
  unfold st
  rw [getD_set _ _ _ _ (by rw [List.length_set]; exact h), if_neg (by omega)]
  exact st_use F s j 0 (by omega)
theorem dem_st (F : List Int) (n j : Nat) (hj : j < n) (hF : F.length = 3 * n) : st (dem F n) j = if st F j = 2 then 1 else st F j := by
  have hi : j * 3 + 1 < F.length := by omega
  unfold st
  rw [List.getD_eq_getElem?_getD, List.getD_eq_getElem?_getD]
  simp only [dem, List.getElem?_mapIdx, List.getElem?_eq_getElem hi, Option.map_some, Option.getD_some]
  by_cases h2 : F[j * 3 + 1] = 2
  · rw [if_pos ⟨by omega, by omega, h2⟩, if_pos h2]
  · rw [if_neg (fun h => h2 h.2.2), if_neg h2]
theorem st_seiz (F : List Int) (n s j : Nat) (hs : s < n) (hj : j < n) (hF : F.length = 3 * n) : st (seiz F n s) j = if s = j then 2 else if st F j = 2 then 1 else st F j := by
  unfold seiz
  rw [st_use _ _ _ _ (by rw [dem_length]; omega), dem_st F n j hj hF]
/-- At most one is active: the last one. -/
def One (F : List Int) (n : Nat) (last : Int) : Prop :=
  (last = -1 ∧ ∀ j, j < n → st F j ≠ 2) ∨ ∃ s, s < n ∧ last = (s : Int) ∧ st F s = 2 ∧ ∀ j, j < n → j ≠ s → st F j ≠ 2
theorem one_seiz (F : List Int) (n s : Nat) (hs : s < n) (hF : F.length = 3 * n) : One (seiz F n s) n s :=
  .inr ⟨s, hs, rfl, by rw [st_seiz F n s s hs hs hF, if_pos rfl], fun j hj hne => by
    rw [st_seiz F n s j hs hj hF, if_neg (fun e => hne e.symm)]
    by_cases h : st F j = 2
    · rw [if_pos h]; decide
    · rw [if_neg h]; exact h⟩
theorem one_same {F G : List Int} {n : Nat} {last : Int} (h : One F n last) (hg : ∀ j, j < n → (st G j = 2 ↔ st F j = 2)) : One G n last := by
  rcases h with ⟨h1, h2⟩ | ⟨s, hs, h1, h2, h3⟩
  · exact .inl ⟨h1, fun j hj e => h2 j hj ((hg j hj).1 e)⟩
  · exact .inr ⟨s, hs, h1, (hg s hs).2 h2, fun j hj hne e => h3 j hj hne ((hg j hj).1 e)⟩
theorem cnt_none (F : List Int) (v : Int) : ∀ k, (∀ j, j < k → st F j ≠ v) → cnt F v k = 0
  | 0, _ => rfl
  | k + 1, h => by
    rw [cnt_no F v k (h k (by omega))]
    exact cnt_none F v k fun j hj => h j (by omega)
theorem cnt_only (F : List Int) (v : Int) (s : Nat) (hs : st F s = v) : ∀ k, s < k → (∀ j, j < k → j ≠ s → st F j ≠ v) → cnt F v k = 1
  | 0, h, _ => by omega
  | k + 1, h, hne => by
    rcases Nat.lt_or_ge s k with h1 | h1
    · rw [cnt_no F v k (hne k (by omega) (by omega))]
      exact cnt_only F v s hs k h1 fun j hj => hne j (by omega)
    · obtain rfl : s = k := by omega
      rw [cnt_yes F v s hs, cnt_none F v s fun j hj => hne j (by omega) (by omega)]
theorem one_count {F : List Int} {n : Nat} {last : Int} (h : One F n last) : (last = -1 ∧ cnt F 2 n = 0) ∨ (0 ≤ last ∧ cnt F 2 n = 1) := by
  rcases h with ⟨h1, h2⟩ | ⟨s, hs, rfl, h2, h3⟩
  · exact .inl ⟨h1, cnt_none F 2 n h2⟩
  · exact .inr ⟨by omega, cnt_only F 2 s h2 n hs h3⟩
end Go.Proofs.Ytfilbbiiiaodiaa
