/-
  Plain mathematics of a table all of whose segments are clean but one.
-/
import Derived.Test.YtfilbbiiiaodiaaUsTake
namespace Go.Proofs.Ytfilbbiiiaodiaa
open Go.RowKit

def zer (n : Nat) : List Int := List.replicate (3 * n) 0
def act (n p : Nat) : List Int := (zer n).set (p * 3 + 1) 2
theorem zer_length (n : Nat) : (zer n).length = 3 * n := by simp [zer]
theorem act_length (n p : Nat) : (act n p).length = 3 * n := by simp [act, zer]
theorem zer_get (n i : Nat) (h : i < (zer n).length) : (zer n)[i] = 0 := by simp [zer]
theorem act_get (n p i : Nat) (h : i < (act n p).length) : (act n p)[i] = if p * 3 + 1 = i then 2 else 0 := by
  simp only [act, List.getElem_set, zer, List.getElem_replicate]
theorem dem_zer (n : Nat) : dem (zer n) n = zer n := by
  apply List.ext_getElem (by simp [dem])
  intro i h1 h2
  simp only [dem, List.getElem_mapIdx, zer, List.getElem_replicate]
  rw [if_neg (by simp)]
theorem seiz_zer (n s : Nat) : seiz (zer n) n s = act n s := by
  unfold seiz act
  rw [dem_zer]
theorem mid_get (n p s i : Nat) (hp : p < n) (h : i < (seiz (act n p) n s).length) : (seiz (act n p) n s)[i] = if s * 3 + 1 = i then 2 else if p * 3 + 1 = i then 1 else 0 := by
  have hi : i < 3 * n := by rw [seiz_length, act_length] at h; exact h
  simp only [seiz, List.getElem_set, dem, List.getElem_mapIdx]
  by_cases h1 : s * 3 + 1 = i
  · rw [if_pos h1, if_pos h1]
  · rw [if_neg h1, if_neg h1]
    have ha := act_get n p i (by rw [act_length]; exact hi)
    rw [ha]
    by_cases h2 : p * 3 + 1 = i
    · rw [if_pos h2, if_pos h2, if_pos ⟨by omega, by omega, rfl⟩]
    · rw [if_neg h2, if_neg h2, if_neg (by simp)]
theorem rel_mid (n p s : Nat) (hp : p < n) (hne : p ≠ s) : rel (seiz (act n p) n s) p = act n s := by
  apply List.ext_getElem (by simp [rel, seiz_length, act_length])
  intro i h1 h2
  have hi : i < 3 * n := by rw [act_length] at h2; exact h2
  simp only [rel, List.getElem_set]
  rw [act_get n s i h2]
  by_cases h3 : p * 3 + 2 = i
  · rw [if_pos h3, if_neg (by omega)]
  · rw [if_neg h3]
    by_cases h4 : p * 3 + 1 = i
    · rw [if_pos h4, if_neg (by omega)]
    · rw [if_neg h4, mid_get n p s i hp (by rw [seiz_length, act_length]; exact hi)]
      by_cases h5 : s * 3 + 1 = i
      · rw [if_pos h5, if_pos h5]
      · rw [if_neg h5, if_neg h5, if_neg h4]
theorem getD_of (l : List Int) (i : Nat) (h : i < l.length) : l.getD i 0 = l[i] := by
  rw [List.getD_eq_getElem?_getD, List.getElem?_eq_getElem h]
  rfl
theorem act_state (n p j : Nat) (hj : j < n) : (act n p).getD (j * 3 + 1) 0 = if p = j then 2 else 0 := by
  rw [getD_of _ _ (by rw [act_length]; omega), act_get]
  by_cases h : p = j
  · rw [if_pos (by omega), if_pos h]
  · rw [if_neg (by omega), if_neg h]
theorem mid_state (n p s : Nat) (hp : p < n) (hne : p ≠ s) : (seiz (act n p) n s).getD (p * 3 + 1) 0 = 1 := by
  rw [getD_of _ _ (by rw [seiz_length, act_length]; omega), mid_get n p s _ hp, if_neg (by omega), if_pos rfl]
theorem mid_live (n p s : Nat) (hp : p < n) : (seiz (act n p) n s).getD (p * 3) 0 = 0 := by
  rw [getD_of _ _ (by rw [seiz_length, act_length]; omega), mid_get n p s _ hp, if_neg (by omega), if_neg (by omega)]
theorem zer_state (n j : Nat) (hj : j < n) : (zer n).getD (j * 3 + 1) 0 = 0 := by
  rw [getD_of _ _ (by rw [zer_length]; omega), zer_get]
theorem cnt_act (n s : Nat) (hs : s < n) : ∀ k, k ≤ n → cnt (act n s) 0 k = k - if s < k then 1 else 0
  | 0, _ => rfl
  | k + 1, hk => by
    have ih := cnt_act n s hs k (by omega)
    have hst := act_state n s k (by omega)
    show cnt (act n s) 0 k + _ = _
    rw [ih, hst]
    rcases Nat.lt_trichotomy s k with h | h | h
    · have e1 : ¬ s = k := by omega
      have e2 : s < k + 1 := by omega
      simp [h, e1, e2]
      omega
    · subst h
      have e2 : s < s + 1 := by omega
      simp [e2]
    · have e1 : ¬ s = k := by omega
      have e2 : ¬ s < k + 1 := by omega
      have e3 : ¬ s < k := by omega
      simp [e1, e2, e3]
theorem cnt_all (n s : Nat) (hs : s < n) : cnt (act n s) 0 n = n - 1 := by
  rw [cnt_act n s hs n (Nat.le_refl _), if_pos hs]
end Go.Proofs.Ytfilbbiiiaodiaa
