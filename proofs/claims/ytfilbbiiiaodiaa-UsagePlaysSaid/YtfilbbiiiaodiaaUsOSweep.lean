/-
  What a Sweep leaves of UsageOnce's list, in numbers alone.
-/
import Derived.Test.YtfilbbiiiaodiaaUsOInv
namespace Go.Proofs.Ytfilbbiiiaodiaa

theorem rel_length (F : List Int) (s : Nat) : (rel F s).length = F.length := by simp [rel]
theorem swF_length (F : List Int) : ∀ k, (swF F k).length = F.length
  | 0 => rfl
  | k + 1 => by
    show (if swOk F k then _ else _ : List Int).length = _
    split
    · rw [rel_length, swF_length F k]
    · exact swF_length F k
theorem swF_st (F : List Int) (j : Nat) : ∀ k, k * 3 ≤ F.length → st (swF F k) j = if j < k ∧ swOk F j then 0 else st F j
  | 0, _ => by rw [if_neg (by omega)]; rfl
  | k + 1, hk => by
    have ih := swF_st F j k (by omega)
    have hl := swF_length F k
    show st (if swOk F k then _ else _ : List Int) j = _
    by_cases hok : swOk F k
    · rw [if_pos hok, st_rel _ _ _ (by omega), ih]
      by_cases hj : k = j
      · subst hj
        rw [if_pos rfl, if_pos ⟨by omega, hok⟩]
      · rw [if_neg hj]
        by_cases h1 : j < k ∧ swOk F j
        · rw [if_pos h1, if_pos ⟨by omega, h1.2⟩]
        · rw [if_neg h1, if_neg fun e => h1 ⟨by omega, e.2⟩]
    · rw [if_neg hok, ih]
      by_cases h1 : j < k ∧ swOk F j
      · rw [if_pos h1, if_pos ⟨by omega, h1.2⟩]
      · rw [if_neg h1, if_neg fun e => h1 ⟨by
          rcases Nat.lt_or_ge j k with q | q
          · exact q
          · obtain rfl : j = k := by omega
            exact absurd e.2 hok, e.2⟩]
theorem swL_mem (F : List Int) (x : Int) : ∀ k, x ∈ swL F k ↔ ∃ j, j < k ∧ x = (j : Int) ∧ swOk F j
  | 0 => ⟨fun h => absurd h (by simp [swL]), fun ⟨j, h, _⟩ => by omega⟩
  | k + 1 => by
    have ih := swL_mem F x k
    show x ∈ (if swOk F k then _ else _ : List Int) ↔ _
    split
    · next hok =>
      rw [List.mem_append, ih]
      constructor
      · rintro (⟨j, h1, h2, h3⟩ | h)
        · exact ⟨j, by omega, h2, h3⟩
        · exact ⟨k, by omega, by simpa using h, hok⟩
      · rintro ⟨j, h1, h2, h3⟩
        rcases Nat.lt_or_ge j k with q | q
        · exact .inl ⟨j, q, h2, h3⟩
        · obtain rfl : j = k := by omega
          exact .inr (by simp [h2])
    · next hok =>
      rw [ih]
      constructor
      · rintro ⟨j, h1, h2, h3⟩
        exact ⟨j, by omega, h2, h3⟩
      · rintro ⟨j, h1, h2, h3⟩
        rcases Nat.lt_or_ge j k with q | q
        · exact ⟨j, q, h2, h3⟩
        · obtain rfl : j = k := by omega
          exact absurd h3 hok
theorem swL_nodup (F : List Int) : ∀ k, (swL F k).Nodup
  | 0 => List.nodup_nil
  | k + 1 => by
    have ih := swL_nodup F k
    show (if swOk F k then _ else _ : List Int).Nodup
    split
    · rw [List.nodup_append]
      refine ⟨ih, by simp, fun a ha b hb e => ?_⟩
      obtain ⟨j, h1, h2, _⟩ := (swL_mem F a k).1 ha
      have : b = (k : Int) := by simpa using hb
      omega
    · exact ih
/-- The list when the first i of L have been set to 0. -/
def zeroed (out L : List Int) : Nat → List Int
  | 0 => out
  | i + 1 => (zeroed out L i).set (L.getD i 0).toNat 0
theorem zeroed_length (out L : List Int) : ∀ i, (zeroed out L i).length = out.length
  | 0 => rfl
  | i + 1 => by
    show ((zeroed out L i).set _ 0).length = _
    rw [List.length_set, zeroed_length out L i]
theorem zeroed_at (out L : List Int) (j : Nat) : ∀ i, (∀ q, q < i → 0 ≤ L.getD q 0 ∧ (L.getD q 0).toNat < out.length) → (zeroed out L i).getD j 0 = out.getD j 0 ∧ (∀ q, q < i → L.getD q 0 ≠ (j : Int)) ∨ (zeroed out L i).getD j 0 = 0 ∧ ∃ q, q < i ∧ L.getD q 0 = (j : Int)
  | 0, _ => .inl ⟨rfl, fun q h => absurd h (by omega)⟩
  | i + 1, h => by
    have ih := zeroed_at out L j i fun q hq => h q (by omega)
    have hi := h i (by omega)
    show ((zeroed out L i).set _ 0).getD j 0 = _ ∧ _ ∨ ((zeroed out L i).set _ 0).getD j 0 = _ ∧ _
    rw [getD_set _ _ _ _ (by rw [zeroed_length]; exact hi.2)]
    by_cases e : (L.getD i 0).toNat = j
    · rw [if_pos e]
      exact .inr ⟨rfl, i, by omega, by omega⟩
    · rw [if_neg e]
      rcases ih with ⟨a, b⟩ | ⟨a, q, b, c⟩
      · refine .inl ⟨a, fun q hq => ?_⟩
        rcases Nat.lt_or_ge q i with z | z
        · exact b q z
        · obtain rfl : q = i := by omega
          omega
      · exact .inr ⟨a, q, by omega, c⟩
theorem swL_at (F : List Int) (n i : Nat) (hi : i < (swL F n).length) : ∃ j, j < n ∧ (swL F n).getD i 0 = (j : Int) ∧ swOk F j := by
  have h : (swL F n).getD i 0 ∈ swL F n := by
    rw [List.getD_eq_getElem?_getD, List.getElem?_eq_getElem hi]
    exact List.getElem_mem hi
  exact (swL_mem F _ n).1 h
theorem swL_ne (F : List Int) (n i q : Nat) (hi : i < (swL F n).length) (hq : q < i) : (swL F n).getD q 0 ≠ (swL F n).getD i 0 := by
  have h := List.pairwise_iff_getElem.1 (swL_nodup F n) q i (by omega) hi hq
  rw [List.getD_eq_getElem?_getD, List.getD_eq_getElem?_getD, List.getElem?_eq_getElem hi, List.getElem?_eq_getElem (by omega)]
  exact h
/-- What the loop behind a Sweep finds at its i-th number. -/
theorem OInv.found {F out : List Int} {n : Nat} {last : Int} (h : OInv F out n last) (i : Nat) (hi : i < (swL F n).length) :
    ∃ s, s < n ∧ (swL F n).getD i 0 = (s : Int) ∧ (s : Int) ≠ last ∧ (zeroed out (swL F n) i).getD s 0 = 1 := by
  obtain ⟨s, hs, e, hok⟩ := swL_at F n i hi
  have ho := h.olen
  have h1 : st F s = 1 := hok.1
  refine ⟨s, hs, e, fun q => ?_, ?_⟩
  · rcases h.one with ⟨a, _⟩ | ⟨t, _, a, b, _⟩
    · omega
    · obtain rfl : s = t := by omega
      omega
  · rcases zeroed_at out (swL F n) s i (fun q hq => by
      obtain ⟨t, ht, et, _⟩ := swL_at F n q (by omega)
      rw [et]
      exact ⟨by omega, by simp; omega⟩) with ⟨a, _⟩ | ⟨_, q, hq, eq⟩
    · rw [a]
      rcases h.outs s hs with ⟨_, b⟩ | ⟨b, _⟩
      · omega
      · exact b
    · exact absurd (eq.trans e.symm) (swL_ne F n i q hi hq)
theorem OInv.sweep {F out : List Int} {n : Nat} {last : Int} (h : OInv F out n last) : OInv (swF F n) (zeroed out (swL F n) (swL F n).length) n last := by
  have hl := h.flen
  have ho := h.olen
  have e : ∀ j, j < n → st (swF F n) j = if swOk F j then 0 else st F j := fun j hj => by
    rw [swF_st F j n (by omega)]
    by_cases q : swOk F j
    · rw [if_pos q, if_pos ⟨hj, q⟩]
    · rw [if_neg q, if_neg fun z => q z.2]
  refine ⟨by rw [swF_length]; exact hl, by rw [zeroed_length]; exact ho, one_same h.one fun j hj => ?_, fun j hj => ?_⟩
  · rw [e j hj]
    split
    · next q =>
      have : st F j = 1 := q.1
      omega
    · exact Iff.rfl
  · rw [e j hj]
    rcases zeroed_at out (swL F n) j (swL F n).length (fun q hq => by
      obtain ⟨t, ht, et, _⟩ := swL_at F n q hq
      rw [et]
      exact ⟨by omega, by simp; omega⟩) with ⟨a, b⟩ | ⟨a, q, hq, b⟩
    · rw [a, if_neg fun hok => ?_]
      · exact h.outs j hj
      · obtain ⟨q, hq, z⟩ := List.mem_iff_getElem.1 ((swL_mem F (j : Int) n).2 ⟨j, hj, rfl, hok⟩)
        refine b q hq ?_
        rw [List.getD_eq_getElem?_getD, List.getElem?_eq_getElem hq]
        exact z
    · obtain ⟨t, ht, et, hok⟩ := swL_at F n q hq
      obtain rfl : t = j := by omega
      rw [a, if_pos hok]
      exact .inl ⟨rfl, rfl⟩
end Go.Proofs.Ytfilbbiiiaodiaa
