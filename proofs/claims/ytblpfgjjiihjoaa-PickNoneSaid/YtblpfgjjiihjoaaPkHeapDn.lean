/-
  Going down keeps what is there, and makes the order of a heap.
-/
import Derived.Test.YtblpfgjjiihjoaaPkHeap
namespace Go.Proofs.Ytblpfgjjiihjoaa
open Go.RowKit
section
variable {n i k : Nat} {h h0 h' : Nat → Rk}
/-- What stands at the first m places: the same values, each as often. -/
structure Same (m : Nat) (h h' : Nat → Rk) : Prop where
  there : ∀ i, i < m → ∃ j, j < m ∧ h' j = h i
  back : ∀ i, i < m → ∃ j, j < m ∧ h j = h' i
theorem Same.refl (m : Nat) (h : Nat → Rk) : Same m h h := ⟨fun i hi => ⟨i, hi, rfl⟩, fun i hi => ⟨i, hi, rfl⟩⟩
theorem Same.trans {m : Nat} {a b c : Nat → Rk} (h1 : Same m a b) (h2 : Same m b c) : Same m a c := by
  refine ⟨fun i hi => ?_, fun i hi => ?_⟩
  · obtain ⟨j, hj, e⟩ := h1.there i hi
    obtain ⟨l, hl, e2⟩ := h2.there j hj
    exact ⟨l, hl, e2.trans e⟩
  · obtain ⟨j, hj, e⟩ := h2.back i hi
    obtain ⟨l, hl, e2⟩ := h1.back j hj
    exact ⟨l, hl, e2.trans e⟩
theorem swp_at (h : Nat → Rk) (i j l : Nat) : swp h i j l = if l = j then h i else if l = i then h j else h l := by
  unfold swp updR
  rfl
theorem same_swp {m i j : Nat} (hi : i < m) (hj : j < m) : Same m h (swp h i j) := by
  refine ⟨fun l hl => ?_, fun l hl => ?_⟩
  · by_cases e1 : l = i
    · exact ⟨j, hj, by rw [swp_at, if_pos rfl, e1]⟩
    · by_cases e2 : l = j
      · subst e2
        exact ⟨i, hi, by rw [swp_at, if_neg (fun e => e1 e.symm), if_pos rfl]⟩
      · exact ⟨l, hl, by rw [swp_at, if_neg e2, if_neg e1]⟩
  · rw [swp_at]
    by_cases e2 : l = j
    · rw [if_pos e2]; exact ⟨i, hi, rfl⟩
    · rw [if_neg e2]
      by_cases e1 : l = i
      · rw [if_pos e1]; exact ⟨j, hj, rfl⟩
      · rw [if_neg e1]; exact ⟨l, hl, rfl⟩
def Inj (m : Nat) (h : Nat → Rk) : Prop := ∀ i j, i < m → j < m → (h i).at_ = (h j).at_ → i = j
theorem inj_swp {m i j : Nat} (hi : i < m) (hj : j < m) (hh : Inj m h) : Inj m (swp h i j) := by
  intro a b ha hb e
  rw [swp_at, swp_at] at e
  have K := fun x y (hx : x < m) (hy : y < m) (q : (h x).at_ = (h y).at_) => hh x y hx hy q
  by_cases a1 : a = j
  · rw [if_pos a1] at e
    by_cases b1 : b = j
    · omega
    · rw [if_neg b1] at e
      by_cases b2 : b = i
      · rw [if_pos b2] at e
        have := K i j hi hj e
        omega
      · rw [if_neg b2] at e
        have := K i b hi hb e
        omega
  · rw [if_neg a1] at e
    by_cases a2 : a = i
    · rw [if_pos a2] at e
      by_cases b1 : b = j
      · rw [if_pos b1] at e
        have := K j i hj hi e
        omega
      · rw [if_neg b1] at e
        by_cases b2 : b = i
        · omega
        · rw [if_neg b2] at e
          have := K j b hj hb e
          omega
    · rw [if_neg a2] at e
      by_cases b1 : b = j
      · rw [if_pos b1] at e
        have := K a i ha hi e
        omega
      · rw [if_neg b1] at e
        by_cases b2 : b = i
        · rw [if_pos b2] at e
          have := K a j ha hj e
          omega
        · rw [if_neg b2] at e
          exact K a b ha hb e
theorem kid_lt (hk : 2 * k + 1 < n) : kid h n k < n ∧ (kid h n k = 2 * k + 1 ∨ kid h n k = 2 * k + 1 + 1) := by
  unfold kid
  split
  · rename_i q; exact ⟨q.1, .inr rfl⟩
  · exact ⟨hk, .inl rfl⟩
theorem Dn.keeps (hD : Dn n h0 i h' k) (hh : Inj n h0) : Same n h0 h' ∧ Inj n h' := by
  induction hD with
  | here => exact ⟨Same.refl _ _, hh⟩
  | @step h1 k1 hD hlt hl ih =>
    obtain ⟨q, _⟩ := kid_lt (h := h1) hlt
    exact ⟨ih.1.trans (same_swp (by omega) q), inj_swp (by omega) q ih.2⟩
end
end Go.Proofs.Ytblpfgjjiihjoaa
