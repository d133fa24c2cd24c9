/-
  Going down makes the order of a heap.
-/
import Derived.Test.YtblpfgjjiihjoaaPkHeapDn
namespace Go.Proofs.Ytblpfgjjiihjoaa
open Go.RowKit
section
variable {n i k m : Nat} {h h0 h' : Nat → Rk}
/-- From place lo on no child is ahead of its parent. -/
def Hq (n lo : Nat) (h : Nat → Rk) : Prop := ∀ p c, lo ≤ p → (c = 2 * p + 1 ∨ c = 2 * p + 1 + 1) → c < n → lessB (h c) (h p) = false
structure Hole (n lo : Nat) (h : Nat → Rk) (k : Nat) : Prop where
  le : lo ≤ k
  rest : ∀ p c, lo ≤ p → p ≠ k → (c = 2 * p + 1 ∨ c = 2 * p + 1 + 1) → c < n → lessB (h c) (h p) = false
  grand : ∀ p c, lo ≤ p → (k = 2 * p + 1 ∨ k = 2 * p + 1 + 1) → (c = 2 * k + 1 ∨ c = 2 * k + 1 + 1) → c < n → lessB (h c) (h p) = false
theorem kid_best (c : Nat) (hlt : 2 * k + 1 < n) (hc : c = 2 * k + 1 ∨ c = 2 * k + 1 + 1) (hn : c < n) : lessB (h c) (h (kid h n k)) = false := by
  unfold kid
  split
  · rename_i q
    rcases hc with rfl | rfl
    · exact less_asym q.2
    · exact less_self _
  · rename_i q
    rcases hc with rfl | rfl
    · exact less_self _
    · cases e : lessB (h (2 * k + 1 + 1)) (h (2 * k + 1)) with
      | false => rfl
      | true => exact absurd ⟨hn, e⟩ q
theorem Dn.hole (hD : Dn n h0 i h' k) (hq : Hq n (i + 1) h0) : Hole n i h' k := by
  induction hD with
  | here => exact ⟨Nat.le_refl _, fun p c hp hne hc hn => hq p c (by omega) hc hn, fun p c hp hk => by omega⟩
  | @step h1 k1 hD hlt hl ih =>
    obtain ⟨q1, q2⟩ := kid_lt (h := h1) hlt
    have hb := fun c => kid_best (h := h1) c hlt
    generalize kid h1 n k1 = q at *
    obtain ⟨le, rest, grand⟩ := ih
    refine ⟨by omega, fun p c hp hne hc hn => ?_, fun p c hp hk hc hn => ?_⟩
    · show lessB (swp h1 k1 q c) (swp h1 k1 q p) = false
      rw [swp_at, swp_at, if_neg hne]
      by_cases pk : p = k1
      · rw [if_pos pk]
        subst pk
        by_cases cq : c = q
        · rw [if_pos cq]; exact less_asym hl
        · rw [if_neg cq, if_neg (by omega)]
          exact hb c hc hn
      · rw [if_neg pk, if_neg (show ¬ c = q by omega)]
        by_cases ck : c = k1
        · rw [if_pos ck]
          exact grand p q hp (by omega) q2 q1
        · rw [if_neg ck]
          exact rest p c hp pk hc hn
    · show lessB (swp h1 k1 q c) (swp h1 k1 q p) = false
      have pk : p = k1 := by omega
      rw [swp_at, swp_at, if_neg (by omega), if_neg (by omega), if_neg (by omega), if_pos pk]
      exact rest q c (by omega) (by omega) hc hn
theorem Dn.heap (hD : Dn n h0 i h' k) (hS : Still n h' k) (hq : Hq n (i + 1) h0) (good : ∀ j, j < n → GoodC (h' j).c) : Hq n i h' := by
  obtain ⟨le, rest, grand⟩ := hD.hole hq
  intro p c hp hc hn
  by_cases e : p = k
  · subst e
    have hlt : 2 * p + 1 < n := by omega
    obtain ⟨q1, q2⟩ := kid_lt (h := h') hlt
    exact less_neg (good p (by omega)) (good _ q1) (good c hn) (hS hlt) (kid_best c hlt hc hn)
  · exact rest p c hp e hc hn
/-- The top is behind no one. -/
theorem Hq.top (hq : Hq n 0 h) (good : ∀ j, j < n → GoodC (h j).c) : ∀ j, j < n → lessB (h j) (h 0) = false := by
  intro j
  induction j using Nat.strongRecOn with
  | ind j ih =>
    intro hj
    by_cases e : j = 0
    · subst e; exact less_self _
    · have hp : (j - 1) / 2 < j := by omega
      exact less_neg (good 0 (by omega)) (good _ (by omega)) (good j hj) (ih _ hp (by omega)) (hq ((j - 1) / 2) j (Nat.zero_le _) (by omega) hj)
end
end Go.Proofs.Ytblpfgjjiihjoaa
