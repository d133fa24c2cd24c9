/-
  A heap in numbers: up, down.
-/
import Derived.Test.YtdnkeplmjimjcaaMem
namespace Go.Proofs.Ytdnkeplmjimjcaa
open Go.RowKit

/-- The value of two places exchanged. -/
def sw {α : Type} (v : Nat → α) (i j : Nat) : Nat → α := fun k => if k = i then v j else if k = j then v i else v k
theorem sw_l {α : Type} (v : Nat → α) (i j : Nat) : sw v i j i = v j := if_pos rfl
theorem sw_r {α : Type} (v : Nat → α) (i j : Nat) : sw v i j j = v i := by
  unfold sw
  by_cases e : j = i
  · rw [if_pos e, e]
  · rw [if_neg e, if_pos rfl]
theorem sw_ne {α : Type} (v : Nat → α) {i j k : Nat} (h1 : k ≠ i) (h2 : k ≠ j) : sw v i j k = v k := by
  unfold sw
  rw [if_neg h1, if_neg h2]
theorem sw_comp {α β : Type} (f : α → β) (v : Nat → α) (i j k : Nat) : f (sw v i j k) = sw (fun q => f (v q)) i j k := by
  unfold sw
  split
  · rfl
  · split <;> rfl
def Hq (m : Nat) (v : Nat → Int) : Prop := ∀ j, 0 < j → j < m → v ((j - 1) / 2) ≤ v j
/-- A heap but for place i, whose value may be too great. -/
def Hx (m : Nat) (v : Nat → Int) (i : Nat) : Prop := (∀ j, 0 < j → j < m → j ≠ i → (j - 1) / 2 ≠ i → v ((j - 1) / 2) ≤ v j) ∧ (∀ j, 0 < j → j < m → (j - 1) / 2 = i → 0 < i → v ((i - 1) / 2) ≤ v j)
/-- A heap but for place i, whose value may be too small. -/
def Hu (m : Nat) (v : Nat → Int) (i : Nat) : Prop := (∀ j, 0 < j → j < m → j ≠ i → v ((j - 1) / 2) ≤ v j) ∧ (∀ j, 0 < j → j < m → (j - 1) / 2 = i → 0 < i → v ((i - 1) / 2) ≤ v j)
section
variable {m i k : Nat} {v v' : Nat → Int}
theorem Hq.x (h : Hq m v) (hv : ∀ j, j ≠ i → j < m → v' j = v j) : Hx m v' i := by
  refine ⟨fun j h0 h1 h2 h3 => ?_, fun j h0 h1 h2 h3 => ?_⟩
  · rw [hv j h2 h1, hv _ h3 (by omega)]; exact h j h0 h1
  · rw [hv j (by omega) h1, hv _ (by omega) (by omega)]
    have a := h j h0 h1
    rw [h2] at a
    have b := h i h3 (by omega)
    omega
theorem Hx.down (h : Hx m v i) (hk : (k - 1) / 2 = i) (h0 : 0 < k) (hm : k < m) (hl : v k ≤ v i) (hmin : ∀ j, 0 < j → j < m → (j - 1) / 2 = i → v k ≤ v j) : Hx m (sw v i k) k := by
  refine ⟨fun j j0 j1 j2 j3 => ?_, fun j j0 j1 j2 j3 => ?_⟩
  · by_cases e : j = i
    · subst e
      rw [sw_l, sw_ne v (by omega) j3]
      exact h.2 k h0 hm hk j0
    · rw [sw_ne v e j2]
      by_cases e2 : (j - 1) / 2 = i
      · rw [e2, sw_l]; exact hmin j j0 j1 e2
      · rw [sw_ne v e2 j3]; exact h.1 j j0 j1 e e2
  · rw [hk, sw_l, sw_ne v (by omega) (by omega)]
    have := h.1 j j0 j1 (by omega) (by omega)
    rw [j2] at this
    exact this
theorem Hx.u (h : Hx m v i) (hc : ∀ j, 0 < j → j < m → (j - 1) / 2 = i → v i ≤ v j) : Hu m v i := by
  refine ⟨fun j h0 h1 h2 => ?_, h.2⟩
  by_cases e : (j - 1) / 2 = i
  · rw [e]; exact hc j h0 h1 e
  · exact h.1 j h0 h1 h2 e
theorem Hu.q (h : Hu m v i) (hp : 0 < i → v ((i - 1) / 2) ≤ v i) : Hq m v := fun j h0 h1 => by
  by_cases e : j = i
  · subst e; exact hp h0
  · exact h.1 j h0 h1 e
theorem Hq.u (h : Hq m v) (i : Nat) : Hu m v i := by
  refine ⟨fun j h0 h1 _ => h j h0 h1, fun j h0 h1 h2 h3 => ?_⟩
  have a := h j h0 h1
  rw [h2] at a
  have b := h i h3 (by omega)
  omega
theorem Hu.up (h : Hu m v i) (h0 : 0 < i) (hm : i < m) (hl : v i ≤ v ((i - 1) / 2)) : Hu m (sw v ((i - 1) / 2) i) ((i - 1) / 2) := by
  have hpi : (i - 1) / 2 < i := by omega
  obtain ⟨p, hp⟩ : ∃ p, (i - 1) / 2 = p := ⟨_, rfl⟩
  rw [hp] at hl hpi ⊢
  refine ⟨fun j j0 j1 j2 => ?_, fun j j0 j1 j2 j3 => ?_⟩
  · by_cases e : j = i
    · subst e
      rw [hp, sw_l, sw_r]; exact hl
    · rw [sw_ne v j2 e]
      by_cases e2 : (j - 1) / 2 = p
      · rw [e2, sw_l]
        have := h.1 j j0 j1 e
        rw [e2] at this
        omega
      · by_cases e3 : (j - 1) / 2 = i
        · rw [e3, sw_r]
          have := h.2 j j0 j1 e3 h0
          rw [hp] at this
          exact this
        · rw [sw_ne v e2 e3]; exact h.1 j j0 j1 e
  · rw [sw_ne v (by omega) (by omega)]
    have hpp := h.1 p j3 (by omega) (by omega)
    by_cases e : j = i
    · subst e; rw [sw_r]; exact hpp
    · rw [sw_ne v (by omega) e]
      have := h.1 j j0 j1 e
      rw [j2] at this
      omega
/-- A new last one. -/
theorem Hq.last (h : Hq m v) (hv : ∀ j, j < m → v' j = v j) : Hu (m + 1) v' m := by
  refine ⟨fun j h0 h1 h2 => ?_, fun j h0 h1 h2 h3 => by omega⟩
  rw [hv j (by omega), hv _ (by omega)]
  exact h j h0 (by omega)
theorem Hq.mono {n : Nat} (h : Hq m v) (hn : n ≤ m) : Hq n v := fun j h0 h1 => h j h0 (by omega)
theorem Hq.top (h : Hq m v) : ∀ j, j < m → v 0 ≤ v j := by
  intro j
  induction j using Nat.strongRecOn with
  | _ j ih =>
    intro hj
    by_cases e : j = 0
    · subst e; exact Int.le_refl _
    · have a := ih ((j - 1) / 2) (by omega) (by omega)
      have b := h j (by omega) hj
      omega
end
end Go.Proofs.Ytdnkeplmjimjcaa
