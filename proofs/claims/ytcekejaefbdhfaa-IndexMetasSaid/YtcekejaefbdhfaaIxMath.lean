/-
  What holds of all blocks of a file: their parents, what they cover, their paths. All are tried by the kernel, one by one.
-/
import Derived.Test.YtcekejaefbdhfaaIxParent
import Derived.KernelRfl
namespace Go.Proofs.Ytcekejaefbdhfaa
open Go.RowKit

theorem isB_range (n : Int) (h : isB n = true) : -700 ≤ n ∧ n < 600 := by
  have h1 := fOf_bd n h
  by_cases h0 : 0 ≤ n
  · unfold isB at h; simp [h0] at h; omega
  · have e : fOf n = -n ∨ fOf n = -n - 1 ∨ fOf n = -n - 2 := by
      unfold fOf
      simp only [h0, if_false]
      split
      · exact .inl rfl
      · split
        · exact .inr (.inl rfl)
        · exact .inr (.inr rfl)
    omega
/-- What is true of all blocks that a program tries. -/
theorem of_all (P : Int → Bool) (h : ((List.range 1300).all fun i => !isB ((i : Int) - 700) || P ((i : Int) - 700)) = true) (n : Int) (hn : isB n = true) : P n = true := by
  have hr := isB_range n hn
  have h1 := List.all_eq_true.1 h (n + 700).toNat (List.mem_range.2 (by omega))
  rw [show (((n + 700).toNat : Int) - 700) = n by omega] at h1
  rw [hn] at h1
  simpa using h1
def roots : List Int := [0, 1, 2, 3, 4, 5, 6, 22, 278]
def gX (p i : Int) : Int := if p = 600 then roots.getD i.toNat 0 else fOf p + i * spanM (lvOf p - 1)
def chkPar (n : Int) : Bool :=
  let p := parM (fOf n) (lvOf n)
  let i := slotM (fOf n) (lvOf n)
  let x := fOf n
  decide (0 ≤ i ∧ i ≤ 15) && decide (x = gX p i) && decide (lvOf n = if p = 600 then rLev x else lvOf p - 1) && decide (numM x (lvOf n) = n) && decide (-700 < p ∧ p ≤ 600) && decide (1 ≤ manyM x (lvOf n)) &&
    (decide (p = 600 ∧ i ≤ 8) || (isB p && decide (p ≠ 600) && decide (1 ≤ lvOf p) && decide (fOf p ≤ x ∧ x + manyM x (lvOf n) ≤ fOf p + manyM (fOf p) (lvOf p))))
theorem chkPar_all : ((List.range 1300).all fun i => !isB ((i : Int) - 700) || chkPar ((i : Int) - 700)) = true := by kernel_rfl
/-- What is true of each block. -/
structure Facts (n p i x lv many : Int) : Prop where
  i0 : 0 ≤ i
  i15 : i ≤ 15
  gx : x = gX p i
  glv : lv = if p = 600 then rLev x else lvOf p - 1
  gn : numM x lv = n
  p0 : -700 < p
  p6 : p ≤ 600
  m1 : 1 ≤ many
  par : (p = 600 ∧ i ≤ 8) ∨ (isB p = true ∧ p ≠ 600 ∧ 1 ≤ lvOf p ∧ fOf p ≤ x ∧ x + many ≤ fOf p + manyM (fOf p) (lvOf p))
theorem facts (n : Int) (h : isB n = true) : Facts n (parM (fOf n) (lvOf n)) (slotM (fOf n) (lvOf n)) (fOf n) (lvOf n) (manyM (fOf n) (lvOf n)) := by
  have hc := of_all chkPar chkPar_all n h
  simp only [chkPar, Bool.and_eq_true, Bool.or_eq_true, decide_eq_true_eq] at hc
  obtain ⟨⟨⟨⟨⟨⟨h1, h2⟩, h3⟩, h4⟩, h5⟩, h6⟩, h7⟩ := hc
  refine ⟨h1.1, h1.2, h2, h3, h4, h5.1, h5.2, h6, ?_⟩
  rcases h7 with h7 | h7
  · exact .inl h7
  · exact .inr ⟨h7.1.1.1, h7.1.1.2, h7.1.2, h7.2⟩
theorem roots_mono : ∀ i j : Fin 9, (roots.getD i 0 < roots.getD j 0 ↔ i < j) := by decide
theorem falls_facts (a b p i j x y la lb ma mb : Int) (ha : Facts a p i x la ma) (hb : Facts b p j y lb mb) : (i < j ↔ x < y) ∧ (i = j ↔ a = b) := by
  have hlt : ∀ i j : Int, 0 ≤ i → 0 ≤ j → (p = 600 → i ≤ 8 ∧ j ≤ 8) → (gX p i < gX p j ↔ i < j) := by
    intro i j h1 h2 h3
    unfold gX
    by_cases hp : p = 600
    · rw [if_pos hp, if_pos hp]
      obtain ⟨h4, h5⟩ := h3 hp
      have := roots_mono ⟨i.toNat, by omega⟩ ⟨j.toNat, by omega⟩
      simp only [Fin.mk_lt_mk] at this
      rw [this]; omega
    · rw [if_neg hp, if_neg hp]
      have hs := spanM_bd (lvOf p - 1)
      constructor
      · intro h
        apply Int.not_le.1
        intro hle
        have := Int.mul_le_mul_of_nonneg_right hle (show 0 ≤ spanM (lvOf p - 1) by omega)
        omega
      · intro h
        have := Int.mul_lt_mul_of_pos_right h (show 0 < spanM (lvOf p - 1) by omega)
        omega
  have hk : p = 600 → i ≤ 8 ∧ j ≤ 8 := by
    intro hp
    refine ⟨?_, ?_⟩
    · rcases ha.par with h | h
      · exact h.2
      · exact absurd hp h.2.1
    · rcases hb.par with h | h
      · exact h.2
      · exact absurd hp h.2.1
  have h1 := hlt i j ha.i0 hb.i0 hk
  have h2 := hlt j i hb.i0 ha.i0 (fun e => ⟨(hk e).2, (hk e).1⟩)
  rw [← ha.gx, ← hb.gx] at h1
  rw [← ha.gx, ← hb.gx] at h2
  refine ⟨h1.symm, ?_, ?_⟩
  · rintro rfl
    have hx : x = y := ha.gx.trans hb.gx.symm
    subst hx
    have hl : la = lb := ha.glv.trans hb.glv.symm
    rw [← ha.gn, ← hb.gn, hl]
  · rintro rfl
    have hlx : x = y ∧ la = lb ∨ True := .inr trivial
    have hxy : ¬ x < y ∧ ¬ y < x := by
      have e1 := ha.gn
      have e2 := hb.gn
      have e3 := ha.glv
      have e4 := hb.glv
      by_cases hp : p = 600
      · rw [if_pos hp] at e3 e4
        have r1 := rLev_bd x
        have r2 := rLev_bd y
        rw [e3] at e1
        rw [e4] at e2
        unfold numM at e1 e2
        by_cases q1 : rLev x = 0 <;> by_cases q2 : rLev y = 0
        · rw [if_pos q1] at e1; rw [if_pos q2] at e2; omega
        · rw [if_pos q1] at e1; rw [if_neg q2] at e2
          have : 0 ≤ x := by
            have := ha.gx; rw [this]; unfold gX; rw [if_pos hp]
            have := (hk hp).1
            have := ha.i0
            rcases (show i = 0 ∨ i = 1 ∨ i = 2 ∨ i = 3 ∨ i = 4 ∨ i = 5 ∨ i = 6 ∨ i = 7 ∨ i = 8 by omega) with rfl | rfl | rfl | rfl | rfl | rfl | rfl | rfl | rfl <;> decide
          have : 0 < y := by
            have := rLev_bd y
            unfold rLev at q2
            by_cases hy : y < 6
            · rw [if_pos hy] at q2; exact absurd rfl q2
            · omega
          omega
        · rw [if_neg q1] at e1; rw [if_pos q2] at e2
          have : 0 ≤ y := by
            have := hb.gx; rw [this]; unfold gX; rw [if_pos hp]
            have := (hk hp).2
            have := hb.i0
            rcases (show j = 0 ∨ j = 1 ∨ j = 2 ∨ j = 3 ∨ j = 4 ∨ j = 5 ∨ j = 6 ∨ j = 7 ∨ j = 8 by omega) with rfl | rfl | rfl | rfl | rfl | rfl | rfl | rfl | rfl <;> decide
          have : 0 < x := by
            unfold rLev at q1
            by_cases hx : x < 6
            · rw [if_pos hx] at q1; exact absurd rfl q1
            · omega
          omega
        · rw [if_neg q1] at e1; rw [if_neg q2] at e2
          have h3 : rLev x = rLev y ∨ rLev x ≠ rLev y := by omega
          have hx6 : ¬ x < 6 := by intro h; unfold rLev at q1; rw [if_pos h] at q1; exact q1 rfl
          have hy6 : ¬ y < 6 := by intro h; unfold rLev at q2; rw [if_pos h] at q2; exact q2 rfl
          unfold rLev at e1 e2
          rw [if_neg hx6] at e1
          rw [if_neg hy6] at e2
          have v1 : x = 6 ∨ x = 22 ∨ x = 278 := by
            have g := ha.gx
            unfold gX at g
            rw [if_pos hp] at g
            have := (hk hp).1
            have := ha.i0
            rcases (show i = 0 ∨ i = 1 ∨ i = 2 ∨ i = 3 ∨ i = 4 ∨ i = 5 ∨ i = 6 ∨ i = 7 ∨ i = 8 by omega) with rfl | rfl | rfl | rfl | rfl | rfl | rfl | rfl | rfl <;> simp [roots] at g <;> omega
          have v2 : y = 6 ∨ y = 22 ∨ y = 278 := by
            have g := hb.gx
            unfold gX at g
            rw [if_pos hp] at g
            have := (hk hp).2
            have := hb.i0
            rcases (show j = 0 ∨ j = 1 ∨ j = 2 ∨ j = 3 ∨ j = 4 ∨ j = 5 ∨ j = 6 ∨ j = 7 ∨ j = 8 by omega) with rfl | rfl | rfl | rfl | rfl | rfl | rfl | rfl | rfl <;> simp [roots] at g <;> omega
          rcases v1 with rfl | rfl | rfl <;> rcases v2 with rfl | rfl | rfl <;> simp at e1 e2 <;> omega
      · rw [if_neg hp] at e3 e4
        have hl : la = lb := e3.trans e4.symm
        rw [hl] at e1
        have := e1.trans e2.symm
        unfold numM at this
        split at this <;> omega
    have q1 := mt h1.2 hxy.1
    have q2 := mt h2.2 hxy.2
    omega
end Go.Proofs.Ytcekejaefbdhfaa
