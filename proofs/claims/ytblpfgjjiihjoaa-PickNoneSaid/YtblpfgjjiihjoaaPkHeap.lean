/-
  Who is ahead is an order; the heap in numbers.
-/
import Derived.Test.YtblpfgjjiihjoaaPkInit
namespace Go.Proofs.Ytblpfgjjiihjoaa
open Go.RowKit
/-- Not being worse goes through. -/
theorem bet_neg {c d e : Cd} (hc : GoodC c) (hd : GoodC d) (he : GoodC e) (h1 : betB d c = false) (h2 : betB e d = false) : betB e c = false := by
  have pc := (prod_bd hc hc).1.1
  have pd := (prod_bd hd hd).1.1
  have pe := (prod_bd he he).1.1
  have sc : 0 < c.cap + c.live := by unfold GoodC at hc; omega
  have sd : 0 < d.cap + d.live := by unfold GoodC at hd; omega
  have se : 0 < e.cap + e.live := by unfold GoodC at he; omega
  unfold betB prodC at *
  generalize (c.cap - c.live) * c.age = a at *
  generalize (d.cap - d.live) * d.age = b at *
  generalize (e.cap - e.live) * e.age = f at *
  generalize c.cap + c.live = x at *
  generalize d.cap + d.live = y at *
  generalize e.cap + e.live = z at *
  by_cases q1 : b * x = a * y
  · rw [if_pos q1] at h1
    by_cases q2 : f * y = b * z
    · rw [if_pos q2] at h2
      have l1 := le_cross pc pd pe sc sd se (show b * x ≤ a * y by omega) (show f * y ≤ b * z by omega)
      have l2 := le_cross pe pd pc se sd sc (show b * z ≤ f * y by omega) (show a * y ≤ b * x by omega)
      rw [if_pos (show f * x = a * z by omega)]
      by_cases r1 : d.live = c.live
      · rw [if_pos r1] at h1
        by_cases r2 : e.live = d.live
        · rw [if_pos r2] at h2
          rw [if_pos (r2.trans r1)]
          simp at h1 h2 ⊢
          omega
        · rw [if_neg r2] at h2
          simp at h2
          rw [if_neg (by omega)]
          simp
          omega
      · rw [if_neg r1] at h1
        simp at h1
        by_cases r2 : e.live = d.live
        · rw [if_neg (by omega)]
          simp
          omega
        · rw [if_neg r2] at h2
          simp at h2
          rw [if_neg (by omega)]
          simp
          omega
    · rw [if_neg q2] at h2
      simp at h2
      have l1 := lt_cross' pc pd pe sc sd se (show b * x ≤ a * y by omega) (show f * y < b * z by omega)
      rw [if_neg (by omega)]
      simp
      omega
  · rw [if_neg q1] at h1
    simp at h1
    have l0 : f * y ≤ b * z := by
      by_cases q2 : f * y = b * z
      · omega
      · rw [if_neg q2] at h2
        simp at h2
        omega
    have l1 := lt_cross pc pd pe sc sd se (show b * x < a * y by omega) l0
    rw [if_neg (by omega)]
    simp
    omega
theorem less_iff (a b : Rk) : lessB a b = true ↔ betB a.c b.c = true ∨ (betB b.c a.c = false ∧ a.at_ < b.at_) := by
  unfold lessB
  cases betB a.c b.c <;> cases betB b.c a.c <;> simp
theorem less_not (a b : Rk) : lessB a b = false ↔ betB a.c b.c = false ∧ (betB b.c a.c = true ∨ b.at_ ≤ a.at_) := by
  unfold lessB
  cases betB a.c b.c <;> cases betB b.c a.c <;> simp
theorem less_asym {a b : Rk} (h : lessB a b = true) : lessB b a = false := by
  rw [less_not]
  rcases (less_iff a b).1 h with q | ⟨q, p⟩
  · exact ⟨bet_asym _ _ q, .inl q⟩
  · exact ⟨q, .inr (by omega)⟩
theorem less_self (a : Rk) : lessB a a = false := by
  rw [less_not]; exact ⟨bet_self _, .inr (Int.le_refl _)⟩
/-- Not being behind goes through. -/
theorem less_neg {a b c : Rk} (ha : GoodC a.c) (hb : GoodC b.c) (hc : GoodC c.c) (h1 : lessB b a = false) (h2 : lessB c b = false) : lessB c a = false := by
  rw [less_not] at *
  refine ⟨bet_neg ha hb hc h1.1 h2.1, ?_⟩
  rcases h1.2 with q | q
  · left
    cases hac : betB a.c c.c with
    | true => rfl
    | false => exact absurd (bet_neg hb hc ha h2.1 hac) (by rw [q]; simp)
  · rcases h2.2 with p | p
    · left
      cases hac : betB a.c c.c with
      | true => rfl
      | false => exact absurd (bet_neg hc ha hb hac h1.1) (by rw [p]; simp)
    · right; omega
/-- Of two that are not ahead of each other the places are one. -/
theorem less_tie {a b : Rk} (h1 : lessB a b = false) (h2 : lessB b a = false) : a.at_ = b.at_ := by
  rw [less_not] at h1 h2
  rcases h1.2 with q | q
  · exact absurd q (by rw [h2.1]; simp)
  · rcases h2.2 with p | p
    · exact absurd p (by rw [h1.1]; simp)
    · omega
end Go.Proofs.Ytblpfgjjiihjoaa
