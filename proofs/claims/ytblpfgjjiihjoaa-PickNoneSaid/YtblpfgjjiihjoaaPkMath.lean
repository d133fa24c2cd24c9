/-
  Candidates in numbers alone: who is better.
-/
import Derived.Test.YtblpfgjjiihjoaaMem
namespace Go.Proofs.Ytblpfgjjiihjoaa
open Go.RowKit

structure Cd where
  seg : Int
  live : Int
  cap : Int
  age : Int
def GoodC (c : Cd) : Prop := 1 ≤ c.cap ∧ c.cap ≤ 64 ∧ 0 ≤ c.live ∧ c.live ≤ c.cap ∧ 0 ≤ c.age ∧ c.age ≤ 2147483648
def prodC (c d : Cd) : Int := (c.cap - c.live) * c.age * (d.cap + d.live)
def betB (c d : Cd) : Bool := if prodC c d = prodC d c then (if c.live = d.live then decide (c.seg < d.seg) else decide (c.live < d.live)) else decide (prodC d c < prodC c d)
theorem mul_bd {a b x y : Int} (h1 : 0 ≤ a) (h2 : a ≤ x) (h3 : 0 ≤ b) (h4 : b ≤ y) : 0 ≤ a * b ∧ a * b ≤ x * y :=
  ⟨Int.mul_nonneg h1 h3, Int.mul_le_mul h2 h4 h3 (by omega)⟩
theorem prod_bd {c d : Cd} (hc : GoodC c) (hd : GoodC d) : (0 ≤ (c.cap - c.live) * c.age ∧ (c.cap - c.live) * c.age ≤ 137438953472) ∧ 0 ≤ prodC c d ∧ prodC c d ≤ 17592186044416 := by
  obtain ⟨a1, a2, a3, a4, a5, a6⟩ := hc
  obtain ⟨b1, b2, b3, b4, b5, b6⟩ := hd
  have h := mul_bd (a := c.cap - c.live) (b := c.age) (x := 64) (y := 2147483648) (by omega) (by omega) a5 a6
  have h' : 0 ≤ (c.cap - c.live) * c.age ∧ (c.cap - c.live) * c.age ≤ 137438953472 := ⟨h.1, by omega⟩
  have k := mul_bd (a := (c.cap - c.live) * c.age) (b := d.cap + d.live) (x := 137438953472) (y := 128) h'.1 h'.2 (by omega) (by omega)
  exact ⟨h', k.1, by unfold prodC; omega⟩
/-- Of two one at most is better. -/
theorem bet_asym (c d : Cd) (h : betB c d = true) : betB d c = false := by
  unfold betB at *
  by_cases h1 : prodC c d = prodC d c
  · rw [if_pos h1] at h
    rw [if_pos h1.symm]
    by_cases h2 : c.live = d.live
    · rw [if_pos h2] at h
      rw [if_pos h2.symm]
      simp at h ⊢
      omega
    · rw [if_neg h2] at h
      rw [if_neg (fun e => h2 e.symm)]
      simp at h ⊢
      omega
  · rw [if_neg h1] at h
    rw [if_neg (fun e => h1 e.symm)]
    simp at h ⊢
    omega
theorem bet_self (c : Cd) : betB c c = false := by
  unfold betB
  rw [if_pos rfl, if_pos rfl]
  simp
theorem le_cross {a b c x y z : Int} (ha : 0 ≤ a) (hb : 0 ≤ b) (hc : 0 ≤ c) (hx : 0 < x) (hy : 0 < y) (hz : 0 < z) (h1 : b * x ≤ a * y) (h2 : c * y ≤ b * z) : c * x ≤ a * z := by
  have e1 : c * y * x ≤ b * z * x := Int.mul_le_mul_of_nonneg_right h2 (by omega)
  have e2 : b * x * z ≤ a * y * z := Int.mul_le_mul_of_nonneg_right h1 (by omega)
  have e3 : c * x * y ≤ a * z * y := by
    rw [show c * x * y = c * y * x by rw [Int.mul_assoc, Int.mul_comm x y, ← Int.mul_assoc]]
    rw [show a * z * y = a * y * z by rw [Int.mul_assoc, Int.mul_comm z y, ← Int.mul_assoc]]
    rw [show b * z * x = b * x * z by rw [Int.mul_assoc, Int.mul_comm z x, ← Int.mul_assoc]] at e1
    omega
  exact Int.le_of_mul_le_mul_right e3 hy
theorem lt_cross {a b c x y z : Int} (ha : 0 ≤ a) (hb : 0 ≤ b) (hc : 0 ≤ c) (hx : 0 < x) (hy : 0 < y) (hz : 0 < z) (h1 : b * x < a * y) (h2 : c * y ≤ b * z) : c * x < a * z := by
  have e1 : c * y * x ≤ b * z * x := Int.mul_le_mul_of_nonneg_right h2 (by omega)
  have e2 : b * x * z < a * y * z := Int.mul_lt_mul_of_pos_right h1 hz
  have e3 : c * x * y < a * z * y := by
    rw [show c * x * y = c * y * x by rw [Int.mul_assoc, Int.mul_comm x y, ← Int.mul_assoc]]
    rw [show a * z * y = a * y * z by rw [Int.mul_assoc, Int.mul_comm z y, ← Int.mul_assoc]]
    rw [show b * z * x = b * x * z by rw [Int.mul_assoc, Int.mul_comm z x, ← Int.mul_assoc]] at e1
    omega
  exact Int.lt_of_mul_lt_mul_right e3 (by omega)
theorem lt_cross' {a b c x y z : Int} (ha : 0 ≤ a) (hb : 0 ≤ b) (hc : 0 ≤ c) (hx : 0 < x) (hy : 0 < y) (hz : 0 < z) (h1 : b * x ≤ a * y) (h2 : c * y < b * z) : c * x < a * z := by
  have e1 : c * y * x < b * z * x := Int.mul_lt_mul_of_pos_right h2 hx
  have e2 : b * x * z ≤ a * y * z := Int.mul_le_mul_of_nonneg_right h1 (by omega)
  have e3 : c * x * y < a * z * y := by
    rw [show c * x * y = c * y * x by rw [Int.mul_assoc, Int.mul_comm x y, ← Int.mul_assoc]]
    rw [show a * z * y = a * y * z by rw [Int.mul_assoc, Int.mul_comm z y, ← Int.mul_assoc]]
    rw [show b * z * x = b * x * z by rw [Int.mul_assoc, Int.mul_comm z x, ← Int.mul_assoc]] at e1
    omega
  exact Int.lt_of_mul_lt_mul_right e3 (by omega)
/-- Better goes through. -/
theorem bet_trans {c d e : Cd} (hc : GoodC c) (hd : GoodC d) (he : GoodC e) (h1 : betB c d = true) (h2 : betB d e = true) : betB c e = true := by
  have pc := (prod_bd hc hc).1.1
  have pd := (prod_bd hd hd).1.1
  have pe := (prod_bd he he).1.1
  have sc : 0 < c.cap + c.live := by unfold GoodC at hc; omega
  have sd : 0 < d.cap + d.live := by unfold GoodC at hd; omega
  have se : 0 < e.cap + e.live := by unfold GoodC at he; omega
  unfold betB prodC at *
  generalize (c.cap - c.live) * c.age = a at *
  generalize (d.cap - d.live) * d.age = b at *
  generalize (e.cap - e.live) * e.age = f at *
  generalize c.cap + c.live = x at *
  generalize d.cap + d.live = y at *
  generalize e.cap + e.live = z at *
  by_cases q1 : a * y = b * x
  · rw [if_pos q1] at h1
    by_cases q2 : b * z = f * y
    · rw [if_pos q2] at h2
      have l1 := le_cross pc pd pe sc sd se (show b * x ≤ a * y by omega) (show f * y ≤ b * z by omega)
      have l2 := le_cross pe pd pc se sd sc (show b * z ≤ f * y by omega) (show a * y ≤ b * x by omega)
      rw [if_pos (show a * z = f * x by omega)]
      by_cases r1 : c.live = d.live
      · rw [if_pos r1] at h1
        by_cases r2 : d.live = e.live
        · rw [if_pos r2] at h2
          rw [if_pos (r1.trans r2)]
          simp at h1 h2 ⊢
          omega
        · rw [if_neg r2] at h2
          simp at h2
          rw [if_neg (by omega)]
          simp
          omega
      · rw [if_neg r1] at h1
        simp at h1
        by_cases r2 : d.live = e.live
        · rw [if_neg (by omega)]
          simp
          omega
        · rw [if_neg r2] at h2
          simp at h2
          rw [if_neg (by omega)]
          simp
          omega
    · rw [if_neg q2] at h2
      simp at h2
      have l1 := lt_cross' pc pd pe sc sd se (show b * x ≤ a * y by omega) h2
      rw [if_neg (by omega)]
      simp
      exact l1
  · rw [if_neg q1] at h1
    simp at h1
    have l0 : f * y ≤ b * z := by
      by_cases q2 : b * z = f * y
      · omega
      · rw [if_neg q2] at h2
        simp at h2
        omega
    have l1 := lt_cross pc pd pe sc sd se h1 l0
    rw [if_neg (by omega)]
    simp
    exact l1
end Go.Proofs.Ytblpfgjjiihjoaa
