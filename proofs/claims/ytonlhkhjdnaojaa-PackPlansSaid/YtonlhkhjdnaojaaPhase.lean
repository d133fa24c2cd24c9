/-
  A drawn region with one new block and one append onto a row that stood before (x.l = append(x.l, T{..})): slots told by values, the world by how far these two have come.
-/
import Derived.Test.YtonlhkhjdnaojaaObjInv
namespace Go.Proofs.Ytonlhkhjdnaojaa
open Go.RowKit

structure PhI (T : List (Nat × Value)) (C : Nat → List Nat) (w0 : World) (o : Obj) (p q : Nat) (R : Value → World → Prop) (D : Nat → Bool) (X : Nat → Value) (W : World) : Prop where
  dt : DetO T D X
  cl : ∀ i, D i = true → ∀ a ∈ C i, D a = true
  at0 : D p = false → W = w0
  at1 : D p = true → D q = false → W = w0.alloc o
  at2 : D q = true → R (X q) W
section
variable {T : List (Nat × Value)} {C : Nat → List Nat} {w0 W W' : World} {o : Obj} {p q : Nat} {R : Value → World → Prop} {D : Nat → Bool} {X : Nat → Value}
theorem PhI.start : PhI T C w0 o p q R (fun _ => false) X w0 := ⟨fun _ _ h => (by cases h), fun _ h => (by cases h), fun _ => rfl, fun h => (by cases h), fun h => (by cases h)⟩
theorem PhI.cls (h : PhI T C w0 o p q R D X W) {i : Nat} (hc : ∀ a ∈ C i, D a = true) : ∀ j, updD D i j = true → ∀ a ∈ C j, updD D i a = true := fun j hj a ha => by
  rcases updD_ofO hj with e | ⟨_, e⟩
  · subst e; exact updD_upO (hc a ha)
  · exact updD_upO (h.cl j e a ha)
theorem PhI.tell (h : PhI T C w0 o p q R D X W) (i : Nat) (v : Value) (h1 : p ≠ i) (h2 : q ≠ i) (hv : ∀ x ∈ T, x.1 = i → x.2 = v) (hc : ∀ a ∈ C i, D a = true) : PhI T C w0 o p q R (updD D i) (updV X i v) W :=
  ⟨h.dt.set i v hv, h.cls hc, fun e => h.at0 (by rwa [updD_ne D i h1] at e), fun e1 e2 => h.at1 (by rwa [updD_ne D i h1] at e1) (by rwa [updD_ne D i h2] at e2), fun e => by
    rw [updV_ne X i v h2]
    exact h.at2 (by rwa [updD_ne D i h2] at e)⟩
theorem PhI.no (h : PhI T C w0 o p q R D X W) {i : Nat} (hi : i ∈ C q) (hD : D i = false) : D q = false := by
  cases hq : D q with
  | false => rfl
  | true => rw [h.cl q hq i hi] at hD; cases hD
/-- The new block. -/
theorem PhI.lay (h : PhI T C w0 o p q R D X W) (v : Value) (hD : D p = false) (hpq : p ≠ q) (hq : p ∈ C q) (hv : ∀ x ∈ T, x.1 = p → x.2 = v) (hc : ∀ a ∈ C p, D a = true) : W = w0 ∧ PhI T C w0 o p q R (updD D p) (updV X p v) (w0.alloc o) := by
  have hDq := h.no hq hD
  refine ⟨h.at0 hD, h.dt.set p v hv, h.cls hc, fun e => ?_, fun _ _ => rfl, fun e => ?_⟩
  · rw [updD_at] at e; cases e
  · rw [updD_ne D p (Ne.symm hpq), hDq] at e; cases e
/-- The append. -/
theorem PhI.app (h : PhI T C w0 o p q R D X W) (hp : D p = true) (hD : D q = false) (hpq : p ≠ q) (hT : ∀ x ∈ T, x.1 ≠ q) (hc : ∀ a ∈ C q, D a = true) : W = w0.alloc o ∧ ∀ v W', R v W' → PhI T C w0 o p q R (updD D q) (updV X q v) W' := by
  refine ⟨h.at1 hp hD, fun v W' hR => ⟨fun x hx hd => ?_, h.cls hc, fun e => ?_, fun _ e => ?_, fun _ => ?_⟩⟩
  · rw [updV_ne X q v (hT x hx)]
    rw [updD_ne D q (hT x hx)] at hd
    exact h.dt x hx hd
  · rw [updD_ne D q hpq, hp] at e; cases e
  · rw [updD_at] at e; cases e
  · rw [updV_at]; exact hR
theorem PhI.cell (h : PhI T C w0 o p q R D X W) {i : Nat} (hi : i ∈ C q) (hD : D i = false) {a : Addr} {v : Value} (hc : w0.cell? a = some v) : W.cell? a = some v := by
  have hq := h.no hi hD
  cases hp : D p with
  | false => rw [h.at0 hp]; exact hc
  | true => rw [h.at1 hp hq]; exact cell_later ((Below.refl _ _).alloc (Nat.le_refl _) o) hc
end
end Go.Proofs.Ytonlhkhjdnaojaa
