/-
  A drawn region whose operations only make new memory: which slot holds what, told by facts that outlive new memory.
-/
import Derived.Test.YtkdjfhbdcfjnnaaObjInv
namespace Go.Proofs.Ytkdjfhbdcfjnnaa
open Go.RowKit

abbrev ObjL := Value → World → Prop
def LaterP (p : ObjL) : Prop := ∀ v W W', Below W.heap.size W W' → p v W → p v W'
structure GL (R : List (Nat × ObjL)) (T : List (Nat × Value)) (w : World) (D : Nat → Bool) (X : Nat → Value) (W : World) : Prop where
  b : Below w.heap.size w W
  rows : ∀ x ∈ R, D x.1 = true → x.2 (X x.1) W
  dt : DetO T D X
def keysL (R : List (Nat × ObjL)) : Prop := ∀ x ∈ R, ∀ y ∈ R, x.1 = y.1 → x = y
section
variable {R : List (Nat × ObjL)} {T : List (Nat × Value)} {w W W' : World} {D : Nat → Bool} {X : Nat → Value}
theorem GL.start (hw : Below w.heap.size w W) : GL R T w (fun _ => false) X W := ⟨hw, fun _ _ h => (by cases h), fun _ _ h => (by cases h)⟩
theorem GL.tell (h : GL R T w D X W) (hs : ∀ x ∈ R, LaterP x.2) (i : Nat) (v : Value) (hb : Below W.heap.size W W') (hR : ∀ x ∈ R, x.1 ≠ i) (hv : ∀ x ∈ T, x.1 = i → x.2 = v) : GL R T w (updD D i) (updV X i v) W' :=
  ⟨h.b.trans (hb.mono h.b.size), fun x hx hd => by
    rw [updD_ne D i (hR x hx)] at hd
    rw [updV_ne X i v (hR x hx)]
    exact hs x hx _ _ _ hb (h.rows x hx hd), h.dt.set i v hv⟩
theorem GL.fresh (h : GL R T w D X W) (hk : keysL R) (hs : ∀ x ∈ R, LaterP x.2) (i : Nat) (v : Value) (z : ObjL) (hz : (i, z) ∈ R) (hb : Below W.heap.size W W') (ho : z v W') (hT : ∀ x ∈ T, x.1 ≠ i) : GL R T w (updD D i) (updV X i v) W' :=
  ⟨h.b.trans (hb.mono h.b.size), fun x hx hd => by
    by_cases e : x.1 = i
    · have := hk x hx _ hz e
      subst this
      rw [updV_at]; exact ho
    · rw [updD_ne D i e] at hd
      rw [updV_ne X i v e]
      exact hs x hx _ _ _ hb (h.rows x hx hd), fun x hx hd => by
    rw [updV_ne X i v (hT x hx)]
    rw [updD_ne D i (hT x hx)] at hd
    exact h.dt x hx hd⟩
end
end Go.Proofs.Ytkdjfhbdcfjnnaa
