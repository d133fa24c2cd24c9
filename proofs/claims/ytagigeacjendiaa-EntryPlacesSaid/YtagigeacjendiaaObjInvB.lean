/-
  Bytes appended in a drawn region.
-/
import Derived.Test.YtagigeacjendiaaObjInv
import Derived.Test.YtagigeacjendiaaKit
namespace Go.Proofs.Ytagigeacjendiaa
open Go.RowKit

theorem cells_of {w : World} {a : Option Addr} {l : List Nat} (h : Bytes w a l) : ∀ ad, a = some ad → ∀ j u, (cellsB l)[j]? = some u → w.cell? (ad.add j) = some u := fun ad e j u hj => by
  subst e
  have hjl : j < l.length := by have := (List.getElem?_eq_some_iff.1 hj).1; rwa [cellsB_length] at this
  obtain ⟨b', o', e', hc'⟩ := h.2.2 (fun e => by rw [e] at hjl; cases hjl)
  cases e'
  rw [Addr.add_lit]
  rw [cellsB_get _ _ hjl] at hj
  rw [hc' j hjl]
  exact hj
section
variable {P : Program} {ops : Array Oper} {Q : Exit → Act → World → Prop} {o : Oper} {a : Act} {w : World} {K : Act → World → Prop} {E : Prop}
theorem stepO_appendB (hw : Region.wanted o (yielded ops a.tmps) = true) (s x : Operand) (t : TypeId) (ho : o.op = .call { callee := .builtin .append, args := #[s, x], argTypes := #[t, t] })
    (base : Nat) (e : TypeId) (ht : P.underlying t = some (.slice e)) (hi : (P.info? e).map (fun i => (i.zero, i.size, i.bytes)) = some (some (.int .u8 0), 1, 1))
    (v : Value) (n : Nat) (xs : List Nat) (hs : a.eval s = v) (hown : w.ownsRow base e 1 v n (cellsB xs)) (ao : Option Addr) (m c : Nat) (ys : List Nat) (hx : a.eval x = .slice ao m c) (hm : m = ys.length) (hy : Bytes w ao ys)
    (hroom : n + m ≤ 1000000) (hbase : base ≤ w.heap.size) (k : Nat) (zs : List Nat) (hk1 : k = n + m) (hk2 : xs ++ ys = zs)
    (hk : ∀ v' w', w'.ownsRow base e 1 v' k (cellsB zs) → w.grownBy w' (blkOf v) → (blkOf v' = blkOf v ∨ (blkOf v' = some w.heap.size ∧ w.heap.size < w'.heap.size)) → K (a.put o.dst v') w') :
    if Region.wanted o (yielded ops a.tmps) = true then Oper.wp P o a w K Q else E := by
  subst hk1 hk2
  refine stepO_append hw s x t ho base e (.int .u8 0) 1 1 ht hi rfl (by decide) (by decide) v n (cellsB xs) hs hown ao m c (cellsB ys) hx (by rw [cellsB_length, hm, Nat.mul_one]) (cells_of hy)
    (fun u hu => by unfold cellsB at hu; obtain ⟨q, _, rfl⟩ := List.mem_map.1 hu; rfl) (fun e0 => ?_) hroom hbase (fun v' w' h1 h2 h3 => hk v' w' (by rw [← cellsB_append]; exact h1) h2 h3)
  rw [hm]
  cases ys with
  | nil => rfl
  | cons y l => obtain ⟨b, o, e1, _⟩ := hy.2.2 (by simp); rw [e0] at e1; cases e1
end
end Go.Proofs.Ytagigeacjendiaa
