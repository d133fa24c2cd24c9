/-
  What 'append([]byte{}, b...)' leaves.
-/
import Derived.Test.YtfkobamemehkdaaDoorBaseSeal
import Derived.Test.YtfkobamemehkdaaDoorMem
namespace Go.Proofs.YtfkobamemehkdaaDoor
open Go.RowKit

theorem own_facts {w : World} {base n cap : Nat} {e : TypeId} {a : Option Addr} {l : List Nat} (h : w.ownsRow base e 1 (.slice a n cap) n (cellsB l)) : (a = none → l = [] ∧ cap = 0) ∧ n ≤ cap := by
  have hlen : n = l.length := by have := h.1; rw [cellsB_length, Nat.mul_one] at this; exact this.symm
  rcases h.2 with ⟨h1, h0⟩ | ⟨g, c, cur, h1, _, _, h2, _⟩
  · cases h1
    exact ⟨fun _ => ⟨List.eq_nil_of_length_eq_zero (by omega), rfl⟩, by omega⟩
  · cases h1
    exact ⟨(fun h => by cases h), h2⟩
structure Copied (w w2 : World) (a' : Option Addr) (l : List Nat) (n cap' : Nat) : Prop where
  bytes : Bytes w2 a' l
  nil : a' = none → l = [] ∧ cap' = 0
  cap : n ≤ cap'
  below : Below w.heap.size w w2
theorem copied_of {w w1 w2 : World} {a' : Option Addr} {l : List Nat} {n cap' : Nat} {b0 : Option Nat} (hb1 : Below w.heap.size w w1) (hn : n = l.length) (hown : w2.ownsRow w1.heap.size 5 1 (.slice a' (0 + n) cap') (0 + n) (cellsB ([] ++ l)))
    (o : Obj) (hgr : (w1.alloc o).grownBy w2 b0) (hb0 : ∀ k, b0 = some k → w1.heap.size ≤ k) (hB : Bytes w2 a' ([] ++ l)) : Copied w w2 a' l n cap' := by
  rw [List.nil_append] at hB hown
  rw [Nat.zero_add] at hown
  have hz := hb1.size
  exact ⟨hB, (own_facts hown).1, (own_facts hown).2, (hb1.alloc hz o).grown hgr (by simp; omega) (fun k hk => Nat.le_trans hz (hb0 k hk))⟩

end Go.Proofs.YtfkobamemehkdaaDoor
