/-
  The four bytes of a number as the document has them; a row of bytes of the call's own that appends make longer.
-/
import Derived.Test.YtfkobamemehkdaaDoorBaseSeal
import Derived.Test.YtfkobamemehkdaaDoorMem
namespace Go.Proofs.YtfkobamemehkdaaDoor
open Go.RowKit

set_option maxHeartbeats 400000 in
theorem four_any (n : Nat) (w : World) (hn : n < 4294967296) :
    Calls Tryd.prog 27 #[.int .i64 n] w fun e w' => e = .returned (.slice (some ⟨w.heap.size, 0, none⟩) 4 4) ∧ w' = w.alloc (.cells (cellsB (le4 n)).toArray 5) := by
  go_enter Tryd.func27, Tryd.ntmps27
  go_wp2
  go_ret
  refine ⟨rfl, ?_⟩
  have e3 : n / 16777216 % 256 = n / 16777216 := by omega
  first
    | rfl
    | (unfold le4; rw [e3]; rfl)
theorem four_row (n : Nat) (w : World) (hn : n < 4294967296) :
    Calls Tryd.prog 27 #[.int .i64 n] w fun e w' => e = .returned (.slice (some ⟨w.heap.size, 0, none⟩) 4 4) ∧ Row w' w.heap.size (le4 n) ∧ Below w.heap.size w w' :=
  (four_any n w hn).mono fun _ _ ⟨h1, h2⟩ => ⟨h1, by rw [h2]; exact row_laid w _, by rw [h2]; exact (Below.refl _ _).alloc (Nat.le_refl _) _⟩
/-- What stands behind each of the appends. -/
structure Grown4 (w w2 : World) (base : Nat) (a : Option Addr) (n cap : Nat) (l : List Nat) : Prop where
  own : w2.ownsRow base 5 1 (.slice a n cap) n (cellsB l)
  lt : ∀ x ∈ l, x < 256
  below : Below w.heap.size w w2
  size : base ≤ w2.heap.size
  low : w.heap.size ≤ base
theorem sup_grow (w : World) (o : Obj) : Below w.heap.size w (w.alloc o) := (Below.refl _ _).alloc (Nat.le_refl _) o
theorem Grown4.next {w w2 w3 wp : World} {base : Nat} {a a3 : Option Addr} {n m cap cap3 : Nat} {l t : List Nat} (h : Grown4 w w2 base a n cap l) (hb : Below w2.heap.size w2 wp) (ht : ∀ x ∈ t, x < 256)
    (ho : w3.ownsRow base 5 1 (.slice a3 (n + m) cap3) (n + m) (cellsB (l ++ t))) (hg : wp.grownBy w3 (Value.slice a n cap).ownBlock) : Grown4 w w3 base a3 (n + m) cap3 (l ++ t) := by
  have hs := hb.size
  have hl := h.below.size
  have hB : Below w.heap.size wp w3 := (Below.refl _ _).grown hg (by omega) (fun k hk => Nat.le_trans h.low (h.own.lt k hk).1)
  refine ⟨ho, fun x hx => ?_, (h.below.trans (hb.mono hl)).trans hB, ?_, h.low⟩
  · rcases List.mem_append.1 hx with h1 | h1
    · exact h.lt x h1
    · exact ht x h1
  · have := hB.size; have := h.size; omega
theorem Grown4.kept {w w2 wp : World} {base : Nat} {a : Option Addr} {n cap : Nat} {l : List Nat} (h : Grown4 w w2 base a n cap l) (hb : Below w2.heap.size w2 wp) : wp.ownsRow base 5 1 (.slice a n cap) n (cellsB l) := by
  refine h.own.kept (row := none) ⟨hb.os, hb.tape, hb.output, hb.size, fun k hk _ => hb.block k hk⟩ ?_
  cases hv : (Value.slice a n cap).ownBlock with
  | none => exact .inl rfl
  | some g => exact .inr (by simp)
end Go.Proofs.YtfkobamemehkdaaDoor
