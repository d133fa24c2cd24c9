/-
  Numbers of DiskOrder: many writes of one block.
-/
import Derived.Test.YtefphnmabbfbjaaDkAwake
import Derived.Test.YtefphnmabbfbjaaBools
namespace Go.Proofs.Ytefphnmabbfbjaa
open Go.RowKit

/-- The queue of k writes of block 1. -/
def ordQ (f : List Nat) (k : Nat) : List (Nat × List Nat) := (f.take k).map fun x => (1, byt [x])
def wantK (f : List Nat) (keep : List Bool) : Nat → Nat
  | 0 => 0
  | k + 1 => if keep.getD k false = true then f.getD k 0 else wantK f keep k
def lastK (f : List Nat) : Nat → Nat
  | 0 => 0
  | k + 1 => f.getD k 0
theorem take_getD {f : List Nat} {k : Nat} (h : k < f.length) : f.take (k + 1) = f.take k ++ [f.getD k 0] := by
  rw [List.take_succ_eq_append_getElem h, List.getD_eq_getElem?_getD, List.getElem?_eq_getElem h]; rfl
theorem ordQ_succ {f : List Nat} {k : Nat} (h : k < f.length) : ordQ f (k + 1) = ordQ f k ++ [(1, byt [f.getD k 0])] := by
  unfold ordQ
  rw [take_getD h, List.map_append]; rfl
theorem ordQ_length {f : List Nat} {k : Nat} (h : k ≤ f.length) : (ordQ f k).length = k := by unfold ordQ; rw [List.length_map, List.length_take]; omega
theorem ordQ_get {f : List Nat} {n k : Nat} (h : n ≤ f.length) (hk : k < n) : (ordQ f n).getD k (0, []) = (1, byt [f.getD k 0]) := by
  unfold ordQ
  rw [List.getD_eq_getElem?_getD, List.getElem?_map, List.getElem?_take_of_lt hk, List.getD_eq_getElem?_getD, List.getElem?_eq_getElem (by omega)]
  rfl
theorem byt_zero : byt [0] = zeroB := by decide +kernel
theorem crK_ord {f : List Nat} {n : Nat} (h : n ≤ f.length) (keep : List Bool) (sec : Int) : ∀ k, k ≤ n → crK (fun _ => zeroB) (ordQ f n) keep (-1) sec k 1 = byt [wantK f keep k]
  | 0, _ => byt_zero.symm
  | k + 1, hk => by
    have ih := crK_ord h keep sec k (by omega)
    rw [crK, ordQ_get h (by omega)]
    by_cases c : keep.getD k false = true
    · rw [if_pos c, wantK, if_pos c, updB_at]
    · rw [if_neg c, if_neg (by omega), wantK, if_neg c]
      exact ih
theorem flush_ord {f : List Nat} (S : Nat → List Nat) : ∀ k, k ≤ f.length → flushQ (fun _ => zeroB) (ordQ f k) 1 = byt [lastK f k]
  | 0, _ => byt_zero.symm
  | k + 1, hk => by
    rw [ordQ_succ (by omega), flushQ_snoc, updB_at]
    rfl
theorem wantK_lt {f : List Nat} (keep : List Bool) (hf : ∀ x ∈ f, x < 256) : ∀ k, wantK f keep k < 256
  | 0 => by show 0 < 256; decide
  | k + 1 => by
    rw [wantK]
    split
    · exact getD_b hf k
    · exact wantK_lt keep hf k
theorem lastK_lt {f : List Nat} (hf : ∀ x ∈ f, x < 256) : ∀ k, lastK f k < 256
  | 0 => by show 0 < 256; decide
  | k + 1 => getD_b hf k
structure OrD (W wr : World) (f : List Nat) (k : Nat) (L : Dl) (d : Dm) : Prop where
  dk : Dk W.heap.size wr L d
  dn : d.n = 3
  sr : d.S = fun _ => zeroB
  ar : d.armed = false
  st : d.steps = (k : Nat)
  lf : d.left = 0
  qq : d.Q = ordQ f k
  bl : Below W.heap.size W wr
def OrR (W : World) (f : List Nat) (keep : List Bool) (n bd : Nat) (i a b : Value) (wr : World) : Prop :=
  ∃ k : Nat, k ≤ n ∧ i = .int .i64 k ∧ a = .int .u8 (wantK f keep k : Nat) ∧ b = .int .u8 (lastK f k : Nat) ∧ ∃ (L : Dl) (d : Dm), L.bd = bd ∧ OrD W wr f k L d
section
variable {W wr w' : World} {n k : Nat} {L L' : Dl} {d : Dm} {f : List Nat}
theorem OrD.alive (h : OrD W wr f k L d) : deadB d = false := by
  unfold deadB
  rw [h.ar]; rfl
theorem OrD.put (h : OrD W wr f k L d) (hk : k < f.length) (hD : Dk W.heap.size w' L' (putD d 1 (byt [f.getD k 0]))) (hb : Below W.heap.size W w') : OrD W w' f (k + 1) L' (putD d 1 (byt [f.getD k 0])) := by
  refine ⟨hD, h.dn, h.sr, h.ar, ?_, ?_, ?_, hb⟩
  · show d.steps + 1 = _
    rw [h.st]; omega
  · show (if d.armed then d.left - 1 else d.left) = _
    rw [h.ar, h.lf]; rfl
  · show d.Q ++ _ = _
    rw [h.qq, ordQ_succ hk]
theorem OrD.later (h : OrD W wr f k L d) (hb : Below wr.heap.size wr w') : OrD W w' f k L d :=
  ⟨h.dk.later hb, h.dn, h.sr, h.ar, h.st, h.lf, h.qq, h.bl.trans (hb.mono h.bl.size)⟩
end
end Go.Proofs.Ytefphnmabbfbjaa
