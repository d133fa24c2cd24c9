/-
  A row of bytes that grows by appends, wherever it lies: what stands behind each of them.
-/
import Derived.Test.YtkdjfhbdcfjnnaaSwFour
namespace Go.Proofs.Ytkdjfhbdcfjnnaa
open Go.RowKit

structure OwB (w0 : World) (base : Nat) (a : Option Addr) (n cap : Nat) (xs : List Nat) (wr : World) : Prop where
  own : wr.ownsRow base U8 1 (.slice a n cap) n (cellsB xs)
  lt : ∀ x ∈ xs, x < 256
  below : Below w0.heap.size w0 wr
  low : w0.heap.size ≤ base
  size : base ≤ wr.heap.size
theorem OwB.later {w0 wr w' : World} {base n cap : Nat} {a : Option Addr} {xs : List Nat} (h : OwB w0 base a n cap xs wr) (hb : Below wr.heap.size wr w') : OwB w0 base a n cap xs w' :=
  ⟨own_later h.own hb, h.lt, h.below.trans (hb.mono h.below.size), h.low, Nat.le_trans h.size hb.size⟩
theorem OwB.laid {w0 : World} (l : List Nat) (C : Array Value) (hC : C = (cellsB l).toArray) (hl : ∀ x ∈ l, x < 256) (hm : l.length ≤ 1000) : OwB w0 w0.heap.size (some ⟨w0.heap.size, 0, none⟩) l.length l.length l (w0.alloc (.cells C U8)) := by
  subst hC
  have hb := blo_laid w0 U8 (cellsB l).toArray
  unfold Blo at hb
  exact ⟨⟨by simp [cellsB_length], .inr ⟨w0.heap.size, l.length, (cellsB l).toArray, rfl, Nat.le_refl _, hb, (by simp), (by unfold maxLen; omega), by simp [cellsB_length], by rw [Nat.mul_one]; exact List.take_of_length_le (Nat.le_of_eq (cellsB_length l))⟩⟩, hl, sup_pc _ _, Nat.le_refl _, by simp⟩
theorem OwB.far {w0 wr w' : World} {base n cap s : Nat} {a : Option Addr} {xs : List Nat} {t : TypeId} {cs : Array Value} (h : OwB w0 base a n cap xs wr) (hB : Blo wr s t cs) (hg : wr.grownBy w' (Value.slice a n cap).ownBlock) (hne : U8 ≠ t) : Blo w' s t cs :=
  hB.grown hg (hB.row_apart h.own hne)
theorem wp_put {w : World} {ops : Array Oper} {rest : List Oper} {o : Oper} {act : Act} {Q : Exit → Act → World → Prop} (hgd : o.guard = none) (s x : Operand)
    (ho : o.op = .call { callee := .builtin .append, args := #[s, x], argTypes := #[30, 30] })
    {w0 : World} {base : Nat} (a0 : Option Addr) (n c0 : Nat) (xs : List Nat) (hs : act.eval s = .slice a0 n c0) (hO : OwB w0 base a0 n c0 xs w)
    (a : Option Addr) (m cap : Nat) (l : List Nat) (hx : act.eval x = .slice a m cap) (hm : m = l.length) (hl : Bytes w a l) (ha : a = none → l = [] ∧ cap = 0) (hroom : n + m ≤ 1000000)
    (h : ∀ a' cap' w', OwB w0 base a' (n + m) cap' (xs ++ l) w' → w.grownBy w' (Value.slice a0 n c0).ownBlock → wpList Try.prog ops Q rest (act.put o.dst (.slice a' (n + m) cap')) w') : wpList Try.prog ops Q (o :: rest) act w := by
  refine wp_append_bytes hgd s x 30 ho base U8 Try.underlying30 info_u8 _ n xs hs hO.own hO.lt a m cap l hx hm hl ha (by omega) hO.size ?_
  intro a' cap' w' hown hg _ _
  refine h a' cap' w' ⟨hown, app_lt hO.lt hl.1, hO.below.grown hg hO.below.size (fun k hk => Nat.le_trans hO.low (hO.own.lt k hk).1), hO.low, Nat.le_trans hO.size hg.size⟩ hg
theorem four_b (n : Nat) (w : World) (hn : n < 4294967296) :
    Calls Try.prog 37 #[.int .i64 n] w fun e w' => ∃ g, e = .returned (.slice (some ⟨g, 0, none⟩) 4 4) ∧ Bytes w' (some ⟨g, 0, none⟩) (num 4 n) ∧ Below w.heap.size w w' := by
  refine (four_any n w hn).mono ?_
  rintro e w' ⟨rfl, rfl⟩
  exact ⟨w.heap.size, rfl, Bytes.laid w (num 4 n) _ _ _ (num_lt _ _) (by simp [num_len]) (fun q hq => by rw [← Array.getElem?_toList]; exact cellsB_get _ _ hq), sup_pc _ _⟩
theorem two_int (v : Int) (w : World) (h0 : 0 ≤ v) (hn : v < 4294967296) :
    Calls Try.prog 36 #[.int .i64 v] w fun e w' => ∃ g, e = .returned (.slice (some ⟨g, 0, none⟩) 2 4) ∧ Bytes w' (some ⟨g, 0, none⟩) (num 2 v.toNat) ∧ Below w.heap.size w w' := by
  obtain ⟨u, rfl⟩ : ∃ u : Nat, v = u := ⟨v.toNat, by omega⟩
  refine (two_any u w (by omega)).mono ?_
  rintro e w' ⟨g, h1, h2, -, -, h5⟩
  exact ⟨g, h1, h2, h5⟩
/-- A row of one byte that was just laid. -/
theorem bytes_one (w : World) (v : Int) (h0 : 0 ≤ v) (h1 : v < 256) : Bytes (w.alloc (.cells #[.int .u8 v] U8)) (some ⟨w.heap.size, 0, none⟩) (num 1 v.toNat) := by
  obtain ⟨u, rfl⟩ : ∃ u : Nat, v = u := ⟨v.toNat, by omega⟩
  refine Bytes.laid w _ _ _ _ (num_lt _ _) (by simp [num_len]) (fun q hq => ?_)
  rw [num_len] at hq
  obtain rfl : q = 0 := by omega
  rw [Int.toNat_natCast, num_1, Nat.mod_eq_of_lt (by omega)]
  rfl
end Go.Proofs.Ytkdjfhbdcfjnnaa
