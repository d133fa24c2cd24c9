/-
  Small laws of memory over any program: a block that is known whole; a list of integers that is read; one integer put behind a row of the call's own.
-/
import Derived.WalkKit
import Derived.WalkSpells
import Derived.WalkLawsBesides
import Derived.IntWalk
import Derived.Lib.Hide
import Derived.Below
import Derived.OwnWalk
import Derived.Deep.AppendLies
import Derived.Deep.Draws
import Derived.Laws.Rows
import Derived.Laws.OwnMore
namespace Go.Proofs.Ytdnkeplmjimjcaa
open Go.RowKit

/-- Block g holds just these cells of type t; all may be written. -/
def Blo (w : World) (g : Nat) (t : TypeId) (cs : Array Value) : Prop := w.heap[g]? = some (.cells cs t (0, 0))
section
variable {w w' : World} {g : Nat} {t : TypeId} {cs : Array Value}
theorem Blo.lt (h : Blo w g t cs) : g < w.heap.size := by
  rcases Nat.lt_or_ge g w.heap.size with h' | h'
  · exact h'
  · unfold Blo at h; rw [Array.getElem?_eq_none h'] at h; cases h
theorem Blo.cell (h : Blo w g t cs) (i : Nat) : w.cell? ⟨g, i, none⟩ = cs[i]? := cell_of_row w g i cs t (0, 0) h
theorem Blo.frozen (h : Blo w g t cs) (i : Nat) : w.frozen? ⟨g, i, none⟩ = false := by
  unfold Blo at h
  simp [World.frozen?, h]
theorem blo_laid (w : World) (t : TypeId) (cs : Array Value) : Blo (w.alloc (.cells cs t)) w.heap.size t cs := heap_alloc_new w _
theorem Blo.drew (h : Blo w g t cs) : Blo w.drew g t cs := h
theorem Blo.alloc (h : Blo w g t cs) (o : Obj) : Blo (w.alloc o) g t cs := (Below.heap_alloc w o g h.lt).trans h
theorem Blo.put (h : Blo w g t cs) (i : Nat) (u : Value) : Blo (w.setCell ⟨g, i, none⟩ u) g t (cs.setIfInBounds i u) := by
  unfold Blo at h ⊢
  simp [World.setCell, Array.getElem?_modify, h]
theorem Blo.far (h : Blo w g t cs) {p : Addr} (hp : g ≠ p.block) (u : Value) : Blo (w.setCell p u) g t cs := (Below.heap_setCell w p u g hp).trans h
theorem Blo.below {B : Nat} (h : Blo w g t cs) (hb : Below B w w') (hg : g < B) : Blo w' g t cs := (hb.block g hg).trans h
theorem Blo.later (h : Blo w g t cs) (hb : Below w.heap.size w w') : Blo w' g t cs := h.below hb h.lt
theorem Blo.grown {row : Option Nat} (h : Blo w g t cs) (hb : w.grownBy w' row) (hg : some g ≠ row) : Blo w' g t cs := (hb.block g h.lt hg).trans h
theorem Blo.apart {g' : Nat} {t' : TypeId} {cs' : Array Value} (h : Blo w g t cs) (h' : Blo w g' t' cs') (hne : t ≠ t') : g ≠ g' := by
  rintro rfl
  unfold Blo at h h'
  rw [h] at h'
  injection h' with h'
  injection h' with _ ht
  exact hne ht
theorem Blo.row_apart {base : Nat} {e : TypeId} {size n : Nat} {v : Value} {xs : List Value} (hg : Blo w g t cs) (h : w.ownsRow base e size v n xs) (hne : e ≠ t) : some g ≠ v.ownBlock := by
  rcases h.2 with ⟨rfl, _⟩ | ⟨g', cap, cur, rfl, _, hh, _⟩
  · simp [Value.ownBlock]
  · intro he
    have e2 : g = g' := by simpa [Value.ownBlock] using he
    subst e2
    exact Blo.apart (t := e) hh hg hne rfl
end

/-- What a slice of integers that is read holds. -/
def Ints (w : World) (a : Option Addr) (l : List Int) : Prop := l ≠ [] → ∃ b o, a = some ⟨b, o, none⟩ ∧ ∀ i, i < l.length → w.cell? ⟨b, o + i, none⟩ = some (.int .i64 (l.getD i 0))
theorem Ints.nil (w : World) (a : Option Addr) : Ints w a [] := fun h => absurd rfl h
theorem Ints.below {w w' : World} {a : Option Addr} {l : List Int} (h : Ints w a l) (hb : Below w.heap.size w w') : Ints w' a l := fun hl => by
  obtain ⟨b, o, ha, hc⟩ := h hl
  exact ⟨b, o, ha, fun i hi => cell_later hb (hc i hi)⟩
theorem Ints.drewN {w : World} {a : Option Addr} {l : List Int} (h : Ints w a l) (q : Nat) : Ints (w.drewN q) a l := fun hl => by
  obtain ⟨b, o, ha, hc⟩ := h hl
  exact ⟨b, o, ha, fun i hi => by rw [World.cell?_drewN]; exact hc i hi⟩
def cellsI (l : List Int) : List Value := l.map (Value.int .i64)
theorem cellsI_length (l : List Int) : (cellsI l).length = l.length := by simp [cellsI]
theorem cellsI_get (l : List Int) (i : Nat) (hi : i < l.length) : (cellsI l)[i]? = some (.int .i64 (l.getD i 0)) := by
  simp [cellsI, List.getD_eq_getElem?_getD, List.getElem?_eq_getElem hi]
theorem cellsI_append (l m : List Int) : cellsI l ++ cellsI m = cellsI (l ++ m) := by simp [cellsI]
theorem Ints.laid (w : World) (l : List Int) (cs : Array Value) (t : TypeId) (h : cs.toList = cellsI l) : Ints (w.alloc (.cells cs t)) (some ⟨w.heap.size, 0, none⟩) l := fun _ =>
  ⟨w.heap.size, 0, rfl, fun i hi => by rw [Nat.zero_add, (blo_laid w t cs).cell i, ← Array.getElem?_toList, h, cellsI_get l i hi]⟩
theorem Ints.own {w : World} {base : Nat} {e : TypeId} {a : Option Addr} {n cap : Nat} {l : List Int} (h : w.ownsRow base e 1 (.slice a n cap) n (cellsI l)) : Ints w a l := fun hl => by
  have hlen : n = l.length := by have := h.1; rw [cellsI_length, Nat.mul_one] at this; exact this.symm
  rcases id h.2 with ⟨h1, h0⟩ | ⟨g, c, cur, h1, _⟩
  · exact absurd (List.eq_nil_of_length_eq_zero (by omega)) hl
  · cases h1
    exact ⟨g, 0, rfl, fun i hi => by rw [Nat.zero_add, h.cellAt i (by omega), cellsI_get l i hi]⟩
theorem own_slice {w : World} {base : Nat} {e : TypeId} {size : Nat} {v : Value} {n : Nat} {xs : List Value} (h : w.ownsRow base e size v n xs) : ∃ a cap, v = .slice a n cap ∧ n ≤ cap := by
  rcases h.2 with ⟨rfl, rfl⟩ | ⟨g, cap, cur, rfl, _, _, hc, _⟩
  · exact ⟨none, 0, rfl, Nat.le_refl _⟩
  · exact ⟨_, cap, rfl, hc⟩
theorem grown_of_below {w w' : World} (h : Below w.heap.size w w') (row : Option Nat) : w.grownBy w' row := ⟨h.os, h.tape, h.output, h.size, fun i hi _ => h.block i hi⟩
theorem own_later {w w' : World} {base : Nat} {e : TypeId} {size : Nat} {v : Value} {n : Nat} {xs : List Value} (h : w.ownsRow base e size v n xs) (hb : Below w.heap.size w w') : w'.ownsRow base e size v n xs :=
  h.kept (row := none) (grown_of_below hb none) (by cases hv : v.ownBlock <;> simp)
theorem grown_put (w : World) (p : Addr) (u : Value) : w.grownBy (w.setCell p u) (some p.block) :=
  ⟨rfl, rfl, rfl, by simp [World.setCell], fun i _ hne => Below.heap_setCell w p u i (fun e => hne (by rw [e]))⟩
theorem own_far {w : World} {base : Nat} {e : TypeId} {size : Nat} {v : Value} {n : Nat} {xs : List Value} (h : w.ownsRow base e size v n xs) {p : Addr} (hp : some p.block ≠ v.ownBlock) (u : Value) : (w.setCell p u).ownsRow base e size v n xs :=
  h.kept (grown_put w p u) (.inr (Ne.symm hp))
/-- 'append(own, x)'. -/
theorem wp_append_int {P : Program} {w : World} {ops : Array Oper} {rest : List Oper} {o : Oper} {act : Act} {Q : Exit → Act → World → Prop} (hgd : o.guard = none) (s x : Operand) (t : TypeId)
    (ho : o.op = .call { callee := .builtin .append, args := #[s, x], argTypes := #[t, t] })
    (base : Nat) (e : TypeId) (ht : P.underlying t = some (.slice e)) (hi : (P.info? e).map (fun i => (i.zero, i.size, i.bytes)) = some (some (.int .i64 0), 1, 8))
    (v : Value) (n : Nat) (xs : List Int) (hs : act.eval s = v) (hown : w.ownsRow base e 1 v n (cellsI xs))
    (b : Nat) (y : Int) (hx : act.eval x = .slice (some ⟨b, 0, none⟩) 1 1) (hc : w.cell? ⟨b, 0, none⟩ = some (.int .i64 y)) (hroom : n < 1000000000) (hbase : base ≤ w.heap.size)
    (h : ∀ g cap w', w'.ownsRow base e 1 (.slice (some ⟨g, 0, none⟩) (n + 1) cap) (n + 1) (cellsI (xs ++ [y])) → w.grownBy w' v.ownBlock → (v.ownBlock = some g ∨ g = w.heap.size) → g < w'.heap.size →
      wpList P ops Q rest (act.put o.dst (.slice (some ⟨g, 0, none⟩) (n + 1) cap)) w') : wpList P ops Q (o :: rest) act w := by
  obtain ⟨i, hi0, hz, hs1, hb1⟩ := info_parts hi
  refine wpList_append_lies w hgd s x t ho base e i (.int .i64 0) 1 8 ht hi0 hz hs1 hb1 rfl (by decide) v n (cellsI xs) hs hown ⟨b, 0, none⟩ 1 1 [.int .i64 y] hx (by simp) ?_ (by simp [Value.oneCell']) (by decide) (by unfold maxLen; omega) (by omega) hbase _ rfl ?_
  · intro j u hj
    match j, hj with
    | 0, hj =>
      simp at hj
      subst hj
      have e : (⟨b, 0, none⟩ : Addr).add 0 = ⟨b, 0, none⟩ := by simp [Addr.add]
      rw [e]; exact hc
    | j + 1, hj => simp at hj
  · intro g cap w' h1 h2 h3 h4
    rw [show cellsI xs ++ [Value.int .i64 y] = cellsI (xs ++ [y]) from cellsI_append xs [y]] at h1
    exact h g cap w' h1 h2 h3 h4
end Go.Proofs.Ytdnkeplmjimjcaa
