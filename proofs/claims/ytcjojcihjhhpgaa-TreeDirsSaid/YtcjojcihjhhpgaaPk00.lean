/-
  Mem · PMap · SMap · Out · Kit · TrMem · TrNode: these texts in one.
-/
import Derived.WalkKit
import Derived.WalkSpells
import Derived.WalkLawsBesides
import Derived.IntWalk
import Derived.Lib.Hide
import Derived.Below
import Derived.OwnWalk
import Derived.Deep.AppendLies
import Derived.Deep.Draws
import Derived.Laws.Rows
import Derived.Laws.OwnMore
import Derived.Test.YtcjojcihjhhpgaaRows
import Derived.Maps.OwnSet
import Derived.Maps.OwnOps
import Derived.OpenShut
import Derived.Maps.RangeWalk
import Derived.Sort.MapsRangeIn
import Derived.Deep.MidRow
import Derived.Laws.BitsAllLaws
import Derived.Laws.BytesArg
import Derived.Lib.BufferRead
import Derived.Lib.SmallJoins
import Derived.Laws.AppendOwnNone
import Derived.Lib.SlBytesConst
import Derived.WalkSmall
/-
  Small laws of memory over any program: a block that is known whole; a list of integers that is read; one integer put behind a row of the call's own.
-/
namespace Go.Proofs.Ytcjojcihjhhpgaa
open Go.RowKit

/-- Block g holds just these cells of type t; all may be written. -/
def Blo (w : World) (g : Nat) (t : TypeId) (cs : Array Value) : Prop := w.heap[g]? = some (.cells cs t (0, 0))
section
variable {w w' : World} {g : Nat} {t : TypeId} {cs : Array Value}
theorem Blo.lt (h : Blo w g t cs) : g < w.heap.size := by
  rcases Nat.lt_or_ge g w.heap.size with h' | h'
  · exact h'
  · unfold Blo at h; rw [Array.getElem?_eq_none h'] at h; cases h
theorem Blo.cell (h : Blo w g t cs) (i : Nat) : w.cell? ⟨g, i, none⟩ = cs[i]? := cell_of_row w g i cs t (0, 0) h
theorem Blo.frozen (h : Blo w g t cs) (i : Nat) : w.frozen? ⟨g, i, none⟩ = false := by
  unfold Blo at h
  simp [World.frozen?, h]
theorem blo_laid (w : World) (t : TypeId) (cs : Array Value) : Blo (w.alloc (.cells cs t)) w.heap.size t cs := heap_alloc_new w _
theorem Blo.drew (h : Blo w g t cs) : Blo w.drew g t cs := h
theorem Blo.alloc (h : Blo w g t cs) (o : Obj) : Blo (w.alloc o) g t cs := (Below.heap_alloc w o g h.lt).trans h
theorem Blo.put (h : Blo w g t cs) (i : Nat) (u : Value) : Blo (w.setCell ⟨g, i, none⟩ u) g t (cs.setIfInBounds i u) := by
  unfold Blo at h ⊢
  simp [World.setCell, Array.getElem?_modify, h]
theorem Blo.far (h : Blo w g t cs) {p : Addr} (hp : g ≠ p.block) (u : Value) : Blo (w.setCell p u) g t cs := (Below.heap_setCell w p u g hp).trans h
theorem Blo.below {B : Nat} (h : Blo w g t cs) (hb : Below B w w') (hg : g < B) : Blo w' g t cs := (hb.block g hg).trans h
theorem Blo.later (h : Blo w g t cs) (hb : Below w.heap.size w w') : Blo w' g t cs := h.below hb h.lt
theorem Blo.grown {row : Option Nat} (h : Blo w g t cs) (hb : w.grownBy w' row) (hg : some g ≠ row) : Blo w' g t cs := (hb.block g h.lt hg).trans h
theorem Blo.apart {g' : Nat} {t' : TypeId} {cs' : Array Value} (h : Blo w g t cs) (h' : Blo w g' t' cs') (hne : t ≠ t') : g ≠ g' := by
  rintro rfl
  unfold Blo at h h'
  rw [h] at h'
  injection h' with h'
  injection h' with _ ht
  exact hne ht
theorem Blo.row_apart {base : Nat} {e : TypeId} {size n : Nat} {v : Value} {xs : List Value} (hg : Blo w g t cs) (h : w.ownsRow base e size v n xs) (hne : e ≠ t) : some g ≠ v.ownBlock := by
  rcases h.2 with ⟨rfl, _⟩ | ⟨g', cap, cur, rfl, _, hh, _⟩
  · simp [Value.ownBlock]
  · intro he
    have e2 : g = g' := by simpa [Value.ownBlock] using he
    subst e2
    exact Blo.apart (t := e) hh hg hne rfl
end

/-- What a slice of integers that is read holds. -/
def Ints (w : World) (a : Option Addr) (l : List Int) : Prop := l ≠ [] → ∃ b o, a = some ⟨b, o, none⟩ ∧ ∀ i, i < l.length → w.cell? ⟨b, o + i, none⟩ = some (.int .i64 (l.getD i 0))
theorem Ints.nil (w : World) (a : Option Addr) : Ints w a [] := fun h => absurd rfl h
theorem Ints.below {w w' : World} {a : Option Addr} {l : List Int} (h : Ints w a l) (hb : Below w.heap.size w w') : Ints w' a l := fun hl => by
  obtain ⟨b, o, ha, hc⟩ := h hl
  exact ⟨b, o, ha, fun i hi => cell_later hb (hc i hi)⟩
theorem Ints.drewN {w : World} {a : Option Addr} {l : List Int} (h : Ints w a l) (q : Nat) : Ints (w.drewN q) a l := fun hl => by
  obtain ⟨b, o, ha, hc⟩ := h hl
  exact ⟨b, o, ha, fun i hi => by rw [World.cell?_drewN]; exact hc i hi⟩
def cellsI (l : List Int) : List Value := l.map (Value.int .i64)
theorem cellsI_length (l : List Int) : (cellsI l).length = l.length := by simp [cellsI]
theorem cellsI_get (l : List Int) (i : Nat) (hi : i < l.length) : (cellsI l)[i]? = some (.int .i64 (l.getD i 0)) := by
  simp [cellsI, List.getD_eq_getElem?_getD, List.getElem?_eq_getElem hi]
theorem cellsI_append (l m : List Int) : cellsI l ++ cellsI m = cellsI (l ++ m) := by simp [cellsI]
theorem Ints.laid (w : World) (l : List Int) (cs : Array Value) (t : TypeId) (h : cs.toList = cellsI l) : Ints (w.alloc (.cells cs t)) (some ⟨w.heap.size, 0, none⟩) l := fun _ =>
  ⟨w.heap.size, 0, rfl, fun i hi => by rw [Nat.zero_add, (blo_laid w t cs).cell i, ← Array.getElem?_toList, h, cellsI_get l i hi]⟩
theorem Ints.own {w : World} {base : Nat} {e : TypeId} {a : Option Addr} {n cap : Nat} {l : List Int} (h : w.ownsRow base e 1 (.slice a n cap) n (cellsI l)) : Ints w a l := fun hl => by
  have hlen : n = l.length := by have := h.1; rw [cellsI_length, Nat.mul_one] at this; exact this.symm
  rcases id h.2 with ⟨h1, h0⟩ | ⟨g, c, cur, h1, _⟩
  · exact absurd (List.eq_nil_of_length_eq_zero (by omega)) hl
  · cases h1
    exact ⟨g, 0, rfl, fun i hi => by rw [Nat.zero_add, h.cellAt i (by omega), cellsI_get l i hi]⟩
theorem own_slice {w : World} {base : Nat} {e : TypeId} {size : Nat} {v : Value} {n : Nat} {xs : List Value} (h : w.ownsRow base e size v n xs) : ∃ a cap, v = .slice a n cap ∧ n ≤ cap := by
  rcases h.2 with ⟨rfl, rfl⟩ | ⟨g, cap, cur, rfl, _, _, hc, _⟩
  · exact ⟨none, 0, rfl, Nat.le_refl _⟩
  · exact ⟨_, cap, rfl, hc⟩
theorem grown_of_below {w w' : World} (h : Below w.heap.size w w') (row : Option Nat) : w.grownBy w' row := ⟨h.os, h.tape, h.output, h.size, fun i hi _ => h.block i hi⟩
theorem own_later {w w' : World} {base : Nat} {e : TypeId} {size : Nat} {v : Value} {n : Nat} {xs : List Value} (h : w.ownsRow base e size v n xs) (hb : Below w.heap.size w w') : w'.ownsRow base e size v n xs :=
  h.kept (row := none) (grown_of_below hb none) (by cases hv : v.ownBlock <;> simp)
theorem grown_put (w : World) (p : Addr) (u : Value) : w.grownBy (w.setCell p u) (some p.block) :=
  ⟨rfl, rfl, rfl, by simp [World.setCell], fun i _ hne => Below.heap_setCell w p u i (fun e => hne (by rw [e]))⟩
theorem own_far {w : World} {base : Nat} {e : TypeId} {size : Nat} {v : Value} {n : Nat} {xs : List Value} (h : w.ownsRow base e size v n xs) {p : Addr} (hp : some p.block ≠ v.ownBlock) (u : Value) : (w.setCell p u).ownsRow base e size v n xs :=
  h.kept (grown_put w p u) (.inr (Ne.symm hp))
/-- 'append(own, x)'. -/
theorem wp_append_int {P : Program} {w : World} {ops : Array Oper} {rest : List Oper} {o : Oper} {act : Act} {Q : Exit → Act → World → Prop} (hgd : o.guard = none) (s x : Operand) (t : TypeId)
    (ho : o.op = .call { callee := .builtin .append, args := #[s, x], argTypes := #[t, t] })
    (base : Nat) (e : TypeId) (ht : P.underlying t = some (.slice e)) (hi : (P.info? e).map (fun i => (i.zero, i.size, i.bytes)) = some (some (.int .i64 0), 1, 8))
    (v : Value) (n : Nat) (xs : List Int) (hs : act.eval s = v) (hown : w.ownsRow base e 1 v n (cellsI xs))
    (b : Nat) (y : Int) (hx : act.eval x = .slice (some ⟨b, 0, none⟩) 1 1) (hc : w.cell? ⟨b, 0, none⟩ = some (.int .i64 y)) (hroom : n < 1000000000) (hbase : base ≤ w.heap.size)
    (h : ∀ g cap w', w'.ownsRow base e 1 (.slice (some ⟨g, 0, none⟩) (n + 1) cap) (n + 1) (cellsI (xs ++ [y])) → w.grownBy w' v.ownBlock → (v.ownBlock = some g ∨ g = w.heap.size) → g < w'.heap.size →
      wpList P ops Q rest (act.put o.dst (.slice (some ⟨g, 0, none⟩) (n + 1) cap)) w') : wpList P ops Q (o :: rest) act w := by
  obtain ⟨i, hi0, hz, hs1, hb1⟩ := info_parts hi
  refine wpList_append_lies w hgd s x t ho base e i (.int .i64 0) 1 8 ht hi0 hz hs1 hb1 rfl (by decide) v n (cellsI xs) hs hown ⟨b, 0, none⟩ 1 1 [.int .i64 y] hx (by simp) ?_ (by simp [Value.oneCell']) (by decide) (by unfold maxLen; omega) (by omega) hbase _ rfl ?_
  · intro j u hj
    match j, hj with
    | 0, hj =>
      simp at hj
      subst hj
      have e : (⟨b, 0, none⟩ : Addr).add 0 = ⟨b, 0, none⟩ := by simp [Addr.add]
      rw [e]; exact hc
    | j + 1, hj => simp at hj
  · intro g cap w' h1 h2 h3 h4
    rw [show cellsI xs ++ [Value.int .i64 y] = cellsI (xs ++ [y]) from cellsI_append xs [y]] at h1
    exact h g cap w' h1 h2 h3 h4
end Go.Proofs.Ytcjojcihjhhpgaa
/-
  A map from integers to pointers, told by a function from its keys to blocks.
-/
namespace Go.Proofs.Ytcjojcihjhhpgaa
open Go.RowKit Go.Maps

/-- How a pointer reads: as its block's number. -/
def ptrE (v : Value) : Option (DataW (Option Nat) × List MemPlace) :=
  match v with
  | .pointer none => some (.held none, [])
  | .pointer (some ⟨b, 0, none⟩) => some (.held (some b), [])
  | _ => none
abbrev ptrV (p : Option Nat) : Value := .pointer (p.map fun b => ⟨b, 0, none⟩)
theorem ptrE_mk (p : Option Nat) : ptrE (ptrV p) = some (.held p, []) := by cases p <;> rfl
theorem ptrE_inv {v : Value} {z : DataW (Option Nat) × List MemPlace} (h : ptrE v = some z) : ∃ p, v = ptrV p ∧ z = (.held p, []) := by
  unfold ptrE at h
  split at h
  · cases h; exact ⟨none, rfl, rfl⟩
  · cases h; exact ⟨some _, rfl, rfl⟩
  · cases h
theorem keyI : Keyed Try.prog 3 := int_keyed Try.underlying3
theorem isKeyI (x : Int) : WideAt.IsKeyLit (.int .i64 x) := by first | trivial | exact ⟨⟩ | simp [WideAt.IsKeyLit]
/-- Block b is a map that leads from x to the block f x. -/
def PM (w : World) (b n : Nat) (f : Int → Option Nat) : Prop :=
  ∃ D : DataW (Option Nat), w.ownsMap Try.prog 3 ptrE b n D ∧ ∀ x : Int, Maps.has D (.int .i64 x) = (f x).isSome ∧ D.atKey (.int .i64 x) (.held none) = .held (f x)
def updO {α : Type} (f : Int → α) (x : Int) (v : α) : Int → α := fun y => if y = x then v else f y
theorem updO_at {α : Type} (f : Int → α) (x : Int) (v : α) : updO f x v x = v := by simp [updO]
theorem updO_ne {α : Type} (f : Int → α) {x y : Int} (v : α) (h : y ≠ x) : updO f x v y = f y := by simp [updO, h]
theorem wfI (x : Int) (h1 : -9223372036854775808 ≤ x) (h2 : x ≤ 9223372036854775807) : (Lit.int .i64 x).wf = true := by simp [Lit.wf, IntKind.min, IntKind.max, IntKind.signed, IntKind.bits]; omega
theorem litI_ne {x y : Int} (h : y ≠ x) : (Lit.int .i64 y) ≠ (Lit.int .i64 x) := fun e => h (by injection e)
theorem PM.made (w : World) : PM (w.alloc (.map #[] 0)) w.heap.size 0 (fun _ => none) :=
  ⟨_, World.ownsMap_made w Try.prog 3 ptrE, fun x => ⟨by simp [Maps.has], rfl⟩⟩
theorem PM.kept {w w' : World} {b n : Nat} {f : Int → Option Nat} (h : PM w b n f) {row : Option Nat} (hg : w.grownBy w' row) (hne : some b ≠ row) : PM w' b n f := by
  obtain ⟨D, h1, h2⟩ := h
  exact ⟨D, h1.kept hg hne, h2⟩
theorem PM.later {w w' : World} {b n : Nat} {f : Int → Option Nat} (h : PM w b n f) (hb : Below w.heap.size w w') : PM w' b n f := h.kept (row := none) (grown_of_below hb none) (by simp)
theorem PM.mono {w : World} {b n n' : Nat} {f : Int → Option Nat} (h : PM w b n f) (hn : n ≤ n') : PM w b n' f := by
  obtain ⟨D, h1, h2⟩ := h
  exact ⟨D, h1.mono hn, h2⟩
theorem PM.far {w : World} {b n : Nat} {f : Int → Option Nat} (h : PM w b n f) {a : Addr} (ha : b ≠ a.block) (u : Value) : PM (w.setCell a u) b n f := by
  obtain ⟨D, h1, h2⟩ := h
  exact ⟨D, h1.setCell ha u, h2⟩
theorem PM.lt {w : World} {b n : Nat} {f : Int → Option Nat} (h : PM w b n f) : b < w.heap.size := by
  obtain ⟨D, h1, h2⟩ := h
  exact h1.lt
theorem PM.blo {w : World} {b n g : Nat} {f : Int → Option Nat} {t : TypeId} {cs : Array Value} (h : PM w b n f) (hb : Blo w g t cs) : b ≠ g := by
  rintro rfl
  obtain ⟨D, ⟨es, clock, hx, _⟩, _⟩ := h
  unfold Blo at hb
  rw [hx] at hb
  cases hb
section
variable (w : World) {ops : Array Oper} {rest : List Oper} {o : Oper} {a : Act} {Q : Exit → Act → World → Prop}
theorem wp_look_ok (hg : o.guard = none) (m x : Operand) (t : TypeId) (hop : o.op = Op.lookup t m x true) (e : TypeId) (ht : Try.prog.underlying t = some (.map 3 e)) (hz : (zeroValue e).run Try.prog w = .ok (.pointer none) w) (b n : Nat) (f : Int → Option Nat)
    (hm : a.eval m = .map (some b)) (hown : PM w b n f) (k : Int) (hx : a.eval x = .int .i64 k) (hkw : (Lit.int .i64 k).wf = true)
    (hK : wpList Try.prog ops Q rest (a.put o.dst (.tuple #[ptrV (f k), .bool (f k).isSome])) w) : wpList Try.prog ops Q (o :: rest) a w := by
  obtain ⟨D, h1, h2⟩ := hown
  refine wpList_lookup_own_ok w hg m x t hop 3 e keyI ht ptrE hz (.held none) [] rfl b n D hm h1 _ (.int .i64 k) hx (keyOf_int_mk Try.underlying3 hkw) ?_
  intro v ps hv
  obtain ⟨p, rfl, hp⟩ := ptrE_inv hv
  have e1 := (h2 k).2
  have e2 : D.atKey (.int .i64 k) (.held none) = .held p := congrArg Prod.fst hp
  rw [e2] at e1
  cases e1
  rw [(h2 k).1]
  exact hK
theorem wp_look (hg : o.guard = none) (m x : Operand) (t : TypeId) (hop : o.op = Op.lookup t m x false) (e : TypeId) (ht : Try.prog.underlying t = some (.map 3 e)) (hz : (zeroValue e).run Try.prog w = .ok (.pointer none) w) (b n : Nat) (f : Int → Option Nat)
    (hm : a.eval m = .map (some b)) (hown : PM w b n f) (k : Int) (hx : a.eval x = .int .i64 k) (hkw : (Lit.int .i64 k).wf = true)
    (hK : wpList Try.prog ops Q rest (a.put o.dst (ptrV (f k))) w) : wpList Try.prog ops Q (o :: rest) a w := by
  obtain ⟨D, h1, h2⟩ := hown
  refine wpList_plain hg fun K' hK' => ?_
  obtain ⟨v, ps, hrun, hv⟩ := h1.lookup keyI ht hz (zd := .held none) (zp := []) rfl (key := .int .i64 k) (kl := .int .i64 k) (keyOf_int_mk Try.underlying3 hkw)
  obtain ⟨p, rfl, hp⟩ := ptrE_inv hv
  have e1 := (h2 k).2
  have e2 : D.atKey (.int .i64 k) (.held none) = .held p := congrArg Prod.fst hp
  rw [e2] at e1
  cases e1
  unfold Oper.wp
  simp [execOp, hop, hm, hx, hrun, Result.andThen]
  exact hK' _ _ hK
theorem wp_look_ok_some (hg : o.guard = none) (m x : Operand) (t : TypeId) (hop : o.op = Op.lookup t m x true) (e : TypeId) (ht : Try.prog.underlying t = some (.map 3 e)) (hz : (zeroValue e).run Try.prog w = .ok (.pointer none) w) (b n : Nat) (f : Int → Option Nat)
    (hm : a.eval m = .map (some b)) (hown : PM w b n f) (k : Int) (hx : a.eval x = .int .i64 k) (hkw : (Lit.int .i64 k).wf = true) (g : Nat) (hf : f k = some g)
    (hK : wpList Try.prog ops Q rest (a.put o.dst (.tuple #[.pointer (some ⟨g, 0, none⟩), .bool true])) w) : wpList Try.prog ops Q (o :: rest) a w :=
  wp_look_ok w hg m x t hop e ht hz b n f hm hown k hx hkw (by rw [hf]; exact hK)
theorem wp_look_ok_none (hg : o.guard = none) (m x : Operand) (t : TypeId) (hop : o.op = Op.lookup t m x true) (e : TypeId) (ht : Try.prog.underlying t = some (.map 3 e)) (hz : (zeroValue e).run Try.prog w = .ok (.pointer none) w) (b n : Nat) (f : Int → Option Nat)
    (hm : a.eval m = .map (some b)) (hown : PM w b n f) (k : Int) (hx : a.eval x = .int .i64 k) (hkw : (Lit.int .i64 k).wf = true) (hf : f k = none)
    (hK : wpList Try.prog ops Q rest (a.put o.dst (.tuple #[.pointer none, .bool false])) w) : wpList Try.prog ops Q (o :: rest) a w :=
  wp_look_ok w hg m x t hop e ht hz b n f hm hown k hx hkw (by rw [hf]; exact hK)
theorem wp_look_some (hg : o.guard = none) (m x : Operand) (t : TypeId) (hop : o.op = Op.lookup t m x false) (e : TypeId) (ht : Try.prog.underlying t = some (.map 3 e)) (hz : (zeroValue e).run Try.prog w = .ok (.pointer none) w) (b n : Nat) (f : Int → Option Nat)
    (hm : a.eval m = .map (some b)) (hown : PM w b n f) (k : Int) (hx : a.eval x = .int .i64 k) (hkw : (Lit.int .i64 k).wf = true) (g : Nat) (hf : f k = some g)
    (hK : wpList Try.prog ops Q rest (a.put o.dst (.pointer (some ⟨g, 0, none⟩))) w) : wpList Try.prog ops Q (o :: rest) a w :=
  wp_look w hg m x t hop e ht hz b n f hm hown k hx hkw (by rw [hf]; exact hK)
theorem wp_look_none (hg : o.guard = none) (m x : Operand) (t : TypeId) (hop : o.op = Op.lookup t m x false) (e : TypeId) (ht : Try.prog.underlying t = some (.map 3 e)) (hz : (zeroValue e).run Try.prog w = .ok (.pointer none) w) (b n : Nat) (f : Int → Option Nat)
    (hm : a.eval m = .map (some b)) (hown : PM w b n f) (k : Int) (hx : a.eval x = .int .i64 k) (hkw : (Lit.int .i64 k).wf = true) (hf : f k = none)
    (hK : wpList Try.prog ops Q rest (a.put o.dst (.pointer none)) w) : wpList Try.prog ops Q (o :: rest) a w :=
  wp_look w hg m x t hop e ht hz b n f hm hown k hx hkw (by rw [hf]; exact hK)
theorem wp_map_put (hg : o.guard = none) (m x v : Operand) (t : TypeId) (hop : o.op = Op.mapUpdate t m x v) (e : TypeId) (ht : Try.prog.underlying t = some (.map 3 e)) (b n : Nat) (f : Int → Option Nat)
    (hm : a.eval m = .map (some b)) (hown : PM w b n f) (hn : n < 1000000) (k : Int) (hx : a.eval x = .int .i64 k) (hkw : (Lit.int .i64 k).wf = true) (p : Option Nat) (hv : a.eval v = ptrV p) (hp : p.isSome = true)
    (hK : ∀ w', PM w' b (n + 1) (updO f k p) → w.grownBy w' (some b) → wpList Try.prog ops Q rest (a.put o.dst undef) w') : wpList Try.prog ops Q (o :: rest) a w := by
  obtain ⟨D, h1, h2⟩ := hown
  refine wpList_mapUpdate_own w hg m x v t hop 3 e keyI ht ptrE b n D hm h1 (by unfold maxLen; omega) _ _ (.int .i64 k) hx hv (keyOf_int_mk Try.underlying3 hkw) (.held p) [] (ptrE_mk p) ?_
  intro w' h3 h4
  have hT := h1.tidy keyI
  refine hK w' ⟨_, h3, fun y => ?_⟩ h4
  by_cases hy : y = k
  · subst hy
    rw [updO_at, has_put_same hT.isMap (isKeyI y), atKey_put_same hT.isMap (isKeyI y), hp]
    exact ⟨rfl, rfl⟩
  · rw [updO_ne _ _ hy, has_put_other (litI_ne hy), atKey_put_other (litI_ne hy)]
    exact h2 y
theorem wp_map_del (hg : o.guard = none) (m x : Operand) (t : TypeId) (hop : o.op = Op.call { callee := Callee.builtin Builtin.delete, args := #[m, x], argTypes := #[t, 3] }) (e : TypeId) (ht : Try.prog.underlying t = some (.map 3 e)) (b n : Nat) (f : Int → Option Nat)
    (hm : a.eval m = .map (some b)) (hown : PM w b n f) (k : Int) (hx : a.eval x = .int .i64 k) (hkw : (Lit.int .i64 k).wf = true)
    (hK : ∀ w', PM w' b n (updO f k none) → w.grownBy w' (some b) → wpList Try.prog ops Q rest (a.put o.dst (.tuple #[])) w') : wpList Try.prog ops Q (o :: rest) a w := by
  obtain ⟨D, h1, h2⟩ := hown
  refine wpList_delete_own w hg m x t 3 hop e keyI ht ptrE b n D hm h1 _ (.int .i64 k) hx (keyOf_int_mk Try.underlying3 hkw) ?_
  intro w' h3 h4
  have hT := h1.tidy keyI
  refine hK w' ⟨_, h3, fun y => ?_⟩ h4.grown
  by_cases hy : y = k
  · subst hy
    rw [updO_at, has_del_same, atKey_del_same]
    exact ⟨rfl, rfl⟩
  · rw [updO_ne _ _ hy, has_del_other (litI_ne hy), atKey_del_other (litI_ne hy)]
    exact h2 y
end
end Go.Proofs.Ytcjojcihjhhpgaa
/-
  A map from texts to pointers, told by a function from its keys to blocks; its keys, each once; a range over it.
-/
namespace Go.Proofs.Ytcjojcihjhhpgaa
open Go.RowKit Go.Maps

abbrev STT := 9
instance decBA : DecidableEq ByteArray := fun a b => decidable_of_iff (a.data = b.data) ⟨fun h => by cases a; cases b; exact congrArg ByteArray.mk h, fun h => by rw [h]⟩
instance decMemBA (p : ByteArray) (l : List ByteArray) : Decidable (p ∈ l) := decidable_of_iff (∃ q ∈ l, q = p) ⟨fun ⟨q, h, e⟩ => e ▸ h, fun h => ⟨p, h, rfl⟩⟩
/-- A list without one of its elements. -/
def delS (ks : List ByteArray) (p : ByteArray) : List ByteArray := ks.filter fun q => decide (q ≠ p)
theorem delS_mem (ks : List ByteArray) (p q : ByteArray) : q ∈ delS ks p ↔ q ≠ p ∧ q ∈ ks := by
  unfold delS
  rw [List.mem_filter, decide_eq_true_eq]
  exact And.comm
theorem delS_len {ks : List ByteArray} {p : ByteArray} (hn : ks.Nodup) (hp : p ∈ ks) : (delS ks p).length + 1 = ks.length := by
  induction ks with
  | nil => cases hp
  | cons a l ih =>
    rw [List.nodup_cons] at hn
    by_cases e : a = p
    · subst e
      have h1 : delS (a :: l) a = l := by
        unfold delS
        rw [List.filter_cons, if_neg (by simp), List.filter_eq_self]
        intro q hq
        rw [decide_eq_true_eq]
        intro e
        exact hn.1 (e ▸ hq)
      rw [h1]
      rfl
    · have h1 : delS (a :: l) p = a :: delS l p := by
        unfold delS
        rw [List.filter_cons, if_pos (by simpa using e)]
      rcases List.mem_cons.1 hp with q | q
      · exact absurd q.symm e
      · rw [h1, List.length_cons, List.length_cons, ih hn.2 q]
def slit (p : ByteArray) : Lit := .string p.data.toList
def wfS (p : ByteArray) : Prop := p.size ≤ maxLen
theorem keyedS : Keyed Try.prog STT := string_keyed Try.underlying9
theorem keyOfS {p : ByteArray} (h : wfS p) : keyOf Try.prog STT (.string p) = some (slit p) := by
  have h : p.size ≤ maxLen := h
  simp [keyOf, mapKey, Try.underlying9, slit, h]
theorem slit_inj {p q : ByteArray} (e : slit p = slit q) : p = q := by
  unfold slit at e
  injection e with e
  cases p; cases q
  congr 1
  exact Array.toList_inj.1 e
theorem slit_key {p : ByteArray} (h : wfS p) : WideAt.IsKeyLit (slit p) := keyedS.key (keyOfS h)
theorem keyOfS_inv {v : Value} {kl : Lit} (h : keyOf Try.prog STT v = some kl) : ∃ p, wfS p ∧ v = .string p ∧ kl = slit p := by
  cases v <;> simp [keyOf, mapKey, Try.underlying9] at h
  rename_i s
  exact ⟨s, h.1, rfl, h.2.symm⟩
def updS {α : Type} (f : ByteArray → α) (x : ByteArray) (v : α) : ByteArray → α := fun y => if y = x then v else f y
theorem updS_at {α : Type} (f : ByteArray → α) (x : ByteArray) (v : α) : updS f x v x = v := if_pos rfl
theorem updS_ne {α : Type} (f : ByteArray → α) {x y : ByteArray} (v : α) (h : y ≠ x) : updS f x v y = f y := if_neg h
def addS (ks : List ByteArray) (p : ByteArray) : List ByteArray := if p ∈ ks then ks else ks ++ [p]
theorem addS_mem (ks : List ByteArray) (k x : ByteArray) : x ∈ addS ks k ↔ x ∈ ks ∨ x = k := by
  unfold addS
  split
  · rename_i h
    exact ⟨.inl, fun q => q.elim id (fun e => by rw [e]; exact h)⟩
  · simp
/-- Block g is a map that leads from f's keys to f's blocks; ks are its keys, each once. -/
def SM (w : World) (g n : Nat) (f : ByteArray → Option Nat) (ks : List ByteArray) : Prop :=
  ∃ D : DataW (Option Nat), w.ownsMap Try.prog STT ptrE g n D ∧ (∀ p, wfS p → Maps.has D (slit p) = (f p).isSome ∧ D.atKey (slit p) (.held none) = .held (f p)) ∧
    ks.Nodup ∧ (∀ p, p ∈ ks ↔ (f p).isSome = true) ∧ (∀ p, (f p).isSome = true → wfS p) ∧ Maps.size D = ks.length
section
variable {w w' : World} {g n : Nat} {f : ByteArray → Option Nat} {ks : List ByteArray} {t e : TypeId}
theorem SM.made (w : World) : SM (w.alloc (.map #[] 0)) w.heap.size 0 (fun _ => none) [] :=
  ⟨_, World.ownsMap_made w Try.prog STT ptrE, fun x _ => ⟨by simp [Maps.has], rfl⟩, List.nodup_nil, fun x => (by simp), fun x h => (by simp at h), rfl⟩
theorem SM.obj (h : SM w g n f ks) : ∃ es c, w.heap[g]? = some (.map es c) := by
  obtain ⟨D, ⟨es, c, hx, _⟩, _⟩ := h
  exact ⟨es, c, hx⟩
theorem SM.same (h : SM w g n f ks) (he : ∀ o, w.heap[g]? = some o → w'.heap[g]? = some o) : SM w' g n f ks := by
  obtain ⟨D, ⟨es, c, hx, hr⟩, h2⟩ := h
  exact ⟨D, ⟨es, c, he _ hx, hr⟩, h2⟩
theorem SM.lt (h : SM w g n f ks) : g < w.heap.size := by
  obtain ⟨es, c, hx⟩ := h.obj
  exact (Array.getElem?_eq_some_iff.1 hx).1
theorem SM.later (h : SM w g n f ks) (hb : Below w.heap.size w w') : SM w' g n f ks := h.same (fun o e => (hb.block g h.lt).trans e)
theorem SM.blo (h : SM w g n f ks) {k : Nat} {t : TypeId} {cs : Array Value} (hb : Blo w k t cs) : g ≠ k := by
  rintro rfl
  obtain ⟨es, c, hx⟩ := h.obj
  unfold Blo at hb
  rw [hx] at hb
  cases hb
theorem SM.mono (h : SM w g n f ks) {n' : Nat} (hn : n ≤ n') : SM w g n' f ks := by
  obtain ⟨D, h1, h2⟩ := h
  exact ⟨D, h1.mono hn, h2⟩
theorem SM.look_ok (h : SM w g n f ks) (ht : Try.prog.underlying t = some (.map STT e)) (hz : (zeroValue e).run Try.prog w = .ok (.pointer none) w) {p : ByteArray} (hp : wfS p) : (Instr.lookup t (.map (some g)) (.string p) true).run Try.prog w = .ok (.tuple #[ptrV (f p), .bool (f p).isSome]) w := by
  obtain ⟨D, h1, h2, _⟩ := h
  obtain ⟨v, ps, hrun, hv⟩ := h1.look_ok keyedS ht hz (zd := .held none) (zp := []) (ptrE_mk none) (keyOfS hp)
  obtain ⟨q, rfl, hq⟩ := ptrE_inv hv
  have e1 := (h2 p hp).2
  have e2 : D.atKey (slit p) (.held none) = .held q := congrArg Prod.fst hq
  rw [e2] at e1
  cases e1
  rw [hrun, (h2 p hp).1]
theorem SM.look (h : SM w g n f ks) (ht : Try.prog.underlying t = some (.map STT e)) (hz : (zeroValue e).run Try.prog w = .ok (.pointer none) w) {p : ByteArray} (hp : wfS p) : (Instr.lookup t (.map (some g)) (.string p) false).run Try.prog w = .ok (ptrV (f p)) w := by
  obtain ⟨D, h1, h2, _⟩ := h
  obtain ⟨v, ps, hrun, hv⟩ := h1.lookup keyedS ht hz (zd := .held none) (zp := []) (ptrE_mk none) (keyOfS hp)
  obtain ⟨q, rfl, hq⟩ := ptrE_inv hv
  have e1 := (h2 p hp).2
  have e2 : D.atKey (slit p) (.held none) = .held q := congrArg Prod.fst hq
  rw [e2] at e1
  cases e1
  exact hrun
theorem SM.len (h : SM w g n f ks) (ht : Try.prog.underlying t = some (.map STT e)) (ty : TypeId) : (Builtin.len_ #[t] ty #[.map (some g)]).run Try.prog w = .ok (.int .i64 (ks.length : Nat)) w := by
  obtain ⟨D, h1, h2, h5, h6, h8, h7⟩ := h
  rw [h1.len ht ty, h7]
theorem SM.put (h : SM w g n f ks) (ht : Try.prog.underlying t = some (.map STT e)) (hn : n < 1000000) {p : ByteArray} (hp : wfS p) (b : Nat) : ∃ w', (Instr.mapUpdate t (.map (some g)) (.string p) (.pointer (some ⟨b, 0, none⟩))).run Try.prog w = .ok () w' ∧ SM w' g (n + 1) (updS f p (some b)) (addS ks p) ∧ w.grownBy w' (some g) := by
  obtain ⟨D, h1, h2, h5, h6, h8, h7⟩ := h
  obtain ⟨w', hrun, h3, h4⟩ := h1.update keyedS ht (by unfold maxLen; omega) (keyOfS hp) (ptrE_mk (some b))
  have hT := h1.tidy keyedS
  refine ⟨w', hrun, ⟨_, h3, fun z hz => ?_, ?_, fun z => ?_, fun z hz => ?_, ?_⟩, h4⟩
  · by_cases e : z = p
    · subst e
      rw [updS_at, has_put_same hT.isMap (slit_key hz), atKey_put_same hT.isMap (slit_key hz)]
      exact ⟨rfl, rfl⟩
    · have en : slit z ≠ slit p := fun q => e (slit_inj q)
      rw [updS_ne _ _ e, has_put_other en, atKey_put_other en]
      exact h2 z hz
  · unfold addS
    split
    · exact h5
    · rename_i hk
      rw [List.nodup_append]
      exact ⟨h5, by simp, fun a ha b hb => by simp at hb; subst hb; intro e; subst e; exact hk ha⟩
  · rw [addS_mem, h6]
    by_cases e : z = p
    · subst e; rw [updS_at]; simp
    · rw [updS_ne _ _ e]; simp [e]
  · by_cases e : z = p
    · subst e; exact hp
    · rw [updS_ne _ _ e] at hz; exact h8 z hz
  · rw [size_put hT, (h2 p hp).1, h7]
    unfold addS
    by_cases hk : p ∈ ks
    · rw [if_pos hk, if_pos ((h6 p).1 hk)]
    · rw [if_neg hk, if_neg (fun e => hk ((h6 p).2 e)), List.length_append]; rfl
theorem SM.del (h : SM w g n f ks) (ht : Try.prog.underlying t = some (.map STT e)) {p : ByteArray} (hp : wfS p) (hin : p ∈ ks) (ty : TypeId) : ∃ w', (Builtin.delete_ #[t, STT] ty #[.map (some g), .string p]).run Try.prog w = .ok (.tuple #[]) w' ∧ SM w' g n (updS f p none) (delS ks p) ∧ w.grownBy w' (some g) := by
  obtain ⟨D, h1, h2, h5, h6, h8, h7⟩ := h
  obtain ⟨w', hrun, h3, h4⟩ := h1.drop keyedS ht (keyOfS hp) ty
  have hT := h1.tidy keyedS
  refine ⟨w', hrun, ⟨_, h3, fun z hz => ?_, h5.sublist List.filter_sublist, fun z => ?_, fun z hz => ?_, ?_⟩, h4.grown⟩
  · by_cases e : z = p
    · subst e
      rw [updS_at, has_del_same, atKey_del_same]
      exact ⟨rfl, rfl⟩
    · have en : slit z ≠ slit p := fun q => e (slit_inj q)
      rw [updS_ne _ _ e, has_del_other en, atKey_del_other en]
      exact h2 z hz
  · rw [delS_mem, h6]
    by_cases e : z = p
    · subst e; rw [updS_at]; simp
    · rw [updS_ne _ _ e]; simp [e]
  · by_cases e : z = p
    · subst e; rw [updS_at] at hz; cases hz
    · rw [updS_ne _ _ e] at hz; exact h8 z hz
  · have e := size_del (k := slit p) hT
    have hl := delS_len h5 hin
    rw [(h2 p hp).1, if_pos ((h6 p).1 hin), h7] at e
    omega
/-- Block r ranges over the map of block g, that leads from f's keys to f's blocks; those of done have come. -/
def SR (w : World) (g r n : Nat) (f : ByteArray → Option Nat) (done : List ByteArray) (cnt : Nat) : Prop :=
  ∃ (D : DataW (Option Nat)) (left : Lit → Bool), w.ranges Try.prog STT ptrE g r n D left cnt ∧ (∀ p, wfS p → Maps.has D (slit p) = (f p).isSome ∧ D.atKey (slit p) (.held none) = .held (f p)) ∧
    (∀ p, wfS p → left (slit p) = ((f p).isSome && !decide (p ∈ done))) ∧ done.Nodup ∧ (∀ p ∈ done, (f p).isSome = true)
theorem SM.range (h : SM w g n f ks) (ht : Try.prog.underlying t = some (.map STT e)) : ∃ w', (Instr.range t (.map (some g))).run Try.prog w = .ok (.pointer (some ⟨w.heap.size, 0, none⟩)) w' ∧ (∃ cnt, SR w' g w.heap.size n f [] cnt) ∧ Below w.heap.size w w' ∧ w'.heap.size = w.heap.size + 1 := by
  obtain ⟨D, h1, h2, -⟩ := h
  obtain ⟨w', e1, e2, e3, e4⟩ := h1.range keyedS ht
  exact ⟨w', e1, ⟨_, D, _, e2, h2, fun p hp => by rw [(h2 p hp).1]; simp, List.nodup_nil, fun p hp => by cases hp⟩, ⟨e3.os, e3.tape, e3.output, e3.size, fun i hi => e3.block i hi (by simp)⟩, e4⟩
variable {r cnt : Nat} {done : List ByteArray}
theorem SR.next (h : SR w g r n f done cnt) (ty : TypeId) :
    ((∀ p, wfS p → (f p).isSome = true → p ∈ done) ∧ (Instr.next (.pointer (some ⟨r, 0, none⟩)) false ty).run Try.prog w = .ok (.tuple #[.bool false]) w) ∨
    ∃ p b w' cnt', wfS p ∧ f p = some b ∧ p ∉ done ∧ (Instr.next (.pointer (some ⟨r, 0, none⟩)) false ty).run Try.prog w = .ok (.tuple #[.bool true, .string p, .pointer (some ⟨b, 0, none⟩)]) w' ∧
      SR w' g r n f (done ++ [p]) cnt' ∧ cnt' < cnt ∧ w.grownBy w' (some r) ∧ w'.heap.size = w.heap.size ∧ (Instr.entry (.pointer (some ⟨r, 0, none⟩))).run Try.prog w' = .ok (.tuple #[.string p, .pointer (some ⟨b, 0, none⟩)]) w' := by
  obtain ⟨D, left, h1, h2, h3, h4, h5⟩ := h
  rcases h1.next keyedS ty with ⟨-, hl, hrun⟩ | ⟨key, v, kl, y, w', cnt', hkey, hlk, hv, hat, hrun, hrg, hlt, hgr, hsz, hen⟩
  · refine .inl ⟨fun p hp hf => ?_, hrun⟩
    have := h3 p hp
    rw [hl, hf] at this
    simpa using this.symm
  · obtain ⟨p, hp, rfl, rfl⟩ := keyOfS_inv hkey
    obtain ⟨q, rfl, rfl⟩ := ptrE_inv hv
    have e1 : D.atKey (slit p) (.held none) = .held q := hat _
    rw [(h2 p hp).2] at e1
    cases e1
    have e3 := h3 p hp
    rw [hlk] at e3
    have hs : (f p).isSome = true ∧ p ∉ done := by simpa using e3.symm
    obtain ⟨b, hb⟩ := Option.isSome_iff_exists.1 hs.1
    rw [hb] at hrun hen
    refine .inr ⟨p, b, w', cnt', hp, hb, hs.2, hrun, ⟨D, _, hrg, h2, fun z hz => ?_, ?_, fun z hz => ?_⟩, hlt, hgr, hsz, hen⟩
    · rw [h3 z hz]
      by_cases e : z = p
      · subst e
        rw [WideAt.sameKey_self (slit_key hz)]
        simp
      · have hn : (slit z).sameKey (slit p) = false := by
          cases hq : (slit z).sameKey (slit p) with
          | false => rfl
          | true => exact absurd (slit_inj (WideAt.sameKey_eq hq)) e
        rw [hn]
        simp [e]
    · rw [List.nodup_append]
      exact ⟨h4, by simp, fun a ha b hb e => by
        have : b = p := by simpa using hb
        rw [e, this] at ha
        exact hs.2 ha⟩
    · rcases List.mem_append.1 hz with q | q
      · exact h5 z q
      · have : z = p := by simpa using q
        rw [this]; exact hs.1
theorem SR.kept (h : SR w g r n f done cnt) {row : Option Nat} (hg : w.grownBy w' row) (h1 : some g ≠ row) (h2 : some r ≠ row) : SR w' g r n f done cnt := by
  obtain ⟨D, left, q1, q2⟩ := h
  exact ⟨D, left, q1.kept hg h1 h2, q2⟩
theorem SR.later (h : SR w g r n f done cnt) (hb : Below w.heap.size w w') : SR w' g r n f done cnt := h.kept (grown_of_below hb none) (by simp) (by simp)
theorem SR.left_eq (h : SR w g r n f done cnt) : w.rangeLeft g r = cnt := by
  obtain ⟨D, left, q1, q2⟩ := h
  exact q1.left_eq
theorem SR.lt (h : SR w g r n f done cnt) : r < w.heap.size := by
  obtain ⟨D, left, q1, q2⟩ := h
  exact q1.lt
end
end Go.Proofs.Ytcjojcihjhhpgaa
/-
  A frame: all blocks but those of a set stand as they stood. Cells of a block set one by one.
-/
namespace Go.Proofs.Ytcjojcihjhhpgaa
open Go.RowKit

structure Out (X : Nat → Prop) (w w' : World) : Prop where
  os : w'.os = w.os
  tape : w'.tape = w.tape
  output : w'.output = w.output
  size : w.heap.size ≤ w'.heap.size
  block : ∀ i, i < w.heap.size → ¬ X i → w'.heap[i]? = w.heap[i]?
section
variable {X Y : Nat → Prop} {w w' w'' : World} {g : Nat} {t : TypeId} {cs : Array Value}
theorem Out.refl (X : Nat → Prop) (w : World) : Out X w w := ⟨rfl, rfl, rfl, Nat.le_refl _, fun _ _ _ => rfl⟩
theorem Out.trans (h : Out X w w') (k : Out Y w' w'') (hs : ∀ i, i < w.heap.size → Y i → X i) : Out X w w'' :=
  ⟨k.os.trans h.os, k.tape.trans h.tape, k.output.trans h.output, Nat.le_trans h.size k.size, fun i hi hx =>
    (k.block i (Nat.lt_of_lt_of_le hi h.size) (fun hy => hx (hs i hi hy))).trans (h.block i hi hx)⟩
theorem Out.mono (h : Out X w w') (hs : ∀ i, i < w.heap.size → X i → Y i) : Out Y w w' :=
  ⟨h.os, h.tape, h.output, h.size, fun i hi hy => h.block i hi (fun hx => hy (hs i hi hx))⟩
theorem Out.of_below (h : Below w.heap.size w w') : Out X w w' := ⟨h.os, h.tape, h.output, h.size, fun i hi _ => h.block i hi⟩
theorem Out.below {C : Nat} (h : Out X w w') (hC : C ≤ w.heap.size) (hX : ∀ i, i < w.heap.size → X i → C ≤ i) : Below C w w' :=
  ⟨h.os, h.tape, h.output, h.size, fun i hi => h.block i (by omega) (fun hx => by have := hX i (by omega) hx; omega)⟩
theorem Out.of_grown {row : Option Nat} (h : w.grownBy w' row) (hr : ∀ g, row = some g → X g) : Out X w w' :=
  ⟨h.os, h.tape, h.output, h.size, fun i hi hx => h.block i hi (fun e => hx (hr i e.symm))⟩
theorem Out.blo (h : Out X w w') (hg : Blo w g t cs) (hx : ¬ X g) : Blo w' g t cs := (h.block g hg.lt hx).trans hg
theorem Out.own {base : Nat} {e : TypeId} {size : Nat} {v : Value} {n : Nat} {xs : List Value} (h : Out X w w') (hv : w.ownsRow base e size v n xs) (hx : ∀ g, v.ownBlock = some g → ¬ X g) : w'.ownsRow base e size v n xs := by
  refine ⟨hv.1, ?_⟩
  rcases hv.2 with hn | ⟨g, cap, cur, rfl, hb, hgg, rest⟩
  · exact .inl hn
  · exact .inr ⟨g, cap, cur, rfl, hb, h.blo hgg (hx g rfl), rest⟩
theorem Out.cell {a : Addr} {v : Value} (h : Out X w w') (hc : w.cell? a = some v) (hx : ¬ X a.block) : w'.cell? a = some v :=
  (World.cell?_of_block (h.block a.block (World.block_lt_of_cell? w a hc) hx)).trans hc
theorem out_put (w : World) (p : Addr) (u : Value) (hp : X p.block) : Out X w (w.setCell p u) :=
  Out.of_grown (grown_put w p u) (fun g e => by cases e; exact hp)
theorem out_cells : ∀ (vs : List Value) (o : Nat) (w : World) (_ : X g), Out X w (w.setCells g o vs)
  | [], _, w, _ => Out.refl _ w
  | v :: r, o, w, h => (out_put w ⟨g, o, none⟩ v h).trans (out_cells r (o + 1) _ h) (fun _ _ hx => hx)
theorem out_row (w : World) (g : Nat) (cells : Array Value) (hp : X g) : Out X w (w.setRow g cells) := by
  refine ⟨rfl, rfl, rfl, by simp [World.setRow], fun i hi hx => ?_⟩
  simp only [World.setRow]
  rw [Array.getElem?_modify, if_neg (fun e => hx (by rw [← e]; exact hp))]
theorem blo_cells : ∀ (vs : List Value) (o : Nat) (w : World) (cs : Array Value), Blo w g t cs → ∃ cs', Blo (w.setCells g o vs) g t cs' ∧ cs'.size = cs.size ∧ ∀ j, cs'[j]? = if o ≤ j ∧ j < o + vs.length ∧ j < cs.size then vs[j - o]? else cs[j]? := by
  intro vs
  induction vs with
  | nil => intro o w cs h; exact ⟨cs, h, rfl, fun j => by rw [if_neg]; simp; omega⟩
  | cons v vs ih =>
    intro o w cs h
    obtain ⟨cs', h1, h2, h3⟩ := ih (o + 1) (w.setCell ⟨g, o, none⟩ v) (cs.setIfInBounds o v) (h.put o v)
    refine ⟨cs', h1, by simpa using h2, fun j => ?_⟩
    rw [h3 j, Array.size_setIfInBounds, List.length_cons]
    by_cases c1 : o + 1 ≤ j ∧ j < o + 1 + vs.length ∧ j < cs.size
    · rw [if_pos c1, if_pos (by omega), show j - o = (j - (o + 1)) + 1 by omega, List.getElem?_cons_succ]
    · rw [if_neg c1, Array.getElem?_setIfInBounds]
      by_cases e : o = j
      · subst e
        rw [if_pos rfl]
        by_cases hs : o < cs.size
        · rw [if_pos hs, if_pos (by omega), Nat.sub_self, List.getElem?_cons_zero]
        · rw [if_neg hs, if_neg (by omega), Array.getElem?_eq_none (by omega)]
      · rw [if_neg e, if_neg (by omega)]
theorem blo_row (h : Blo w g t cs) (cells : Array Value) : Blo (w.setRow g cells) g t cells := by
  unfold Blo at h ⊢
  simp [World.setRow, Array.getElem?_modify, h]
end
/-- 'copy' of elements of whatever size. -/
theorem run_copy_many {P : Program} (w : World) (dT sT ty elem : TypeId) (sz b o dLen dCap : Nat) (a : Addr) (sLen sCap : Nat) (cs : List Value)
    (hu : P.underlying dT = some (.slice elem)) (hs : (P.info? elem).map (·.size) = some sz) (hn : cs.length = Nat.min sLen dLen * sz)
    (hsrc : ∀ j v, cs[j]? = some v → w.cell? (a.add j) = some v) (hc : ∀ j, j < cs.length → (w.cell? ⟨b, o + j, none⟩).isSome = true) (hf : ∀ j, j < cs.length → w.frozen? ⟨b, o + j, none⟩ = false) (h1 : ∀ v ∈ cs, v.oneCell' = true) :
    (Builtin.copy_ #[dT, sT] ty #[.slice (some ⟨b, o, none⟩) dLen dCap, .slice (some a) sLen sCap]).run P w = .ok (goInt (Nat.min sLen dLen)) (w.setCells b o cs) := by
  have hl := run_loadCells_list (P := P) w a cs hsrc
  have hst := run_storeCells_cells (P := P) b o cs 0 w (by simpa using hc) (by simpa using hf) h1
  cases hq : P.info? elem with
  | none => simp [hq] at hs
  | some i =>
    have hi : i.size = sz := by simpa [hq] using hs
    simp [Builtin.copy_, run_underlying hu, Builtin.lenOf, Builtin.firstCells, sizeOf, typeInfo, hq, hi, ← hn, hl, hst]
theorem wpList_copy_many {P : Program} {w : World} {ops : Array Oper} {rest : List Oper} {o : Oper} {a : Act} {Q : Exit → Act → World → Prop} (hgd : o.guard = none) (d s : Operand) (dT sT : TypeId)
    (ho : o.op = .call { callee := .builtin .copy, args := #[d, s], argTypes := #[dT, sT] }) (elem : TypeId) (sz : Nat) (hu : P.underlying dT = some (.slice elem)) (hsz : (P.info? elem).map (·.size) = some sz)
    (g off dLen dCap : Nat) (ad : Addr) (sLen sCap : Nat) (hd : a.eval d = .slice (some ⟨g, off, none⟩) dLen dCap) (hs : a.eval s = .slice (some ad) sLen sCap) (cs : List Value) (hn : cs.length = Nat.min sLen dLen * sz)
    (hsrc : ∀ j v, cs[j]? = some v → w.cell? (ad.add j) = some v) (ht : w.there g off cs.length) (h1 : ∀ v ∈ cs, v.oneCell' = true)
    (h : wpList P ops Q rest (a.put o.dst (goInt (Nat.min sLen dLen))) (w.setCells g off cs)) : wpList P ops Q (o :: rest) a w := by
  refine wpList_plain hgd fun K hK => ?_
  have hrun := run_copy_many (P := P) w dT sT o.type elem sz g off dLen dCap ad sLen sCap cs hu hsz hn hsrc (fun j hj => (ht j hj).1) (fun j hj => (ht j hj).2) h1
  unfold Oper.wp
  simp [execOp, ho, resolve, invoke, builtin, hd, hs, hrun, Result.andThen]
  exact hK _ _ h
theorem step_copy_many {P : Program} {w : World} {ops : Array Oper} {o : Oper} {a : Act} {K : Act → World → Prop} {Q : Exit → Act → World → Prop} {E : Prop} (hgd : o.guard = none) (d s : Operand) (dT sT : TypeId)
    (ho : o.op = .call { callee := .builtin .copy, args := #[d, s], argTypes := #[dT, sT] }) (elem : TypeId) (sz : Nat) (hu : P.underlying dT = some (.slice elem)) (hsz : (P.info? elem).map (·.size) = some sz)
    (g off dLen dCap : Nat) (ad : Addr) (sLen sCap : Nat) (hd : a.eval d = .slice (some ⟨g, off, none⟩) dLen dCap) (hs : a.eval s = .slice (some ad) sLen sCap) (cs : List Value) (hn : cs.length = Nat.min sLen dLen * sz)
    (hsrc : ∀ j v, cs[j]? = some v → w.cell? (ad.add j) = some v) (ht : w.there g off cs.length) (h1 : ∀ v ∈ cs, v.oneCell' = true)
    (h : K (a.put o.dst (goInt (Nat.min sLen dLen))) (w.setCells g off cs)) : if Region.wanted o (yielded ops a.tmps) = true then Oper.wp P o a w K Q else E := by
  rw [if_pos (by simp [Region.wanted, hgd])]
  have hrun := run_copy_many (P := P) w dT sT o.type elem sz g off dLen dCap ad sLen sCap cs hu hsz hn hsrc (fun j hj => (ht j hj).1) (fun j hj => (ht j hj).2) h1
  unfold Oper.wp
  simp [execOp, ho, resolve, invoke, builtin, hd, hs, hrun, Result.andThen]
  exact h
theorem range_src {w : World} {b o : Nat} {cs : List Value} (h : w.rangeAt b o cs) : ∀ j v, cs[j]? = some v → w.cell? ((⟨b, o, none⟩ : Addr).add j) = some v := fun j v hv => by
  rw [Addr.add_mid]; exact h j v hv
/-- Steps of a region that draws its order. -/
theorem step_load_mid {P : Program} {ops : Array Oper} {o : Oper} {a : Act} {w : World} {K : Act → World → Prop} {Q : Exit → Act → World → Prop} {E : Prop} (hg : o.guard = none) (ty : TypeId) (x : Operand) (ho : o.op = .load ty x)
    (b off : Nat) (hx : a.eval x = .pointer (some ⟨b, off, none⟩)) (cs : List Value) (d : TypeDesc) (hc : w.rangeAt b off cs)
    (hu : P.underlying ty = some d) (hd : d.isRow = true) (hi : (P.info? ty).map (·.size) = some cs.length)
    (h : K (a.put o.dst (.agg cs.toArray)) w) : if Region.wanted o (yielded ops a.tmps) = true then Oper.wp P o a w K Q else E := by
  rw [if_pos (by simp [Region.wanted, hg])]
  exact wp_load_mid ty x ho b off hx cs d hc hu hd hi h
theorem step_store_mid {P : Program} {ops : Array Oper} {o : Oper} {a : Act} {w : World} {K : Act → World → Prop} {Q : Exit → Act → World → Prop} {E : Prop} (hg : o.guard = none) (ty : TypeId) (x y : Operand) (ho : o.op = .store ty x y)
    (b off : Nat) (cells : List Value) (hx : a.eval x = .pointer (some ⟨b, off, none⟩)) (hy : a.eval y = .agg cells.toArray)
    (ht : w.there b off cells.length) (hi : (P.info? ty).map (·.size) = some cells.length) (h1 : ∀ v ∈ cells, v.oneCell' = true)
    (h : K (a.put o.dst undef) (w.setCells b off cells)) : if Region.wanted o (yielded ops a.tmps) = true then Oper.wp P o a w K Q else E := by
  rw [if_pos (by simp [Region.wanted, hg])]
  exact wp_store_mid ty x y ho b off cells.toArray hx hy (by simpa using ht) (by simpa using hi) (all_oneCell_toArray h1) (by simpa using h)
end Go.Proofs.Ytcjojcihjhhpgaa
/-
  Small laws of walks over any program: a slice of bytes that is read, told by a list of numbers; its text; bytes put behind what the call owns.
-/
namespace Go.Proofs.Ytcjojcihjhhpgaa
open Go.RowKit

/-- What a slice of bytes that is read holds: bytes; and where there are any, cells. -/
def Bytes (w : World) (a : Option Addr) (l : List Nat) : Prop :=
  (∀ x ∈ l, x < 256) ∧ l.length ≤ 9223372036854775807 ∧ (l ≠ [] → ∃ b o, a = some ⟨b, o, none⟩ ∧ ∀ i, i < l.length → w.cell? ⟨b, o + i, none⟩ = some (.int .u8 (l.getD i 0 : Nat)))
theorem getD_byte {l : List Nat} (h : ∀ x ∈ l, x < 256) (k : Nat) : l.getD k 0 < 256 := by
  rw [List.getD_eq_getElem?_getD]
  by_cases hk : k < l.length
  · rw [List.getElem?_eq_getElem hk]; exact h _ (List.getElem_mem hk)
  · rw [List.getElem?_eq_none (by omega)]; decide
theorem Bytes.none (w : World) (a : Option Addr) : Bytes w a [] := ⟨(fun _ h => by cases h), by decide, fun h => absurd rfl h⟩
theorem Bytes.below {w w' : World} {a : Option Addr} {l : List Nat} (h : Bytes w a l) (hb : Below w.heap.size w w') : Bytes w' a l :=
  ⟨h.1, h.2.1, fun hl => by
    obtain ⟨b, o, ha, hc⟩ := h.2.2 hl
    exact ⟨b, o, ha, fun i hi => cell_later hb (hc i hi)⟩⟩
/-- A row of bytes that was just laid. -/
theorem Bytes.laid (w : World) (l : List Nat) (C : Array Value) (t : TypeId) (fr : Nat × Nat) (h1 : ∀ x ∈ l, x < 256) (h2 : l.length ≤ 9223372036854775807)
    (hC : ∀ i, i < l.length → C[i]? = some (.int .u8 (l.getD i 0 : Nat))) : Bytes (w.alloc (.cells C t fr)) (some ⟨w.heap.size, 0, Option.none⟩) l :=
  ⟨h1, h2, fun _ => ⟨w.heap.size, 0, rfl, fun i hi => by rw [World.cell?_alloc_mark, Nat.zero_add, hC i hi]⟩⟩

/-- The text of bytes. -/
def strOf (l : List Nat) : ByteArray := strOfNums (l.map fun (x : Nat) => (x : Int))
theorem strOf_toList (l : List Nat) : (strOf l).data.toList = l.map UInt8.ofNat := by
  unfold strOf strOfNums
  simp [List.map_map, Function.comp_def]
theorem strOf_inj {l m : List Nat} (hl : ∀ x ∈ l, x < 256) (hm : ∀ x ∈ m, x < 256) (h : strOf l = strOf m) : l = m := by
  have e : l.map UInt8.ofNat = m.map UInt8.ofNat := by rw [← strOf_toList, ← strOf_toList, h]
  have e2 : ∀ k : List Nat, (∀ x ∈ k, x < 256) → (k.map UInt8.ofNat).map UInt8.toNat = k := by
    intro k hk
    rw [List.map_map]
    conv => rhs; rw [← List.map_id k]
    apply List.map_congr_left
    intro x hx
    simp only [Function.comp_apply, id_eq, UInt8.toNat_ofNat']
    exact Nat.mod_eq_of_lt (hk x hx)
  rw [← e2 l hl, ← e2 m hm, e]

theorem run_str {P : Program} (w : World) (T S e : TypeId) (hs : P.underlying T = some (.slice e)) (he : P.underlying e = some (.int .u8)) (hd : P.underlying S = some .string)
    (l : List Nat) (a : Option Addr) (n cap : Nat) (hn : n = l.length) (h : Bytes w a l) : (convert T S (.slice a n cap)).run P w = .ok (.string (strOf l)) w := by
  subst hn
  by_cases hl : l = []
  · subst hl
    have e0 : strOf [] = ⟨#[]⟩ := rfl
    rw [e0]
    cases a with
    | none => exact Lib.run_convert_nil_bytes w T S e cap hs he hd
    | some x =>
      rw [run_convert_bytes_string w T S e (some x) _ cap hs he hd, run_bytesToString w x _ cap [] rfl]
      rfl
  · obtain ⟨b, o, rfl, hc⟩ := h.2.2 hl
    exact run_convert_bytes_arg w T e hs he b o l.length cap (l.map fun (x : Nat) => (x : Int)) (by simp) (fun i hi => by
      rw [hc i hi]
      simp [List.getD_eq_getElem?_getD, List.getElem?_map, List.getElem?_eq_getElem hi]) S hd

/-- The cells of bytes. -/
def cellsB (l : List Nat) : List Value := l.map fun (x : Nat) => Value.int .u8 (x : Int)
theorem cellsB_length (l : List Nat) : (cellsB l).length = l.length := by simp [cellsB]
theorem cellsB_get (l : List Nat) (i : Nat) (hi : i < l.length) : (cellsB l)[i]? = some (.int .u8 (l.getD i 0 : Nat)) := by
  simp [cellsB, List.getD_eq_getElem?_getD, List.getElem?_eq_getElem hi]
theorem cellsB_append (l m : List Nat) : cellsB l ++ cellsB m = cellsB (l ++ m) := by simp [cellsB]
theorem cellsB_inj {l m : List Nat} (h : cellsB l = cellsB m) : l = m := by
  have := congrArg (List.map fun v => match v with | Value.int _ n => n.toNat | _ => 0) h
  simpa [cellsB, List.map_map, Function.comp_def] using this

/-- What the call owns, read as bytes. -/
theorem Bytes.own {w : World} {base : Nat} {e : TypeId} {v : Value} {n : Nat} {l : List Nat} (h : w.ownsRow base e 1 v n (cellsB l)) (h1 : ∀ x ∈ l, x < 256) :
    ∃ a cap, v = .slice a n cap ∧ n = l.length ∧ Bytes w a l ∧ (a = Option.none → l = [] ∧ cap = 0) := by
  have hlen : n = l.length := by have := h.1; rw [cellsB_length, Nat.mul_one] at this; exact this.symm
  obtain ⟨_, ⟨rfl, h0⟩ | ⟨g, cap, cur, rfl, hg, hh, hc1, hc2, hs, ht⟩⟩ := id h
  · have : l = [] := List.eq_nil_of_length_eq_zero (by omega)
    subst this
    exact ⟨Option.none, 0, by rw [h0], hlen, Bytes.none _ _, fun _ => ⟨rfl, rfl⟩⟩
  · refine ⟨some ⟨g, 0, Option.none⟩, cap, rfl, hlen, ⟨h1, by unfold maxLen at hc2; omega, fun _ => ⟨g, 0, rfl, fun i hi => ?_⟩⟩, fun h => by cases h⟩
    rw [Nat.zero_add, h.cellAt i (by omega), cellsB_get l i hi]

/-- 'append(own, bytes...)'. -/
theorem wp_append_bytes {P : Program} {w : World} {ops : Array Oper} {rest : List Oper} {o : Oper} {act : Act} {Q : Exit → Act → World → Prop} (hgd : o.guard = none) (s x : Operand) (t : TypeId)
    (ho : o.op = .call { callee := .builtin .append, args := #[s, x], argTypes := #[t, t] })
    (base : Nat) (e : TypeId) (ht : P.underlying t = some (.slice e)) (hi : (P.info? e).map (fun i => (i.zero, i.size, i.bytes)) = some (some (.int .u8 0), 1, 1))
    (v : Value) (n : Nat) (xs : List Nat) (hs : act.eval s = v) (hown : w.ownsRow base e 1 v n (cellsB xs)) (hxs : ∀ y ∈ xs, y < 256)
    (a : Option Addr) (m cap : Nat) (l : List Nat) (hx : act.eval x = .slice a m cap) (hm : m = l.length) (hl : Bytes w a l) (ha : a = none → l = [] ∧ cap = 0)
    (hroom : n + m ≤ 140737488355328) (hbase : base ≤ w.heap.size)
    (h : ∀ a' cap' w', w'.ownsRow base e 1 (.slice a' (n + m) cap') (n + m) (cellsB (xs ++ l)) → w.grownBy w' v.ownBlock → Bytes w' a' (xs ++ l) → n + m = (xs ++ l).length →
      wpList P ops Q rest (act.put o.dst (.slice a' (n + m) cap')) w') : wpList P ops Q (o :: rest) act w := by
  obtain ⟨i, hi0, hz, hs1, hb1⟩ := info_parts hi
  subst hm
  have hbytes : ∀ y ∈ xs ++ l, y < 256 := fun y hy => by
    rcases List.mem_append.1 hy with h | h
    · exact hxs y h
    · exact hl.1 y h
  have fin : ∀ v' w', w'.ownsRow base e 1 v' (n + l.length) (cellsB (xs ++ l)) → w.grownBy w' v.ownBlock → wpList P ops Q rest (act.put o.dst v') w' := by
    intro v' w' h1 h2
    obtain ⟨a', cap', rfl, hn, hB, _⟩ := Bytes.own h1 hbytes
    exact h a' cap' w' h1 h2 hB hn
  cases a with
  | none =>
    obtain ⟨rfl, rfl⟩ := ha rfl
    refine wpList_append_own_none hgd s x t ho base e i 1 ht hi0 v n (cellsB xs) hs hown hx ?_
    have := fin v w (by simpa using hown) ⟨rfl, rfl, rfl, Nat.le_refl _, fun _ _ _ => rfl⟩
    exact this
  | some ad =>
    refine wpList_append_own w hgd s x t ho base e i (.int .u8 0) 1 1 ht hi0 hz hs1 hb1 rfl (by decide) v n (cellsB xs) hs hown ad l.length cap (cellsB l) hx (by rw [cellsB_length, Nat.mul_one]) ?_ ?_ (by unfold maxLen; omega) (by omega) hbase ?_
    · intro j u hj
      have hjl : j < l.length := by
        rcases Nat.lt_or_ge j l.length with h | h
        · exact h
        · rw [List.getElem?_eq_none (by rw [cellsB_length]; exact h)] at hj; cases hj
      have hne : l ≠ [] := fun h => by subst h; simp at hjl
      obtain ⟨b, off, he, hc⟩ := hl.2.2 hne
      cases he
      rw [cellsB_get l j hjl] at hj
      cases hj
      rw [Addr.add_lit]; exact hc j hjl
    · intro u hu
      simp only [cellsB, List.mem_map] at hu
      obtain ⟨_, _, rfl⟩ := hu
      rfl
    · intro v' w' h1 h2 _
      rw [cellsB_append] at h1
      exact fin v' w' h1 h2

/-- What the walk is told of a slice of integers that came in. -/
def IsRow (k : IntKind) (w : World) (a : Option Addr) (len cap : Nat) (zs : List Int) : Prop :=
  (a = none ∧ len = 0 ∧ cap = 0 ∧ zs = []) ∨
  ∃ x, a = some x ∧ len ≤ cap ∧ cap ≤ maxLen ∧ zs.length = cap ∧ (∀ i, i < zs.length → w.cell? (x.add i) = some (.int k (zs.getD i 0))) ∧ ∀ n ∈ zs, (Lit.int k n).wf = true
theorem IsRow.bytes {w : World} {a : Option Addr} {len cap : Nat} {zs : List Int} (h : IsRow .u8 w a len cap zs) :
    ∃ l : List Nat, len = l.length ∧ Bytes w a l ∧ (a = none → l = [] ∧ cap = 0) ∧ len ≤ 9223372036854775807 ∧ len ≤ cap := by
  rcases h with ⟨rfl, rfl, rfl, rfl⟩ | ⟨x, rfl, h1, h2, h3, h4, h5⟩
  · exact ⟨[], rfl, Bytes.none _ _, fun _ => ⟨rfl, rfl⟩, by decide, by decide⟩
  · have hm : (maxLen : Nat) = 9223372036854775807 := by decide
    have hb : ∀ n ∈ zs, 0 ≤ n ∧ n < 256 := fun n hn => by
      have := h5 n hn
      have := Go.bounds_u8 this
      omega
    refine ⟨(zs.take len).map Int.toNat, by simp; omega, ⟨?_, by simp; omega, ?_⟩, (fun h => by cases h), by omega, h1⟩
    · intro y hy
      obtain ⟨n, hn, rfl⟩ := List.mem_map.1 hy
      have := hb n (List.mem_of_mem_take hn)
      omega
    · intro hne
      have hlen : 0 < len := by
        rcases Nat.eq_zero_or_pos len with h | h
        · subst h; simp at hne
        · exact h
      obtain ⟨b, off, rfl, hc⟩ := Go.ints_at h4 (by omega)
      refine ⟨b, off, rfl, fun i hi => ?_⟩
      simp at hi
      rw [hc i (by omega)]
      have hiz : i < zs.length := by omega
      have hil : i < len := by omega
      have hg : zs.getD i 0 = zs[i] := by rw [List.getD_eq_getElem?_getD, List.getElem?_eq_getElem hiz]; rfl
      have hp := (hb zs[i] (List.getElem_mem hiz)).1
      rw [hg, List.getD_eq_getElem?_getD, List.getElem?_map, List.getElem?_take_of_lt hil, List.getElem?_eq_getElem hiz]
      simp [Int.toNat_of_nonneg hp]

/-- 's[:k]' of bytes. -/
theorem slice_head {P : Program} (T e : TypeId) (ht : P.underlying T = some (.slice e)) (hz : ∀ w, (Go.sizeOf e).run P w = .ok 1 w) {w : World} {a : Option Addr} {l : List Nat} {n cap : Nat} (hn : n = l.length)
    (h : Bytes w a l) (ha : a = none → l = [] ∧ cap = 0) (hc : n ≤ cap) (k : Nat) (hk : k ≤ n) :
    ∃ a', (∀ W, (Instr.slice T (.slice a n cap) none (some (.int .i64 (k : Int))) none).run P W = .ok (.slice a' k cap) W) ∧ Bytes w a' (l.take k) ∧ (a' = none → l.take k = [] ∧ cap = 0) := by
  have ht' : P.underlying T = some (.slice (P.elem T)) := by simp [Program.elem, ht]
  have he : P.elem T = e := by simp [Program.elem, ht]
  refine ⟨if cap = 0 then a else a.map (·.add (0 * 1)), fun W => ?_, ?_, ?_⟩
  · rw [run_slice_h W T _ _ _ ht' .i64 _ (by omega) (by omega), he, hz]
    simp [Result.andThen, sliced]
  · refine ⟨fun x hx => h.1 x (List.mem_of_mem_take hx), by have := h.2.1; simp; omega, fun hne => ?_⟩
    have hl : l ≠ [] := fun e => by subst e; simp at hne
    obtain ⟨b, o, rfl, hcell⟩ := h.2.2 hl
    have hlen : 0 < l.length := List.length_pos_iff.2 hl
    rw [if_neg (by omega)]
    refine ⟨b, o, by simp [Addr.add_lit], fun i hi => ?_⟩
    simp only [List.length_take] at hi
    rw [hcell i (by omega), List.getD_eq_getElem?_getD, List.getD_eq_getElem?_getD, List.getElem?_take_of_lt (by omega)]
  · intro hn'
    cases a with
    | none => obtain ⟨rfl, h0⟩ := ha rfl; exact ⟨by simp, h0⟩
    | some x => split at hn' <;> simp at hn'

/-- 's[k:]' of bytes. -/
theorem slice_tail {P : Program} (T e : TypeId) (ht : P.underlying T = some (.slice e)) (hz : ∀ w, (Go.sizeOf e).run P w = .ok 1 w) {w : World} {a : Option Addr} {l : List Nat} {n cap : Nat} (hn : n = l.length)
    (h : Bytes w a l) (ha : a = none → l = [] ∧ cap = 0) (hc : n ≤ cap) (k : Nat) (hk : k ≤ n) :
    ∃ a', (∀ W, (Instr.slice T (.slice a n cap) (some (.int .i64 (k : Int))) none none).run P W = .ok (.slice a' (n - k) (cap - k)) W) ∧ Bytes w a' (l.drop k) ∧ (a' = none → l.drop k = [] ∧ cap - k = 0) := by
  have ht' : P.underlying T = some (.slice (P.elem T)) := by simp [Program.elem, ht]
  have he : P.elem T = e := by simp [Program.elem, ht]
  refine ⟨if cap = k then a else a.map (·.add (k * 1)), fun W => ?_, ?_, ?_⟩
  · rw [run_slice_l W T _ _ _ ht' .i64 _ (by omega) (by omega), he, hz]
    simp [Result.andThen, sliced]
  · refine ⟨fun x hx => h.1 x (List.mem_of_mem_drop hx), by have := h.2.1; simp; omega, fun hne => ?_⟩
    have hlen : k < l.length := by
      rcases Nat.lt_or_ge k l.length with hh | hh
      · exact hh
      · exact absurd (List.drop_eq_nil_of_le hh) hne
    have hl : l ≠ [] := fun e => by subst e; simp at hlen
    obtain ⟨b, o, rfl, hcell⟩ := h.2.2 hl
    rw [if_neg (by omega)]
    refine ⟨b, o + k, by simp [Addr.add_lit], fun i hi => ?_⟩
    simp only [List.length_drop] at hi
    rw [Nat.add_assoc, hcell (k + i) (by omega), List.getD_eq_getElem?_getD, List.getD_eq_getElem?_getD, List.getElem?_drop]
  · intro hn'
    cases a with
    | none => obtain ⟨rfl, h0⟩ := ha rfl; exact ⟨by simp, by omega⟩
    | some x => split at hn' <;> simp at hn'
theorem flip_same {P : Program} {f : FuncId} {args : Array Value} {w : World} {v : Value} (h : Calls P f args w fun e w' => e = .returned v ∧ w = w') : Calls P f args w fun e w' => e = .returned v ∧ w' = w :=
  h.mono fun _ _ ⟨h1, h2⟩ => ⟨h1, h2.symm⟩
theorem Bytes.drewN {w : World} {a : Option Addr} {l : List Nat} (h : Bytes w a l) (q : Nat) : Bytes (w.drewN q) a l :=
  ⟨h.1, h.2.1, fun hl => by
    obtain ⟨b, o, ha, hc⟩ := h.2.2 hl
    exact ⟨b, o, ha, fun i hi => by rw [World.cell?_drewN]; exact hc i hi⟩⟩
/-- 'int(uint(x) % uint(n + 1))'. -/
theorem cut_mod (x : Int) (n : Nat) (hn : n < 4611686018427387904) : ∃ k : Nat, k ≤ n ∧ wrap64 ((IntKind.u64.wrap x).tmod ((n : Int) + 1)) = (k : Int) := by
  have h0 : 0 ≤ IntKind.u64.wrap x := by rw [IntKind.wrap_u64]; omega
  rw [Int.tmod_eq_emod_of_nonneg h0]
  generalize IntKind.u64.wrap x = y at *
  refine ⟨(y % ((n : Int) + 1)).toNat, ?_, ?_⟩
  · have := Int.emod_lt_of_pos y (show (0 : Int) < (n : Int) + 1 by omega)
    have := Int.emod_nonneg y (show ((n : Int) + 1) ≠ 0 by omega)
    omega
  · have h1 := Int.emod_lt_of_pos y (show (0 : Int) < (n : Int) + 1 by omega)
    have h2 := Int.emod_nonneg y (show ((n : Int) + 1) ≠ 0 by omega)
    rw [IntWalk.wrap64_in _ (by omega)]
    omega
theorem str_ne {l m : List Nat} (hl : ∀ x ∈ l, x < 256) (hm : ∀ x ∈ m, x < 256) (h : l ≠ m) : ((strOf l).toList == (strOf m).toList) = false := by
  rw [ByteArray.toList_eq, ByteArray.toList_eq]
  apply beq_false_of_ne
  intro e
  exact h (strOf_inj hl hm (ByteArray.ext (Array.toList_inj.mp e)))
/-- 's[0:k:k]' of bytes. -/
theorem slice_full {P : Program} (T e : TypeId) (ht : P.underlying T = some (.slice e)) (hz : ∀ w, (Go.sizeOf e).run P w = .ok 1 w) {w : World} {a : Option Addr} {l : List Nat} {n cap : Nat} (hn : n = l.length)
    (h : Bytes w a l) (hc : n ≤ cap) (k : Nat) (hk : k ≤ n) :
    ∃ a', (∀ W, (Instr.slice T (.slice a n cap) (some (.int .i64 0)) (some (.int .i64 (k : Int))) (some (.int .i64 (k : Int)))).run P W = .ok (.slice a' k k) W) ∧ Bytes w a' (l.take k) := by
  have ht' : P.underlying T = some (.slice (P.elem T)) := by simp [Program.elem, ht]
  have he : P.elem T = e := by simp [Program.elem, ht]
  refine ⟨if k = 0 then a else a.map (·.add (0 * 1)), fun W => ?_, ?_⟩
  · rw [run_slice_lhm W T _ _ _ ht' .i64 .i64 .i64 _ _ _ (by omega) (by omega) (by omega) (by omega), he, hz]
    simp [Result.andThen, sliced]
  · refine ⟨fun x hx => h.1 x (List.mem_of_mem_take hx), by have := h.2.1; simp; omega, fun hne => ?_⟩
    have hl : l ≠ [] := fun e => by subst e; simp at hne
    have hk0 : k ≠ 0 := fun e => by subst e; simp at hne
    obtain ⟨b, o, rfl, hcell⟩ := h.2.2 hl
    rw [if_neg hk0]
    refine ⟨b, o, by simp [Addr.add_lit], fun i hi => ?_⟩
    simp only [List.length_take] at hi
    rw [hcell i (by omega), List.getD_eq_getElem?_getD, List.getD_eq_getElem?_getD, List.getElem?_take_of_lt (by omega)]
end Go.Proofs.Ytcjojcihjhhpgaa
/-
  A tree in memory, told by functions of its inodes' numbers.
-/
namespace Go.Proofs.Ytcjojcihjhhpgaa
open Go.RowKit Go.Maps

abbrev NT := 82
abbrev PNT := 67
abbrev TTY := 69
abbrev NMT := 80
abbrev U8 := 5
/-- A tree in numbers: how many numbers there are; each inode's kind (0: none, 1: a file, 2: a directory), how many names it has, a directory's entries, a file's bytes. -/
structure Tr where
  n : Nat
  K : Nat → Int
  Lk : Nat → Int
  E : Nat → ByteArray → Option Nat
  D : Nat → List Nat
def Tr.live (T : Tr) (i : Nat) : Prop := T.K i ≠ 0
structure TrW (T : Tr) : Prop where
  n4 : 4 ≤ T.n
  n2 : T.n ≤ 200
  root : T.K 2 = 2
  kind : ∀ i, T.K i = 0 ∨ T.K i = 1 ∨ T.K i = 2
  rng : ∀ i, T.live i → 2 ≤ i ∧ i ≤ T.n
  ent : ∀ i s j, T.E i s = some j → T.K i = 2 ∧ T.live j ∧ j ≠ 2
  lk : ∀ i, T.live i → 1 ≤ T.Lk i ∧ T.Lk i ≤ 100
  sz : ∀ i, (T.D i).length ≤ 38400
  by_ : ∀ i, ∀ y ∈ T.D i, y < 256
/-- Where it lies: the tree's block, the row of nodes, each inode's node, its map, its slice of bytes. -/
structure Pl where
  bt : Nat
  bn : Nat
  B : Nat → Nat
  MB : Nat → Nat
  DV : Nat → Value
/-- Bytes of a file: the beginning of a row. -/
def DatO (w : World) (v : Value) (l : List Nat) : Prop :=
  (v = .slice none 0 0 ∧ l = []) ∨ ∃ g c cur, v = .slice (some ⟨g, 0, none⟩) l.length c ∧ l.length ≤ c ∧ c ≤ cur.size ∧ Blo w g U8 cur ∧ cur.toList.take l.length = cellsB l
def ndC (T : Tr) (p : Pl) (i : Nat) : Array Value := #[.int .i64 (i : Int), .int .i64 (T.K i), .int .i64 (T.Lk i), .map (if T.K i = 2 then some (p.MB i) else none), p.DV i]
def ndP (T : Tr) (p : Pl) (i : Nat) : Option Nat := if T.K i = 0 then none else some (p.B i)
def ndL (T : Tr) (p : Pl) : List Value := (List.range (T.n + 1)).map fun i => ptrV (ndP T p i)
structure TrM (w : World) (cnt : Nat) (T : Tr) (p : Pl) : Prop where
  wf : TrW T
  tree : Blo w p.bt TTY #[.slice (some ⟨p.bn, 0, none⟩) (T.n + 1) (T.n + 1), .pointer (some ⟨p.B 2, 0, none⟩)]
  row : Blo w p.bn PNT (ndL T p).toArray
  node : ∀ i, T.live i → Blo w (p.B i) NT (ndC T p i)
  map : ∀ i, T.K i = 2 → ∃ ks, SM w (p.MB i) cnt (fun s => (T.E i s).map p.B) ks
  dat : ∀ i, T.K i = 1 → DatO w (p.DV i) (T.D i)
  dir : ∀ i, T.K i = 2 → p.DV i = .slice none 0 0
  injB : ∀ i j, T.live i → T.live j → p.B i = p.B j → i = j
  injM : ∀ i j, T.K i = 2 → T.K j = 2 → p.MB i = p.MB j → i = j
  injD : ∀ i j, T.K i = 1 → T.K j = 1 → i ≠ j → ∀ g, (p.DV i).ownBlock = some g → (p.DV j).ownBlock ≠ some g
/-- The tree's blocks. -/
def XT (T : Tr) (p : Pl) (g : Nat) : Prop := g = p.bt ∨ g = p.bn ∨ ∃ i, T.live i ∧ (g = p.B i ∨ (T.K i = 2 ∧ g = p.MB i) ∨ (T.K i = 1 ∧ (p.DV i).ownBlock = some g))
section
variable {w w' : World} {cnt : Nat} {T : Tr} {p : Pl} {l : List Nat} {v : Value}
theorem DatO.out {X : Nat → Prop} (h : DatO w v l) (ho : Out X w w') (hx : ∀ g, v.ownBlock = some g → ¬ X g) : DatO w' v l := by
  rcases h with h | ⟨g, c, cur, rfl, h1, h2, h3, h4⟩
  · exact .inl h
  · exact .inr ⟨g, c, cur, rfl, h1, h2, ho.blo h3 (hx g rfl), h4⟩
theorem SM.out {g n : Nat} {f : ByteArray → Option Nat} {ks : List ByteArray} {X : Nat → Prop} (h : SM w g n f ks) (ho : Out X w w') (hx : ¬ X g) : SM w' g n f ks := h.same fun o e => (ho.block g h.lt hx).trans e
theorem TrM.out {X : Nat → Prop} (h : TrM w cnt T p) (ho : Out X w w') (hx : ∀ g, XT T p g → ¬ X g) : TrM w' cnt T p := by
  have h2 : ∀ i, T.K i = 2 → T.live i := fun i e => by unfold Tr.live; omega
  have h1 : ∀ i, T.K i = 1 → T.live i := fun i e => by unfold Tr.live; omega
  exact ⟨h.wf, ho.blo h.tree (hx _ (.inl rfl)), ho.blo h.row (hx _ (.inr (.inl rfl))), fun i hi => ho.blo (h.node i hi) (hx _ (.inr (.inr ⟨i, hi, .inl rfl⟩))), fun i hi => by
    obtain ⟨ks, hs⟩ := h.map i hi
    exact ⟨ks, hs.out ho (hx _ (.inr (.inr ⟨i, h2 i hi, .inr (.inl ⟨hi, rfl⟩)⟩)))⟩, fun i hi => (h.dat i hi).out ho (fun g e => hx _ (.inr (.inr ⟨i, h1 i hi, .inr (.inr ⟨hi, e⟩)⟩))), h.dir, h.injB, h.injM, h.injD⟩
theorem TrM.later (h : TrM w cnt T p) (hb : Below w.heap.size w w') : TrM w' cnt T p := by
  have hlt : ∀ g, XT T p g → g < w.heap.size := fun g hg => by
    rcases hg with rfl | rfl | ⟨i, hi, rfl | ⟨hk, rfl⟩ | ⟨hk, e⟩⟩
    · exact h.tree.lt
    · exact h.row.lt
    · exact (h.node i hi).lt
    · obtain ⟨ks, hs⟩ := h.map i hk
      exact hs.lt
    · rcases h.dat i hk with ⟨q, -⟩ | ⟨g', c, cur, q, -, -, q3, -⟩
      · rw [q] at e; cases e
      · rw [q] at e
        cases e
        exact q3.lt
  exact h.out (X := fun g => w.heap.size ≤ g) ⟨hb.os, hb.tape, hb.output, hb.size, fun i hi _ => hb.block i hi⟩ (fun g hg e => by have := hlt g hg; omega)
theorem TrM.root (h : TrM w cnt T p) : T.live 2 := by unfold Tr.live; rw [h.wf.root]; decide
theorem TrM.cells {i : Nat} (h : TrM w cnt T p) (hi : T.live i) : w.cell? ⟨p.B i, 0, none⟩ = some (.int .i64 (i : Int)) ∧ w.cell? ⟨p.B i, 1, none⟩ = some (.int .i64 (T.K i)) ∧ w.cell? ⟨p.B i, 2, none⟩ = some (.int .i64 (T.Lk i)) ∧ w.cell? ⟨p.B i, 3, none⟩ = some (.map (if T.K i = 2 then some (p.MB i) else none)) ∧ w.cell? ⟨p.B i, 4, none⟩ = some (p.DV i) :=
  ⟨(h.node i hi).cell 0, (h.node i hi).cell 1, (h.node i hi).cell 2, (h.node i hi).cell 3, (h.node i hi).cell 4⟩
end
end Go.Proofs.Ytcjojcihjhhpgaa
/-
  What a node tells of itself.
-/
namespace Go.Proofs.Ytcjojcihjhhpgaa
open Go.RowKit

def wrDir (T : Tr) (i : Nat) : Int := if T.K i = 2 then 0 else 20
def wrFile (T : Tr) (i : Nat) : Int := if T.K i = 2 then 21 else 0
def wrLink (T : Tr) (i : Nat) : Int := if T.K i = 2 then 1 else 0
def wrAny (_ : Tr) (_ : Nat) : Int := 0
section
variable {w : World} {cnt : Nat} {T : Tr} {p : Pl} {i : Nat}
set_option maxRecDepth 100000 in
theorem isDir_any (h : TrM w cnt T p) (hi : T.live i) : Calls Try.prog 43 #[.pointer (some ⟨p.B i, 0, none⟩)] w fun e w' => e = .returned (.bool (decide (T.K i = 2))) ∧ w' = w := by
  obtain ⟨-, c1, -⟩ := h.cells hi
  clear h hi
  generalize T.K i = k at *
  by_cases hk : k = 2
  · subst hk
    go_enter Try.func43, Try.ntmps43
    go_wp2_with fail
    go_ret
    exact ⟨rfl, rfl⟩
  · have hb : (k == 2) = false := by simpa using hk
    go_enter Try.func43, Try.ntmps43
    go_wp2_with fail
    go_ret
    rw [decide_eq_false hk]
    exact ⟨rfl, rfl⟩
set_option maxRecDepth 100000 in
theorem directory_any (h : TrM w cnt T p) (hi : T.live i) : Calls Try.prog 36 #[.pointer (some ⟨p.B i, 0, none⟩)] w fun e w' => e = .returned (.int .i64 (wrDir T i)) ∧ w' = w := by
  have HI := Lib.hid (isDir_any h hi)
  unfold wrDir
  by_cases hk : T.K i = 2
  · rw [decide_eq_true hk] at HI
    rw [if_pos hk]
    clear h hi
    go_enter Try.func36, Try.ntmps36
    go_wp2_with fail
    refine HI.out.mono ?_
    rintro e w2 ⟨rfl, rfl⟩
    go_wp2_with fail
    go_ret
    exact ⟨rfl, rfl⟩
  · rw [decide_eq_false hk] at HI
    rw [if_neg hk]
    clear h hi
    go_enter Try.func36, Try.ntmps36
    go_wp2_with fail
    refine HI.out.mono ?_
    rintro e w2 ⟨rfl, rfl⟩
    go_wp2_with fail
    go_ret
    exact ⟨rfl, rfl⟩
set_option maxRecDepth 100000 in
theorem file_any (h : TrM w cnt T p) (hi : T.live i) : Calls Try.prog 38 #[.pointer (some ⟨p.B i, 0, none⟩)] w fun e w' => e = .returned (.int .i64 (wrFile T i)) ∧ w' = w := by
  have HI := Lib.hid (isDir_any h hi)
  unfold wrFile
  by_cases hk : T.K i = 2
  · rw [decide_eq_true hk] at HI
    rw [if_pos hk]
    clear h hi
    go_enter Try.func38, Try.ntmps38
    go_wp2_with fail
    refine HI.out.mono ?_
    rintro e w2 ⟨rfl, rfl⟩
    go_wp2_with fail
    go_ret
    exact ⟨rfl, rfl⟩
  · rw [decide_eq_false hk] at HI
    rw [if_neg hk]
    clear h hi
    go_enter Try.func38, Try.ntmps38
    go_wp2_with fail
    refine HI.out.mono ?_
    rintro e w2 ⟨rfl, rfl⟩
    go_wp2_with fail
    go_ret
    exact ⟨rfl, rfl⟩
set_option maxRecDepth 100000 in
theorem linkable_any (h : TrM w cnt T p) (hi : T.live i) : Calls Try.prog 51 #[.pointer (some ⟨p.B i, 0, none⟩)] w fun e w' => e = .returned (.int .i64 (wrLink T i)) ∧ w' = w := by
  have HI := Lib.hid (isDir_any h hi)
  unfold wrLink
  by_cases hk : T.K i = 2
  · rw [decide_eq_true hk] at HI
    rw [if_pos hk]
    clear h hi
    go_enter Try.func51, Try.ntmps51
    go_wp2_with fail
    refine HI.out.mono ?_
    rintro e w2 ⟨rfl, rfl⟩
    go_wp2_with fail
    go_ret
    exact ⟨rfl, rfl⟩
  · rw [decide_eq_false hk] at HI
    rw [if_neg hk]
    clear h hi
    go_enter Try.func51, Try.ntmps51
    go_wp2_with fail
    refine HI.out.mono ?_
    rintro e w2 ⟨rfl, rfl⟩
    go_wp2_with fail
    go_ret
    exact ⟨rfl, rfl⟩
set_option maxRecDepth 100000 in
theorem any_any (_ : TrM w cnt T p) (_ : T.live i) : Calls Try.prog 35 #[.pointer (some ⟨p.B i, 0, none⟩)] w fun e w' => e = .returned (.int .i64 (wrAny T i)) ∧ w' = w := by
  go_enter Try.func35, Try.ntmps35
  go_wp2_with fail
  go_ret
  exact ⟨rfl, rfl⟩
end
end Go.Proofs.Ytcjojcihjhhpgaa
