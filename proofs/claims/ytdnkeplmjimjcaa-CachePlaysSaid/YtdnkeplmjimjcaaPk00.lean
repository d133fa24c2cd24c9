/-
  Mem · ChHp · Out · Kit · ChMem · Quiet · ChGo · Row: these texts in one.
-/
import Derived.WalkKit
import Derived.WalkSpells
import Derived.WalkLawsBesides
import Derived.IntWalk
import Derived.Lib.Hide
import Derived.Below
import Derived.OwnWalk
import Derived.Deep.AppendLies
import Derived.Deep.Draws
import Derived.Laws.Rows
import Derived.Laws.OwnMore
import Derived.Deep.MidRow
import Derived.Laws.BitsAllLaws
import Derived.Laws.BytesArg
import Derived.Lib.BufferRead
import Derived.Lib.SmallJoins
import Derived.Laws.AppendOwnNone
import Derived.Lib.SlBytesConst
import Derived.OpenShut
import Derived.WalkSmall
import Derived.BigQuiet
import Derived.Test.YtdnkeplmjimjcaaRows
import Derived.Deep.DeepCutAuto
import Derived.StillTailTactics
import Derived.Maps.AppendAt
import Derived.RegionTactic
/-
  Small laws of memory over any program: a block that is known whole; a list of integers that is read; one integer put behind a row of the call's own.
-/
namespace Go.Proofs.Ytdnkeplmjimjcaa
open Go.RowKit

/-- Block g holds just these cells of type t; all may be written. -/
def Blo (w : World) (g : Nat) (t : TypeId) (cs : Array Value) : Prop := w.heap[g]? = some (.cells cs t (0, 0))
section
variable {w w' : World} {g : Nat} {t : TypeId} {cs : Array Value}
theorem Blo.lt (h : Blo w g t cs) : g < w.heap.size := by
  rcases Nat.lt_or_ge g w.heap.size with h' | h'
  · exact h'
  · unfold Blo at h; rw [Array.getElem?_eq_none h'] at h; cases h
theorem Blo.cell (h : Blo w g t cs) (i : Nat) : w.cell? ⟨g, i, none⟩ = cs[i]? := cell_of_row w g i cs t (0, 0) h
theorem Blo.frozen (h : Blo w g t cs) (i : Nat) : w.frozen? ⟨g, i, none⟩ = false := by
  unfold Blo at h
  simp [World.frozen?, h]
theorem blo_laid (w : World) (t : TypeId) (cs : Array Value) : Blo (w.alloc (.cells cs t)) w.heap.size t cs := heap_alloc_new w _
theorem Blo.drew (h : Blo w g t cs) : Blo w.drew g t cs := h
theorem Blo.alloc (h : Blo w g t cs) (o : Obj) : Blo (w.alloc o) g t cs := (Below.heap_alloc w o g h.lt).trans h
theorem Blo.put (h : Blo w g t cs) (i : Nat) (u : Value) : Blo (w.setCell ⟨g, i, none⟩ u) g t (cs.setIfInBounds i u) := by
  unfold Blo at h ⊢
  simp [World.setCell, Array.getElem?_modify, h]
theorem Blo.far (h : Blo w g t cs) {p : Addr} (hp : g ≠ p.block) (u : Value) : Blo (w.setCell p u) g t cs := (Below.heap_setCell w p u g hp).trans h
theorem Blo.below {B : Nat} (h : Blo w g t cs) (hb : Below B w w') (hg : g < B) : Blo w' g t cs := (hb.block g hg).trans h
theorem Blo.later (h : Blo w g t cs) (hb : Below w.heap.size w w') : Blo w' g t cs := h.below hb h.lt
theorem Blo.grown {row : Option Nat} (h : Blo w g t cs) (hb : w.grownBy w' row) (hg : some g ≠ row) : Blo w' g t cs := (hb.block g h.lt hg).trans h
theorem Blo.apart {g' : Nat} {t' : TypeId} {cs' : Array Value} (h : Blo w g t cs) (h' : Blo w g' t' cs') (hne : t ≠ t') : g ≠ g' := by
  rintro rfl
  unfold Blo at h h'
  rw [h] at h'
  injection h' with h'
  injection h' with _ ht
  exact hne ht
theorem Blo.row_apart {base : Nat} {e : TypeId} {size n : Nat} {v : Value} {xs : List Value} (hg : Blo w g t cs) (h : w.ownsRow base e size v n xs) (hne : e ≠ t) : some g ≠ v.ownBlock := by
  rcases h.2 with ⟨rfl, _⟩ | ⟨g', cap, cur, rfl, _, hh, _⟩
  · simp [Value.ownBlock]
  · intro he
    have e2 : g = g' := by simpa [Value.ownBlock] using he
    subst e2
    exact Blo.apart (t := e) hh hg hne rfl
end

/-- What a slice of integers that is read holds. -/
def Ints (w : World) (a : Option Addr) (l : List Int) : Prop := l ≠ [] → ∃ b o, a = some ⟨b, o, none⟩ ∧ ∀ i, i < l.length → w.cell? ⟨b, o + i, none⟩ = some (.int .i64 (l.getD i 0))
theorem Ints.nil (w : World) (a : Option Addr) : Ints w a [] := fun h => absurd rfl h
theorem Ints.below {w w' : World} {a : Option Addr} {l : List Int} (h : Ints w a l) (hb : Below w.heap.size w w') : Ints w' a l := fun hl => by
  obtain ⟨b, o, ha, hc⟩ := h hl
  exact ⟨b, o, ha, fun i hi => cell_later hb (hc i hi)⟩
theorem Ints.drewN {w : World} {a : Option Addr} {l : List Int} (h : Ints w a l) (q : Nat) : Ints (w.drewN q) a l := fun hl => by
  obtain ⟨b, o, ha, hc⟩ := h hl
  exact ⟨b, o, ha, fun i hi => by rw [World.cell?_drewN]; exact hc i hi⟩
def cellsI (l : List Int) : List Value := l.map (Value.int .i64)
theorem cellsI_length (l : List Int) : (cellsI l).length = l.length := by simp [cellsI]
theorem cellsI_get (l : List Int) (i : Nat) (hi : i < l.length) : (cellsI l)[i]? = some (.int .i64 (l.getD i 0)) := by
  simp [cellsI, List.getD_eq_getElem?_getD, List.getElem?_eq_getElem hi]
theorem cellsI_append (l m : List Int) : cellsI l ++ cellsI m = cellsI (l ++ m) := by simp [cellsI]
theorem Ints.laid (w : World) (l : List Int) (cs : Array Value) (t : TypeId) (h : cs.toList = cellsI l) : Ints (w.alloc (.cells cs t)) (some ⟨w.heap.size, 0, none⟩) l := fun _ =>
  ⟨w.heap.size, 0, rfl, fun i hi => by rw [Nat.zero_add, (blo_laid w t cs).cell i, ← Array.getElem?_toList, h, cellsI_get l i hi]⟩
theorem Ints.own {w : World} {base : Nat} {e : TypeId} {a : Option Addr} {n cap : Nat} {l : List Int} (h : w.ownsRow base e 1 (.slice a n cap) n (cellsI l)) : Ints w a l := fun hl => by
  have hlen : n = l.length := by have := h.1; rw [cellsI_length, Nat.mul_one] at this; exact this.symm
  rcases id h.2 with ⟨h1, h0⟩ | ⟨g, c, cur, h1, _⟩
  · exact absurd (List.eq_nil_of_length_eq_zero (by omega)) hl
  · cases h1
    exact ⟨g, 0, rfl, fun i hi => by rw [Nat.zero_add, h.cellAt i (by omega), cellsI_get l i hi]⟩
theorem own_slice {w : World} {base : Nat} {e : TypeId} {size : Nat} {v : Value} {n : Nat} {xs : List Value} (h : w.ownsRow base e size v n xs) : ∃ a cap, v = .slice a n cap ∧ n ≤ cap := by
  rcases h.2 with ⟨rfl, rfl⟩ | ⟨g, cap, cur, rfl, _, _, hc, _⟩
  · exact ⟨none, 0, rfl, Nat.le_refl _⟩
  · exact ⟨_, cap, rfl, hc⟩
theorem grown_of_below {w w' : World} (h : Below w.heap.size w w') (row : Option Nat) : w.grownBy w' row := ⟨h.os, h.tape, h.output, h.size, fun i hi _ => h.block i hi⟩
theorem own_later {w w' : World} {base : Nat} {e : TypeId} {size : Nat} {v : Value} {n : Nat} {xs : List Value} (h : w.ownsRow base e size v n xs) (hb : Below w.heap.size w w') : w'.ownsRow base e size v n xs :=
  h.kept (row := none) (grown_of_below hb none) (by cases hv : v.ownBlock <;> simp)
theorem grown_put (w : World) (p : Addr) (u : Value) : w.grownBy (w.setCell p u) (some p.block) :=
  ⟨rfl, rfl, rfl, by simp [World.setCell], fun i _ hne => Below.heap_setCell w p u i (fun e => hne (by rw [e]))⟩
theorem own_far {w : World} {base : Nat} {e : TypeId} {size : Nat} {v : Value} {n : Nat} {xs : List Value} (h : w.ownsRow base e size v n xs) {p : Addr} (hp : some p.block ≠ v.ownBlock) (u : Value) : (w.setCell p u).ownsRow base e size v n xs :=
  h.kept (grown_put w p u) (.inr (Ne.symm hp))
/-- 'append(own, x)'. -/
theorem wp_append_int {P : Program} {w : World} {ops : Array Oper} {rest : List Oper} {o : Oper} {act : Act} {Q : Exit → Act → World → Prop} (hgd : o.guard = none) (s x : Operand) (t : TypeId)
    (ho : o.op = .call { callee := .builtin .append, args := #[s, x], argTypes := #[t, t] })
    (base : Nat) (e : TypeId) (ht : P.underlying t = some (.slice e)) (hi : (P.info? e).map (fun i => (i.zero, i.size, i.bytes)) = some (some (.int .i64 0), 1, 8))
    (v : Value) (n : Nat) (xs : List Int) (hs : act.eval s = v) (hown : w.ownsRow base e 1 v n (cellsI xs))
    (b : Nat) (y : Int) (hx : act.eval x = .slice (some ⟨b, 0, none⟩) 1 1) (hc : w.cell? ⟨b, 0, none⟩ = some (.int .i64 y)) (hroom : n < 1000000000) (hbase : base ≤ w.heap.size)
    (h : ∀ g cap w', w'.ownsRow base e 1 (.slice (some ⟨g, 0, none⟩) (n + 1) cap) (n + 1) (cellsI (xs ++ [y])) → w.grownBy w' v.ownBlock → (v.ownBlock = some g ∨ g = w.heap.size) → g < w'.heap.size →
      wpList P ops Q rest (act.put o.dst (.slice (some ⟨g, 0, none⟩) (n + 1) cap)) w') : wpList P ops Q (o :: rest) act w := by
  obtain ⟨i, hi0, hz, hs1, hb1⟩ := info_parts hi
  refine wpList_append_lies w hgd s x t ho base e i (.int .i64 0) 1 8 ht hi0 hz hs1 hb1 rfl (by decide) v n (cellsI xs) hs hown ⟨b, 0, none⟩ 1 1 [.int .i64 y] hx (by simp) ?_ (by simp [Value.oneCell']) (by decide) (by unfold maxLen; omega) (by omega) hbase _ rfl ?_
  · intro j u hj
    match j, hj with
    | 0, hj =>
      simp at hj
      subst hj
      have e : (⟨b, 0, none⟩ : Addr).add 0 = ⟨b, 0, none⟩ := by simp [Addr.add]
      rw [e]; exact hc
    | j + 1, hj => simp at hj
  · intro g cap w' h1 h2 h3 h4
    rw [show cellsI xs ++ [Value.int .i64 y] = cellsI (xs ++ [y]) from cellsI_append xs [y]] at h1
    exact h g cap w' h1 h2 h3 h4
end Go.Proofs.Ytdnkeplmjimjcaa
/-
  A heap in numbers: up, down.
-/
namespace Go.Proofs.Ytdnkeplmjimjcaa
open Go.RowKit

/-- The value of two places exchanged. -/
def sw {α : Type} (v : Nat → α) (i j : Nat) : Nat → α := fun k => if k = i then v j else if k = j then v i else v k
theorem sw_l {α : Type} (v : Nat → α) (i j : Nat) : sw v i j i = v j := if_pos rfl
theorem sw_r {α : Type} (v : Nat → α) (i j : Nat) : sw v i j j = v i := by
  unfold sw
  by_cases e : j = i
  · rw [if_pos e, e]
  · rw [if_neg e, if_pos rfl]
theorem sw_ne {α : Type} (v : Nat → α) {i j k : Nat} (h1 : k ≠ i) (h2 : k ≠ j) : sw v i j k = v k := by
  unfold sw
  rw [if_neg h1, if_neg h2]
theorem sw_comp {α β : Type} (f : α → β) (v : Nat → α) (i j k : Nat) : f (sw v i j k) = sw (fun q => f (v q)) i j k := by
  unfold sw
  split
  · rfl
  · split <;> rfl
def Hq (m : Nat) (v : Nat → Int) : Prop := ∀ j, 0 < j → j < m → v ((j - 1) / 2) ≤ v j
/-- A heap but for place i, whose value may be too great. -/
def Hx (m : Nat) (v : Nat → Int) (i : Nat) : Prop := (∀ j, 0 < j → j < m → j ≠ i → (j - 1) / 2 ≠ i → v ((j - 1) / 2) ≤ v j) ∧ (∀ j, 0 < j → j < m → (j - 1) / 2 = i → 0 < i → v ((i - 1) / 2) ≤ v j)
/-- A heap but for place i, whose value may be too small. -/
def Hu (m : Nat) (v : Nat → Int) (i : Nat) : Prop := (∀ j, 0 < j → j < m → j ≠ i → v ((j - 1) / 2) ≤ v j) ∧ (∀ j, 0 < j → j < m → (j - 1) / 2 = i → 0 < i → v ((i - 1) / 2) ≤ v j)
section
variable {m i k : Nat} {v v' : Nat → Int}
theorem Hq.x (h : Hq m v) (hv : ∀ j, j ≠ i → j < m → v' j = v j) : Hx m v' i := by
  refine ⟨fun j h0 h1 h2 h3 => ?_, fun j h0 h1 h2 h3 => ?_⟩
  · rw [hv j h2 h1, hv _ h3 (by omega)]; exact h j h0 h1
  · rw [hv j (by omega) h1, hv _ (by omega) (by omega)]
    have a := h j h0 h1
    rw [h2] at a
    have b := h i h3 (by omega)
    omega
theorem Hx.down (h : Hx m v i) (hk : (k - 1) / 2 = i) (h0 : 0 < k) (hm : k < m) (hl : v k ≤ v i) (hmin : ∀ j, 0 < j → j < m → (j - 1) / 2 = i → v k ≤ v j) : Hx m (sw v i k) k := by
  refine ⟨fun j j0 j1 j2 j3 => ?_, fun j j0 j1 j2 j3 => ?_⟩
  · by_cases e : j = i
    · subst e
      rw [sw_l, sw_ne v (by omega) j3]
      exact h.2 k h0 hm hk j0
    · rw [sw_ne v e j2]
      by_cases e2 : (j - 1) / 2 = i
      · rw [e2, sw_l]; exact hmin j j0 j1 e2
      · rw [sw_ne v e2 j3]; exact h.1 j j0 j1 e e2
  · rw [hk, sw_l, sw_ne v (by omega) (by omega)]
    have := h.1 j j0 j1 (by omega) (by omega)
    rw [j2] at this
    exact this
theorem Hx.u (h : Hx m v i) (hc : ∀ j, 0 < j → j < m → (j - 1) / 2 = i → v i ≤ v j) : Hu m v i := by
  refine ⟨fun j h0 h1 h2 => ?_, h.2⟩
  by_cases e : (j - 1) / 2 = i
  · rw [e]; exact hc j h0 h1 e
  · exact h.1 j h0 h1 h2 e
theorem Hu.q (h : Hu m v i) (hp : 0 < i → v ((i - 1) / 2) ≤ v i) : Hq m v := fun j h0 h1 => by
  by_cases e : j = i
  · subst e; exact hp h0
  · exact h.1 j h0 h1 e
theorem Hq.u (h : Hq m v) (i : Nat) : Hu m v i := by
  refine ⟨fun j h0 h1 _ => h j h0 h1, fun j h0 h1 h2 h3 => ?_⟩
  have a := h j h0 h1
  rw [h2] at a
  have b := h i h3 (by omega)
  omega
theorem Hu.up (h : Hu m v i) (h0 : 0 < i) (hm : i < m) (hl : v i ≤ v ((i - 1) / 2)) : Hu m (sw v ((i - 1) / 2) i) ((i - 1) / 2) := by
  have hpi : (i - 1) / 2 < i := by omega
  obtain ⟨p, hp⟩ : ∃ p, (i - 1) / 2 = p := ⟨_, rfl⟩
  rw [hp] at hl hpi ⊢
  refine ⟨fun j j0 j1 j2 => ?_, fun j j0 j1 j2 j3 => ?_⟩
  · by_cases e : j = i
    · subst e
      rw [hp, sw_l, sw_r]; exact hl
    · rw [sw_ne v j2 e]
      by_cases e2 : (j - 1) / 2 = p
      · rw [e2, sw_l]
        have := h.1 j j0 j1 e
        rw [e2] at this
        omega
      · by_cases e3 : (j - 1) / 2 = i
        · rw [e3, sw_r]
          have := h.2 j j0 j1 e3 h0
          rw [hp] at this
          exact this
        · rw [sw_ne v e2 e3]; exact h.1 j j0 j1 e
  · rw [sw_ne v (by omega) (by omega)]
    have hpp := h.1 p j3 (by omega) (by omega)
    by_cases e : j = i
    · subst e; rw [sw_r]; exact hpp
    · rw [sw_ne v (by omega) e]
      have := h.1 j j0 j1 e
      rw [j2] at this
      omega
/-- A new last one. -/
theorem Hq.last (h : Hq m v) (hv : ∀ j, j < m → v' j = v j) : Hu (m + 1) v' m := by
  refine ⟨fun j h0 h1 h2 => ?_, fun j h0 h1 h2 h3 => by omega⟩
  rw [hv j (by omega), hv _ (by omega)]
  exact h j h0 (by omega)
theorem Hq.mono {n : Nat} (h : Hq m v) (hn : n ≤ m) : Hq n v := fun j h0 h1 => h j h0 (by omega)
theorem Hq.top (h : Hq m v) : ∀ j, j < m → v 0 ≤ v j := by
  intro j
  induction j using Nat.strongRecOn with
  | _ j ih =>
    intro hj
    by_cases e : j = 0
    · subst e; exact Int.le_refl _
    · have a := ih ((j - 1) / 2) (by omega) (by omega)
      have b := h j (by omega) hj
      omega
end
end Go.Proofs.Ytdnkeplmjimjcaa
/-
  A frame: all blocks but those of a set stand as they stood. Cells of a block set one by one.
-/
namespace Go.Proofs.Ytdnkeplmjimjcaa
open Go.RowKit

structure Out (X : Nat → Prop) (w w' : World) : Prop where
  os : w'.os = w.os
  tape : w'.tape = w.tape
  output : w'.output = w.output
  size : w.heap.size ≤ w'.heap.size
  block : ∀ i, i < w.heap.size → ¬ X i → w'.heap[i]? = w.heap[i]?
section
variable {X Y : Nat → Prop} {w w' w'' : World} {g : Nat} {t : TypeId} {cs : Array Value}
theorem Out.refl (X : Nat → Prop) (w : World) : Out X w w := ⟨rfl, rfl, rfl, Nat.le_refl _, fun _ _ _ => rfl⟩
theorem Out.trans (h : Out X w w') (k : Out Y w' w'') (hs : ∀ i, i < w.heap.size → Y i → X i) : Out X w w'' :=
  ⟨k.os.trans h.os, k.tape.trans h.tape, k.output.trans h.output, Nat.le_trans h.size k.size, fun i hi hx =>
    (k.block i (Nat.lt_of_lt_of_le hi h.size) (fun hy => hx (hs i hi hy))).trans (h.block i hi hx)⟩
theorem Out.mono (h : Out X w w') (hs : ∀ i, i < w.heap.size → X i → Y i) : Out Y w w' :=
  ⟨h.os, h.tape, h.output, h.size, fun i hi hy => h.block i hi (fun hx => hy (hs i hi hx))⟩
theorem Out.of_below (h : Below w.heap.size w w') : Out X w w' := ⟨h.os, h.tape, h.output, h.size, fun i hi _ => h.block i hi⟩
theorem Out.below {C : Nat} (h : Out X w w') (hC : C ≤ w.heap.size) (hX : ∀ i, i < w.heap.size → X i → C ≤ i) : Below C w w' :=
  ⟨h.os, h.tape, h.output, h.size, fun i hi => h.block i (by omega) (fun hx => by have := hX i (by omega) hx; omega)⟩
theorem Out.of_grown {row : Option Nat} (h : w.grownBy w' row) (hr : ∀ g, row = some g → X g) : Out X w w' :=
  ⟨h.os, h.tape, h.output, h.size, fun i hi hx => h.block i hi (fun e => hx (hr i e.symm))⟩
theorem Out.blo (h : Out X w w') (hg : Blo w g t cs) (hx : ¬ X g) : Blo w' g t cs := (h.block g hg.lt hx).trans hg
theorem Out.own {base : Nat} {e : TypeId} {size : Nat} {v : Value} {n : Nat} {xs : List Value} (h : Out X w w') (hv : w.ownsRow base e size v n xs) (hx : ∀ g, v.ownBlock = some g → ¬ X g) : w'.ownsRow base e size v n xs := by
  refine ⟨hv.1, ?_⟩
  rcases hv.2 with hn | ⟨g, cap, cur, rfl, hb, hgg, rest⟩
  · exact .inl hn
  · exact .inr ⟨g, cap, cur, rfl, hb, h.blo hgg (hx g rfl), rest⟩
theorem Out.cell {a : Addr} {v : Value} (h : Out X w w') (hc : w.cell? a = some v) (hx : ¬ X a.block) : w'.cell? a = some v :=
  (World.cell?_of_block (h.block a.block (World.block_lt_of_cell? w a hc) hx)).trans hc
theorem out_put (w : World) (p : Addr) (u : Value) (hp : X p.block) : Out X w (w.setCell p u) :=
  Out.of_grown (grown_put w p u) (fun g e => by cases e; exact hp)
theorem out_cells : ∀ (vs : List Value) (o : Nat) (w : World) (_ : X g), Out X w (w.setCells g o vs)
  | [], _, w, _ => Out.refl _ w
  | v :: r, o, w, h => (out_put w ⟨g, o, none⟩ v h).trans (out_cells r (o + 1) _ h) (fun _ _ hx => hx)
theorem out_row (w : World) (g : Nat) (cells : Array Value) (hp : X g) : Out X w (w.setRow g cells) := by
  refine ⟨rfl, rfl, rfl, by simp [World.setRow], fun i hi hx => ?_⟩
  simp only [World.setRow]
  rw [Array.getElem?_modify, if_neg (fun e => hx (by rw [← e]; exact hp))]
theorem blo_cells : ∀ (vs : List Value) (o : Nat) (w : World) (cs : Array Value), Blo w g t cs → ∃ cs', Blo (w.setCells g o vs) g t cs' ∧ cs'.size = cs.size ∧ ∀ j, cs'[j]? = if o ≤ j ∧ j < o + vs.length ∧ j < cs.size then vs[j - o]? else cs[j]? := by
  intro vs
  induction vs with
  | nil => intro o w cs h; exact ⟨cs, h, rfl, fun j => by rw [if_neg]; simp; omega⟩
  | cons v vs ih =>
    intro o w cs h
    obtain ⟨cs', h1, h2, h3⟩ := ih (o + 1) (w.setCell ⟨g, o, none⟩ v) (cs.setIfInBounds o v) (h.put o v)
    refine ⟨cs', h1, by simpa using h2, fun j => ?_⟩
    rw [h3 j, Array.size_setIfInBounds, List.length_cons]
    by_cases c1 : o + 1 ≤ j ∧ j < o + 1 + vs.length ∧ j < cs.size
    · rw [if_pos c1, if_pos (by omega), show j - o = (j - (o + 1)) + 1 by omega, List.getElem?_cons_succ]
    · rw [if_neg c1, Array.getElem?_setIfInBounds]
      by_cases e : o = j
      · subst e
        rw [if_pos rfl]
        by_cases hs : o < cs.size
        · rw [if_pos hs, if_pos (by omega), Nat.sub_self, List.getElem?_cons_zero]
        · rw [if_neg hs, if_neg (by omega), Array.getElem?_eq_none (by omega)]
      · rw [if_neg e, if_neg (by omega)]
theorem blo_row (h : Blo w g t cs) (cells : Array Value) : Blo (w.setRow g cells) g t cells := by
  unfold Blo at h ⊢
  simp [World.setRow, Array.getElem?_modify, h]
end
/-- 'copy' of elements of whatever size. -/
theorem run_copy_many {P : Program} (w : World) (dT sT ty elem : TypeId) (sz b o dLen dCap : Nat) (a : Addr) (sLen sCap : Nat) (cs : List Value)
    (hu : P.underlying dT = some (.slice elem)) (hs : (P.info? elem).map (·.size) = some sz) (hn : cs.length = Nat.min sLen dLen * sz)
    (hsrc : ∀ j v, cs[j]? = some v → w.cell? (a.add j) = some v) (hc : ∀ j, j < cs.length → (w.cell? ⟨b, o + j, none⟩).isSome = true) (hf : ∀ j, j < cs.length → w.frozen? ⟨b, o + j, none⟩ = false) (h1 : ∀ v ∈ cs, v.oneCell' = true) :
    (Builtin.copy_ #[dT, sT] ty #[.slice (some ⟨b, o, none⟩) dLen dCap, .slice (some a) sLen sCap]).run P w = .ok (goInt (Nat.min sLen dLen)) (w.setCells b o cs) := by
  have hl := run_loadCells_list (P := P) w a cs hsrc
  have hst := run_storeCells_cells (P := P) b o cs 0 w (by simpa using hc) (by simpa using hf) h1
  cases hq : P.info? elem with
  | none => simp [hq] at hs
  | some i =>
    have hi : i.size = sz := by simpa [hq] using hs
    simp [Builtin.copy_, run_underlying hu, Builtin.lenOf, Builtin.firstCells, sizeOf, typeInfo, hq, hi, ← hn, hl, hst]
theorem wpList_copy_many {P : Program} {w : World} {ops : Array Oper} {rest : List Oper} {o : Oper} {a : Act} {Q : Exit → Act → World → Prop} (hgd : o.guard = none) (d s : Operand) (dT sT : TypeId)
    (ho : o.op = .call { callee := .builtin .copy, args := #[d, s], argTypes := #[dT, sT] }) (elem : TypeId) (sz : Nat) (hu : P.underlying dT = some (.slice elem)) (hsz : (P.info? elem).map (·.size) = some sz)
    (g off dLen dCap : Nat) (ad : Addr) (sLen sCap : Nat) (hd : a.eval d = .slice (some ⟨g, off, none⟩) dLen dCap) (hs : a.eval s = .slice (some ad) sLen sCap) (cs : List Value) (hn : cs.length = Nat.min sLen dLen * sz)
    (hsrc : ∀ j v, cs[j]? = some v → w.cell? (ad.add j) = some v) (ht : w.there g off cs.length) (h1 : ∀ v ∈ cs, v.oneCell' = true)
    (h : wpList P ops Q rest (a.put o.dst (goInt (Nat.min sLen dLen))) (w.setCells g off cs)) : wpList P ops Q (o :: rest) a w := by
  refine wpList_plain hgd fun K hK => ?_
  have hrun := run_copy_many (P := P) w dT sT o.type elem sz g off dLen dCap ad sLen sCap cs hu hsz hn hsrc (fun j hj => (ht j hj).1) (fun j hj => (ht j hj).2) h1
  unfold Oper.wp
  simp [execOp, ho, resolve, invoke, builtin, hd, hs, hrun, Result.andThen]
  exact hK _ _ h
theorem step_copy_many {P : Program} {w : World} {ops : Array Oper} {o : Oper} {a : Act} {K : Act → World → Prop} {Q : Exit → Act → World → Prop} {E : Prop} (hgd : o.guard = none) (d s : Operand) (dT sT : TypeId)
    (ho : o.op = .call { callee := .builtin .copy, args := #[d, s], argTypes := #[dT, sT] }) (elem : TypeId) (sz : Nat) (hu : P.underlying dT = some (.slice elem)) (hsz : (P.info? elem).map (·.size) = some sz)
    (g off dLen dCap : Nat) (ad : Addr) (sLen sCap : Nat) (hd : a.eval d = .slice (some ⟨g, off, none⟩) dLen dCap) (hs : a.eval s = .slice (some ad) sLen sCap) (cs : List Value) (hn : cs.length = Nat.min sLen dLen * sz)
    (hsrc : ∀ j v, cs[j]? = some v → w.cell? (ad.add j) = some v) (ht : w.there g off cs.length) (h1 : ∀ v ∈ cs, v.oneCell' = true)
    (h : K (a.put o.dst (goInt (Nat.min sLen dLen))) (w.setCells g off cs)) : if Region.wanted o (yielded ops a.tmps) = true then Oper.wp P o a w K Q else E := by
  rw [if_pos (by simp [Region.wanted, hgd])]
  have hrun := run_copy_many (P := P) w dT sT o.type elem sz g off dLen dCap ad sLen sCap cs hu hsz hn hsrc (fun j hj => (ht j hj).1) (fun j hj => (ht j hj).2) h1
  unfold Oper.wp
  simp [execOp, ho, resolve, invoke, builtin, hd, hs, hrun, Result.andThen]
  exact h
theorem range_src {w : World} {b o : Nat} {cs : List Value} (h : w.rangeAt b o cs) : ∀ j v, cs[j]? = some v → w.cell? ((⟨b, o, none⟩ : Addr).add j) = some v := fun j v hv => by
  rw [Addr.add_mid]; exact h j v hv
/-- Steps of a region that draws its order. -/
theorem step_load_mid {P : Program} {ops : Array Oper} {o : Oper} {a : Act} {w : World} {K : Act → World → Prop} {Q : Exit → Act → World → Prop} {E : Prop} (hg : o.guard = none) (ty : TypeId) (x : Operand) (ho : o.op = .load ty x)
    (b off : Nat) (hx : a.eval x = .pointer (some ⟨b, off, none⟩)) (cs : List Value) (d : TypeDesc) (hc : w.rangeAt b off cs)
    (hu : P.underlying ty = some d) (hd : d.isRow = true) (hi : (P.info? ty).map (·.size) = some cs.length)
    (h : K (a.put o.dst (.agg cs.toArray)) w) : if Region.wanted o (yielded ops a.tmps) = true then Oper.wp P o a w K Q else E := by
  rw [if_pos (by simp [Region.wanted, hg])]
  exact wp_load_mid ty x ho b off hx cs d hc hu hd hi h
theorem step_store_mid {P : Program} {ops : Array Oper} {o : Oper} {a : Act} {w : World} {K : Act → World → Prop} {Q : Exit → Act → World → Prop} {E : Prop} (hg : o.guard = none) (ty : TypeId) (x y : Operand) (ho : o.op = .store ty x y)
    (b off : Nat) (cells : List Value) (hx : a.eval x = .pointer (some ⟨b, off, none⟩)) (hy : a.eval y = .agg cells.toArray)
    (ht : w.there b off cells.length) (hi : (P.info? ty).map (·.size) = some cells.length) (h1 : ∀ v ∈ cells, v.oneCell' = true)
    (h : K (a.put o.dst undef) (w.setCells b off cells)) : if Region.wanted o (yielded ops a.tmps) = true then Oper.wp P o a w K Q else E := by
  rw [if_pos (by simp [Region.wanted, hg])]
  exact wp_store_mid ty x y ho b off cells.toArray hx hy (by simpa using ht) (by simpa using hi) (all_oneCell_toArray h1) (by simpa using h)
end Go.Proofs.Ytdnkeplmjimjcaa
/-
  Small laws of walks over any program: a slice of bytes that is read, told by a list of numbers; its text; bytes put behind what the call owns.
-/
namespace Go.Proofs.Ytdnkeplmjimjcaa
open Go.RowKit

/-- What a slice of bytes that is read holds: bytes; and where there are any, cells. -/
def Bytes (w : World) (a : Option Addr) (l : List Nat) : Prop :=
  (∀ x ∈ l, x < 256) ∧ l.length ≤ 9223372036854775807 ∧ (l ≠ [] → ∃ b o, a = some ⟨b, o, none⟩ ∧ ∀ i, i < l.length → w.cell? ⟨b, o + i, none⟩ = some (.int .u8 (l.getD i 0 : Nat)))
theorem getD_byte {l : List Nat} (h : ∀ x ∈ l, x < 256) (k : Nat) : l.getD k 0 < 256 := by
  rw [List.getD_eq_getElem?_getD]
  by_cases hk : k < l.length
  · rw [List.getElem?_eq_getElem hk]; exact h _ (List.getElem_mem hk)
  · rw [List.getElem?_eq_none (by omega)]; decide
theorem Bytes.none (w : World) (a : Option Addr) : Bytes w a [] := ⟨(fun _ h => by cases h), by decide, fun h => absurd rfl h⟩
theorem Bytes.below {w w' : World} {a : Option Addr} {l : List Nat} (h : Bytes w a l) (hb : Below w.heap.size w w') : Bytes w' a l :=
  ⟨h.1, h.2.1, fun hl => by
    obtain ⟨b, o, ha, hc⟩ := h.2.2 hl
    exact ⟨b, o, ha, fun i hi => cell_later hb (hc i hi)⟩⟩
/-- A row of bytes that was just laid. -/
theorem Bytes.laid (w : World) (l : List Nat) (C : Array Value) (t : TypeId) (fr : Nat × Nat) (h1 : ∀ x ∈ l, x < 256) (h2 : l.length ≤ 9223372036854775807)
    (hC : ∀ i, i < l.length → C[i]? = some (.int .u8 (l.getD i 0 : Nat))) : Bytes (w.alloc (.cells C t fr)) (some ⟨w.heap.size, 0, Option.none⟩) l :=
  ⟨h1, h2, fun _ => ⟨w.heap.size, 0, rfl, fun i hi => by rw [World.cell?_alloc_mark, Nat.zero_add, hC i hi]⟩⟩

/-- The text of bytes. -/
def strOf (l : List Nat) : ByteArray := strOfNums (l.map fun (x : Nat) => (x : Int))
theorem strOf_toList (l : List Nat) : (strOf l).data.toList = l.map UInt8.ofNat := by
  unfold strOf strOfNums
  simp [List.map_map, Function.comp_def]
theorem strOf_inj {l m : List Nat} (hl : ∀ x ∈ l, x < 256) (hm : ∀ x ∈ m, x < 256) (h : strOf l = strOf m) : l = m := by
  have e : l.map UInt8.ofNat = m.map UInt8.ofNat := by rw [← strOf_toList, ← strOf_toList, h]
  have e2 : ∀ k : List Nat, (∀ x ∈ k, x < 256) → (k.map UInt8.ofNat).map UInt8.toNat = k := by
    intro k hk
    rw [List.map_map]
    conv => rhs; rw [← List.map_id k]
    apply List.map_congr_left
    intro x hx
    simp only [Function.comp_apply, id_eq, UInt8.toNat_ofNat']
    exact Nat.mod_eq_of_lt (hk x hx)
  rw [← e2 l hl, ← e2 m hm, e]

theorem run_str {P : Program} (w : World) (T S e : TypeId) (hs : P.underlying T = some (.slice e)) (he : P.underlying e = some (.int .u8)) (hd : P.underlying S = some .string)
    (l : List Nat) (a : Option Addr) (n cap : Nat) (hn : n = l.length) (h : Bytes w a l) : (convert T S (.slice a n cap)).run P w = .ok (.string (strOf l)) w := by
  subst hn
  by_cases hl : l = []
  · subst hl
    have e0 : strOf [] = ⟨#[]⟩ := rfl
    rw [e0]
    cases a with
    | none => exact Lib.run_convert_nil_bytes w T S e cap hs he hd
    | some x =>
      rw [run_convert_bytes_string w T S e (some x) _ cap hs he hd, run_bytesToString w x _ cap [] rfl]
      rfl
  · obtain ⟨b, o, rfl, hc⟩ := h.2.2 hl
    exact run_convert_bytes_arg w T e hs he b o l.length cap (l.map fun (x : Nat) => (x : Int)) (by simp) (fun i hi => by
      rw [hc i hi]
      simp [List.getD_eq_getElem?_getD, List.getElem?_map, List.getElem?_eq_getElem hi]) S hd

/-- The cells of bytes. -/
def cellsB (l : List Nat) : List Value := l.map fun (x : Nat) => Value.int .u8 (x : Int)
theorem cellsB_length (l : List Nat) : (cellsB l).length = l.length := by simp [cellsB]
theorem cellsB_get (l : List Nat) (i : Nat) (hi : i < l.length) : (cellsB l)[i]? = some (.int .u8 (l.getD i 0 : Nat)) := by
  simp [cellsB, List.getD_eq_getElem?_getD, List.getElem?_eq_getElem hi]
theorem cellsB_append (l m : List Nat) : cellsB l ++ cellsB m = cellsB (l ++ m) := by simp [cellsB]
theorem cellsB_inj {l m : List Nat} (h : cellsB l = cellsB m) : l = m := by
  have := congrArg (List.map fun v => match v with | Value.int _ n => n.toNat | _ => 0) h
  simpa [cellsB, List.map_map, Function.comp_def] using this

/-- What the call owns, read as bytes. -/
theorem Bytes.own {w : World} {base : Nat} {e : TypeId} {v : Value} {n : Nat} {l : List Nat} (h : w.ownsRow base e 1 v n (cellsB l)) (h1 : ∀ x ∈ l, x < 256) :
    ∃ a cap, v = .slice a n cap ∧ n = l.length ∧ Bytes w a l ∧ (a = Option.none → l = [] ∧ cap = 0) := by
  have hlen : n = l.length := by have := h.1; rw [cellsB_length, Nat.mul_one] at this; exact this.symm
  obtain ⟨_, ⟨rfl, h0⟩ | ⟨g, cap, cur, rfl, hg, hh, hc1, hc2, hs, ht⟩⟩ := id h
  · have : l = [] := List.eq_nil_of_length_eq_zero (by omega)
    subst this
    exact ⟨Option.none, 0, by rw [h0], hlen, Bytes.none _ _, fun _ => ⟨rfl, rfl⟩⟩
  · refine ⟨some ⟨g, 0, Option.none⟩, cap, rfl, hlen, ⟨h1, by unfold maxLen at hc2; omega, fun _ => ⟨g, 0, rfl, fun i hi => ?_⟩⟩, fun h => by cases h⟩
    rw [Nat.zero_add, h.cellAt i (by omega), cellsB_get l i hi]

/-- 'append(own, bytes...)'. -/
theorem wp_append_bytes {P : Program} {w : World} {ops : Array Oper} {rest : List Oper} {o : Oper} {act : Act} {Q : Exit → Act → World → Prop} (hgd : o.guard = none) (s x : Operand) (t : TypeId)
    (ho : o.op = .call { callee := .builtin .append, args := #[s, x], argTypes := #[t, t] })
    (base : Nat) (e : TypeId) (ht : P.underlying t = some (.slice e)) (hi : (P.info? e).map (fun i => (i.zero, i.size, i.bytes)) = some (some (.int .u8 0), 1, 1))
    (v : Value) (n : Nat) (xs : List Nat) (hs : act.eval s = v) (hown : w.ownsRow base e 1 v n (cellsB xs)) (hxs : ∀ y ∈ xs, y < 256)
    (a : Option Addr) (m cap : Nat) (l : List Nat) (hx : act.eval x = .slice a m cap) (hm : m = l.length) (hl : Bytes w a l) (ha : a = none → l = [] ∧ cap = 0)
    (hroom : n + m ≤ 140737488355328) (hbase : base ≤ w.heap.size)
    (h : ∀ a' cap' w', w'.ownsRow base e 1 (.slice a' (n + m) cap') (n + m) (cellsB (xs ++ l)) → w.grownBy w' v.ownBlock → Bytes w' a' (xs ++ l) → n + m = (xs ++ l).length →
      wpList P ops Q rest (act.put o.dst (.slice a' (n + m) cap')) w') : wpList P ops Q (o :: rest) act w := by
  obtain ⟨i, hi0, hz, hs1, hb1⟩ := info_parts hi
  subst hm
  have hbytes : ∀ y ∈ xs ++ l, y < 256 := fun y hy => by
    rcases List.mem_append.1 hy with h | h
    · exact hxs y h
    · exact hl.1 y h
  have fin : ∀ v' w', w'.ownsRow base e 1 v' (n + l.length) (cellsB (xs ++ l)) → w.grownBy w' v.ownBlock → wpList P ops Q rest (act.put o.dst v') w' := by
    intro v' w' h1 h2
    obtain ⟨a', cap', rfl, hn, hB, _⟩ := Bytes.own h1 hbytes
    exact h a' cap' w' h1 h2 hB hn
  cases a with
  | none =>
    obtain ⟨rfl, rfl⟩ := ha rfl
    refine wpList_append_own_none hgd s x t ho base e i 1 ht hi0 v n (cellsB xs) hs hown hx ?_
    have := fin v w (by simpa using hown) ⟨rfl, rfl, rfl, Nat.le_refl _, fun _ _ _ => rfl⟩
    exact this
  | some ad =>
    refine wpList_append_own w hgd s x t ho base e i (.int .u8 0) 1 1 ht hi0 hz hs1 hb1 rfl (by decide) v n (cellsB xs) hs hown ad l.length cap (cellsB l) hx (by rw [cellsB_length, Nat.mul_one]) ?_ ?_ (by unfold maxLen; omega) (by omega) hbase ?_
    · intro j u hj
      have hjl : j < l.length := by
        rcases Nat.lt_or_ge j l.length with h | h
        · exact h
        · rw [List.getElem?_eq_none (by rw [cellsB_length]; exact h)] at hj; cases hj
      have hne : l ≠ [] := fun h => by subst h; simp at hjl
      obtain ⟨b, off, he, hc⟩ := hl.2.2 hne
      cases he
      rw [cellsB_get l j hjl] at hj
      cases hj
      rw [Addr.add_lit]; exact hc j hjl
    · intro u hu
      simp only [cellsB, List.mem_map] at hu
      obtain ⟨_, _, rfl⟩ := hu
      rfl
    · intro v' w' h1 h2 _
      rw [cellsB_append] at h1
      exact fin v' w' h1 h2

/-- What the walk is told of a slice of integers that came in. -/
def IsRow (k : IntKind) (w : World) (a : Option Addr) (len cap : Nat) (zs : List Int) : Prop :=
  (a = none ∧ len = 0 ∧ cap = 0 ∧ zs = []) ∨
  ∃ x, a = some x ∧ len ≤ cap ∧ cap ≤ maxLen ∧ zs.length = cap ∧ (∀ i, i < zs.length → w.cell? (x.add i) = some (.int k (zs.getD i 0))) ∧ ∀ n ∈ zs, (Lit.int k n).wf = true
theorem IsRow.bytes {w : World} {a : Option Addr} {len cap : Nat} {zs : List Int} (h : IsRow .u8 w a len cap zs) :
    ∃ l : List Nat, len = l.length ∧ Bytes w a l ∧ (a = none → l = [] ∧ cap = 0) ∧ len ≤ 9223372036854775807 ∧ len ≤ cap := by
  rcases h with ⟨rfl, rfl, rfl, rfl⟩ | ⟨x, rfl, h1, h2, h3, h4, h5⟩
  · exact ⟨[], rfl, Bytes.none _ _, fun _ => ⟨rfl, rfl⟩, by decide, by decide⟩
  · have hm : (maxLen : Nat) = 9223372036854775807 := by decide
    have hb : ∀ n ∈ zs, 0 ≤ n ∧ n < 256 := fun n hn => by
      have := h5 n hn
      have := Go.bounds_u8 this
      omega
    refine ⟨(zs.take len).map Int.toNat, by simp; omega, ⟨?_, by simp; omega, ?_⟩, (fun h => by cases h), by omega, h1⟩
    · intro y hy
      obtain ⟨n, hn, rfl⟩ := List.mem_map.1 hy
      have := hb n (List.mem_of_mem_take hn)
      omega
    · intro hne
      have hlen : 0 < len := by
        rcases Nat.eq_zero_or_pos len with h | h
        · subst h; simp at hne
        · exact h
      obtain ⟨b, off, rfl, hc⟩ := Go.ints_at h4 (by omega)
      refine ⟨b, off, rfl, fun i hi => ?_⟩
      simp at hi
      rw [hc i (by omega)]
      have hiz : i < zs.length := by omega
      have hil : i < len := by omega
      have hg : zs.getD i 0 = zs[i] := by rw [List.getD_eq_getElem?_getD, List.getElem?_eq_getElem hiz]; rfl
      have hp := (hb zs[i] (List.getElem_mem hiz)).1
      rw [hg, List.getD_eq_getElem?_getD, List.getElem?_map, List.getElem?_take_of_lt hil, List.getElem?_eq_getElem hiz]
      simp [Int.toNat_of_nonneg hp]

/-- 's[:k]' of bytes. -/
theorem slice_head {P : Program} (T e : TypeId) (ht : P.underlying T = some (.slice e)) (hz : ∀ w, (Go.sizeOf e).run P w = .ok 1 w) {w : World} {a : Option Addr} {l : List Nat} {n cap : Nat} (hn : n = l.length)
    (h : Bytes w a l) (ha : a = none → l = [] ∧ cap = 0) (hc : n ≤ cap) (k : Nat) (hk : k ≤ n) :
    ∃ a', (∀ W, (Instr.slice T (.slice a n cap) none (some (.int .i64 (k : Int))) none).run P W = .ok (.slice a' k cap) W) ∧ Bytes w a' (l.take k) ∧ (a' = none → l.take k = [] ∧ cap = 0) := by
  have ht' : P.underlying T = some (.slice (P.elem T)) := by simp [Program.elem, ht]
  have he : P.elem T = e := by simp [Program.elem, ht]
  refine ⟨if cap = 0 then a else a.map (·.add (0 * 1)), fun W => ?_, ?_, ?_⟩
  · rw [run_slice_h W T _ _ _ ht' .i64 _ (by omega) (by omega), he, hz]
    simp [Result.andThen, sliced]
  · refine ⟨fun x hx => h.1 x (List.mem_of_mem_take hx), by have := h.2.1; simp; omega, fun hne => ?_⟩
    have hl : l ≠ [] := fun e => by subst e; simp at hne
    obtain ⟨b, o, rfl, hcell⟩ := h.2.2 hl
    have hlen : 0 < l.length := List.length_pos_iff.2 hl
    rw [if_neg (by omega)]
    refine ⟨b, o, by simp [Addr.add_lit], fun i hi => ?_⟩
    simp only [List.length_take] at hi
    rw [hcell i (by omega), List.getD_eq_getElem?_getD, List.getD_eq_getElem?_getD, List.getElem?_take_of_lt (by omega)]
  · intro hn'
    cases a with
    | none => obtain ⟨rfl, h0⟩ := ha rfl; exact ⟨by simp, h0⟩
    | some x => split at hn' <;> simp at hn'

/-- 's[k:]' of bytes. -/
theorem slice_tail {P : Program} (T e : TypeId) (ht : P.underlying T = some (.slice e)) (hz : ∀ w, (Go.sizeOf e).run P w = .ok 1 w) {w : World} {a : Option Addr} {l : List Nat} {n cap : Nat} (hn : n = l.length)
    (h : Bytes w a l) (ha : a = none → l = [] ∧ cap = 0) (hc : n ≤ cap) (k : Nat) (hk : k ≤ n) :
    ∃ a', (∀ W, (Instr.slice T (.slice a n cap) (some (.int .i64 (k : Int))) none none).run P W = .ok (.slice a' (n - k) (cap - k)) W) ∧ Bytes w a' (l.drop k) ∧ (a' = none → l.drop k = [] ∧ cap - k = 0) := by
  have ht' : P.underlying T = some (.slice (P.elem T)) := by simp [Program.elem, ht]
  have he : P.elem T = e := by simp [Program.elem, ht]
  refine ⟨if cap = k then a else a.map (·.add (k * 1)), fun W => ?_, ?_, ?_⟩
  · rw [run_slice_l W T _ _ _ ht' .i64 _ (by omega) (by omega), he, hz]
    simp [Result.andThen, sliced]
  · refine ⟨fun x hx => h.1 x (List.mem_of_mem_drop hx), by have := h.2.1; simp; omega, fun hne => ?_⟩
    have hlen : k < l.length := by
      rcases Nat.lt_or_ge k l.length with hh | hh
      · exact hh
      · exact absurd (List.drop_eq_nil_of_le hh) hne
    have hl : l ≠ [] := fun e => by subst e; simp at hlen
    obtain ⟨b, o, rfl, hcell⟩ := h.2.2 hl
    rw [if_neg (by omega)]
    refine ⟨b, o + k, by simp [Addr.add_lit], fun i hi => ?_⟩
    simp only [List.length_drop] at hi
    rw [Nat.add_assoc, hcell (k + i) (by omega), List.getD_eq_getElem?_getD, List.getD_eq_getElem?_getD, List.getElem?_drop]
  · intro hn'
    cases a with
    | none => obtain ⟨rfl, h0⟩ := ha rfl; exact ⟨by simp, by omega⟩
    | some x => split at hn' <;> simp at hn'
theorem flip_same {P : Program} {f : FuncId} {args : Array Value} {w : World} {v : Value} (h : Calls P f args w fun e w' => e = .returned v ∧ w = w') : Calls P f args w fun e w' => e = .returned v ∧ w' = w :=
  h.mono fun _ _ ⟨h1, h2⟩ => ⟨h1, h2.symm⟩
theorem Bytes.drewN {w : World} {a : Option Addr} {l : List Nat} (h : Bytes w a l) (q : Nat) : Bytes (w.drewN q) a l :=
  ⟨h.1, h.2.1, fun hl => by
    obtain ⟨b, o, ha, hc⟩ := h.2.2 hl
    exact ⟨b, o, ha, fun i hi => by rw [World.cell?_drewN]; exact hc i hi⟩⟩
/-- 'int(uint(x) % uint(n + 1))'. -/
theorem cut_mod (x : Int) (n : Nat) (hn : n < 4611686018427387904) : ∃ k : Nat, k ≤ n ∧ wrap64 ((IntKind.u64.wrap x).tmod ((n : Int) + 1)) = (k : Int) := by
  have h0 : 0 ≤ IntKind.u64.wrap x := by rw [IntKind.wrap_u64]; omega
  rw [Int.tmod_eq_emod_of_nonneg h0]
  generalize IntKind.u64.wrap x = y at *
  refine ⟨(y % ((n : Int) + 1)).toNat, ?_, ?_⟩
  · have := Int.emod_lt_of_pos y (show (0 : Int) < (n : Int) + 1 by omega)
    have := Int.emod_nonneg y (show ((n : Int) + 1) ≠ 0 by omega)
    omega
  · have h1 := Int.emod_lt_of_pos y (show (0 : Int) < (n : Int) + 1 by omega)
    have h2 := Int.emod_nonneg y (show ((n : Int) + 1) ≠ 0 by omega)
    rw [IntWalk.wrap64_in _ (by omega)]
    omega
theorem str_ne {l m : List Nat} (hl : ∀ x ∈ l, x < 256) (hm : ∀ x ∈ m, x < 256) (h : l ≠ m) : ((strOf l).toList == (strOf m).toList) = false := by
  rw [ByteArray.toList_eq, ByteArray.toList_eq]
  apply beq_false_of_ne
  intro e
  exact h (strOf_inj hl hm (ByteArray.ext (Array.toList_inj.mp e)))
/-- 's[0:k:k]' of bytes. -/
theorem slice_full {P : Program} (T e : TypeId) (ht : P.underlying T = some (.slice e)) (hz : ∀ w, (Go.sizeOf e).run P w = .ok 1 w) {w : World} {a : Option Addr} {l : List Nat} {n cap : Nat} (hn : n = l.length)
    (h : Bytes w a l) (hc : n ≤ cap) (k : Nat) (hk : k ≤ n) :
    ∃ a', (∀ W, (Instr.slice T (.slice a n cap) (some (.int .i64 0)) (some (.int .i64 (k : Int))) (some (.int .i64 (k : Int)))).run P W = .ok (.slice a' k k) W) ∧ Bytes w a' (l.take k) := by
  have ht' : P.underlying T = some (.slice (P.elem T)) := by simp [Program.elem, ht]
  have he : P.elem T = e := by simp [Program.elem, ht]
  refine ⟨if k = 0 then a else a.map (·.add (0 * 1)), fun W => ?_, ?_⟩
  · rw [run_slice_lhm W T _ _ _ ht' .i64 .i64 .i64 _ _ _ (by omega) (by omega) (by omega) (by omega), he, hz]
    simp [Result.andThen, sliced]
  · refine ⟨fun x hx => h.1 x (List.mem_of_mem_take hx), by have := h.2.1; simp; omega, fun hne => ?_⟩
    have hl : l ≠ [] := fun e => by subst e; simp at hne
    have hk0 : k ≠ 0 := fun e => by subst e; simp at hne
    obtain ⟨b, o, rfl, hcell⟩ := h.2.2 hl
    rw [if_neg hk0]
    refine ⟨b, o, by simp [Addr.add_lit], fun i hi => ?_⟩
    simp only [List.length_take] at hi
    rw [hcell i (by omega), List.getD_eq_getElem?_getD, List.getD_eq_getElem?_getD, List.getElem?_take_of_lt (by omega)]
end Go.Proofs.Ytdnkeplmjimjcaa
/-
  The cache's buffers in memory, and the row of those that may go.
-/
namespace Go.Proofs.Ytdnkeplmjimjcaa
open Go.RowKit

abbrev BT := 79
abbrev PB := 80
abbrev CT := 69
structure Bf where
  ino : Int
  lbn : Int
  data : Nat → Nat
  dirty : Bool
  pins : Int
  used : Int
structure BfC (cs : Array Value) (s : Bf) (a : Int) : Prop where
  size : cs.size = 70
  k0 : cs[0]? = some (.int .i64 s.ino)
  k1 : cs[1]? = some (.int .i64 s.lbn)
  dat : ∀ i, i < 64 → cs[2 + i]? = some (.int .u8 ((s.data i : Nat) : Int))
  dirty : cs[66]? = some (.bool s.dirty)
  pins : cs[67]? = some (.int .i64 s.pins)
  used : cs[68]? = some (.int .i64 s.used)
  at_ : cs[69]? = some (.int .i64 a)
def BufO (w : World) (b : Nat) (s : Bf) (a : Int) : Prop := ∃ cs, Blo w b BT cs ∧ BfC cs s a
def ptrs (h : Nat → Nat) (m : Nat) : List Value := (List.range m).map fun i => Value.pointer (some ⟨h i, 0, none⟩)
theorem ptrs_len (h : Nat → Nat) (m : Nat) : (ptrs h m).length = m := by simp [ptrs]
theorem ptrs_get (h : Nat → Nat) {m i : Nat} (hi : i < m) : (ptrs h m)[i]? = some (.pointer (some ⟨h i, 0, none⟩)) := by simp [ptrs, hi]
theorem ptrs_succ (h : Nat → Nat) (m : Nat) : ptrs h (m + 1) = ptrs h m ++ [.pointer (some ⟨h m, 0, none⟩)] := by simp [ptrs, List.range_succ]
theorem ptrs_congr {h h' : Nat → Nat} {m : Nat} (hh : ∀ i, i < m → h i = h' i) : ptrs h m = ptrs h' m := by
  unfold ptrs
  apply List.map_congr_left
  intro i hi
  rw [hh i (by simpa using hi)]
/-- The row of those that may go: each knows its place. -/
structure GS (w : World) (base : Nat) (v : Value) (m : Nat) (h : Nat → Nat) (S : Nat → Bf) : Prop where
  row : w.ownsRow base PB 1 v m (ptrs h m)
  buf : ∀ i, i < m → BufO w (h i) (S (h i)) ((i : Nat) : Int)
/-- What a heap's calls may change: the row, and its buffers. -/
def XG (v : Value) (m : Nat) (h : Nat → Nat) (g : Nat) : Prop := v.ownBlock = some g ∨ ∃ i, i < m ∧ h i = g
/-- The same buffers, in another order. -/
def PmG (m : Nat) (h h' : Nat → Nat) : Prop := (∀ i, i < m → ∃ j, j < m ∧ h' i = h j) ∧ (∀ j, j < m → ∃ i, i < m ∧ h' i = h j)
section
variable {w w' : World} {b base m : Nat} {s : Bf} {a : Int} {v : Value} {h : Nat → Nat} {S : Nat → Bf} {X : Nat → Prop}
theorem Out.put {w0 : World} (ho : Out X w0 w) {p : Addr} (hp : X p.block) (u : Value) : Out X w0 (w.setCell p u) :=
  ⟨ho.os, ho.tape, ho.output, by simpa using ho.size, fun i hi hx => (heap_setCell_other w p i u (fun e => hx (by rw [e]; exact hp))).trans (ho.block i hi hx)⟩
theorem Out.drawn {w0 : World} (ho : Out X w0 w) : Out X w0 w.drew := ⟨ho.os, ho.tape, ho.output, ho.size, ho.block⟩
theorem BufO.later (hB : BufO w b s a) (hb : Below w.heap.size w w') : BufO w' b s a := by
  obtain ⟨cs, h1, h2⟩ := hB
  exact ⟨cs, h1.later hb, h2⟩
theorem BufO.out (hB : BufO w b s a) (ho : Out X w w') (hx : ¬ X b) : BufO w' b s a := by
  obtain ⟨cs, h1, h2⟩ := hB
  exact ⟨cs, ho.blo h1 hx, h2⟩
theorem BufO.lt (hB : BufO w b s a) : b < w.heap.size := by
  obtain ⟨cs, h1, h2⟩ := hB
  exact h1.lt
theorem BufO.apart (hB : BufO w b s a) {g : Nat} {t : TypeId} {cs : Array Value} (hg : Blo w g t cs) (ht : t ≠ BT) : b ≠ g := by
  obtain ⟨cs', h1, h2⟩ := hB
  exact fun e => h1.apart hg (fun e => ht e.symm) e
theorem BufO.cells (hB : BufO w b s a) : w.cell? ⟨b, 0, none⟩ = some (.int .i64 s.ino) ∧ w.cell? ⟨b, 1, none⟩ = some (.int .i64 s.lbn) ∧ w.cell? ⟨b, 66, none⟩ = some (.bool s.dirty) ∧ w.cell? ⟨b, 67, none⟩ = some (.int .i64 s.pins) ∧ w.cell? ⟨b, 68, none⟩ = some (.int .i64 s.used) ∧ w.cell? ⟨b, 69, none⟩ = some (.int .i64 a) := by
  obtain ⟨cs, h1, h2⟩ := hB
  exact ⟨(h1.cell _).trans h2.k0, (h1.cell _).trans h2.k1, (h1.cell _).trans h2.dirty, (h1.cell _).trans h2.pins, (h1.cell _).trans h2.used, (h1.cell _).trans h2.at_⟩
theorem BufO.frozen (hB : BufO w b s a) (i : Nat) : w.frozen? ⟨b, i, none⟩ = false := by
  obtain ⟨cs, h1, h2⟩ := hB
  exact h1.frozen i
theorem BufO.uniq (hB : BufO w b s a) {s' : Bf} {a' : Int} (hC : BufO w b s' a') : a = a' := by
  obtain ⟨-, -, -, -, -, h1⟩ := hB.cells
  obtain ⟨-, -, -, -, -, h2⟩ := hC.cells
  rw [h1] at h2
  cases h2
  rfl
theorem BfC.set {cs : Array Value} (hC : BfC cs s a) (i : Nat) (u : Value) (s' : Bf) (a' : Int)
    (e0 : i ≠ 0) (e1 : i ≠ 1) (ed : i < 2 ∨ 66 ≤ i) (h0 : s'.ino = s.ino) (h1 : s'.lbn = s.lbn) (hd : s'.data = s.data)
    (h66 : if i = 66 then u = .bool s'.dirty else s'.dirty = s.dirty) (h67 : if i = 67 then u = .int .i64 s'.pins else s'.pins = s.pins)
    (h68 : if i = 68 then u = .int .i64 s'.used else s'.used = s.used) (h69 : if i = 69 then u = .int .i64 a' else a' = a) : BfC (cs.setIfInBounds i u) s' a' := by
  have get : ∀ j, cs.size = 70 → j < 70 → (cs.setIfInBounds i u)[j]? = if i = j then some u else cs[j]? := fun j hs hj => by
    rw [Array.getElem?_setIfInBounds]
    by_cases e : i = j
    · rw [if_pos e, if_pos e, if_pos (by omega)]
    · rw [if_neg e, if_neg e]
  have g := fun j hj => get j hC.size hj
  refine ⟨by simp [hC.size], ?_, ?_, fun j hj => ?_, ?_, ?_, ?_, ?_⟩
  · rw [g 0 (by decide), if_neg e0, h0]; exact hC.k0
  · rw [g 1 (by decide), if_neg e1, h1]; exact hC.k1
  · rw [g (2 + j) (by omega), if_neg (by omega), hd]; exact hC.dat j hj
  · rw [g 66 (by decide)]
    by_cases e : i = 66
    · rw [if_pos e] at h66 ⊢; rw [h66]
    · rw [if_neg e] at h66 ⊢; rw [h66]; exact hC.dirty
  · rw [g 67 (by decide)]
    by_cases e : i = 67
    · rw [if_pos e] at h67 ⊢; rw [h67]
    · rw [if_neg e] at h67 ⊢; rw [h67]; exact hC.pins
  · rw [g 68 (by decide)]
    by_cases e : i = 68
    · rw [if_pos e] at h68 ⊢; rw [h68]
    · rw [if_neg e] at h68 ⊢; rw [h68]; exact hC.used
  · rw [g 69 (by decide)]
    by_cases e : i = 69
    · rw [if_pos e] at h69 ⊢; rw [h69]
    · rw [if_neg e] at h69 ⊢; rw [h69]; exact hC.at_
theorem BufO.put_at (hB : BufO w b s a) (x : Int) : BufO (w.setCell ⟨b, 69, none⟩ (.int .i64 x)) b s x := by
  obtain ⟨cs, h1, h2⟩ := hB
  exact ⟨_, h1.put 69 _, h2.set 69 _ s x (by decide) (by decide) (by decide) rfl rfl rfl (by simp) (by simp) (by simp) (by simp)⟩
theorem BufO.put_used (hB : BufO w b s a) (x : Int) : BufO (w.setCell ⟨b, 68, none⟩ (.int .i64 x)) b { s with used := x } a := by
  obtain ⟨cs, h1, h2⟩ := hB
  exact ⟨_, h1.put 68 _, h2.set 68 _ _ a (by decide) (by decide) (by decide) rfl rfl rfl (by simp) (by simp) (by simp) (by simp)⟩
theorem BufO.put_pins (hB : BufO w b s a) (x : Int) : BufO (w.setCell ⟨b, 67, none⟩ (.int .i64 x)) b { s with pins := x } a := by
  obtain ⟨cs, h1, h2⟩ := hB
  exact ⟨_, h1.put 67 _, h2.set 67 _ _ a (by decide) (by decide) (by decide) rfl rfl rfl (by simp) (by simp) (by simp) (by simp)⟩
theorem BufO.put_dirty (hB : BufO w b s a) (x : Bool) : BufO (w.setCell ⟨b, 66, none⟩ (.bool x)) b { s with dirty := x } a := by
  obtain ⟨cs, h1, h2⟩ := hB
  exact ⟨_, h1.put 66 _, h2.set 66 _ _ a (by decide) (by decide) (by decide) rfl rfl rfl (by simp) (by simp) (by simp) (by simp)⟩
theorem BufO.far (hB : BufO w b s a) {p : Addr} (hp : b ≠ p.block) (u : Value) : BufO (w.setCell p u) b s a := by
  obtain ⟨cs, h1, h2⟩ := hB
  exact ⟨cs, h1.far hp u, h2⟩
theorem GS.inj (hG : GS w base v m h S) {i j : Nat} (hi : i < m) (hj : j < m) (e : h i = h j) : i = j := by
  have h1 := hG.buf i hi
  rw [e] at h1
  have := h1.uniq (hG.buf j hj)
  omega
theorem GS.later (hG : GS w base v m h S) (hb : Below w.heap.size w w') : GS w' base v m h S := ⟨own_later hG.row hb, fun i hi => (hG.buf i hi).later hb⟩
theorem GS.form (hG : GS w base v m h S) (h0 : 0 < m) : ∃ gr cap, v = .slice (some ⟨gr, 0, none⟩) m cap := by
  rcases hG.row.2 with ⟨_, e⟩ | ⟨g, cap, cur, hv, _⟩
  · omega
  · exact ⟨g, cap, hv⟩
theorem GS.out (hG : GS w base v m h S) (ho : Out X w w') (hx : ∀ g, XG v m h g → ¬ X g) : GS w' base v m h S :=
  ⟨ho.own hG.row (fun g hg => hx g (.inl hg)), fun i hi => (hG.buf i hi).out ho (hx _ (.inr ⟨i, hi, rfl⟩))⟩
theorem PmG.refl : PmG m h h := ⟨fun i hi => ⟨i, hi, rfl⟩, fun i hi => ⟨i, hi, rfl⟩⟩
theorem PmG.trans {h1 h2 : Nat → Nat} (p : PmG m h h1) (q : PmG m h1 h2) : PmG m h h2 := ⟨fun i hi => by
  obtain ⟨j, hj, e⟩ := q.1 i hi
  obtain ⟨k, hk, e2⟩ := p.1 j hj
  exact ⟨k, hk, e.trans e2⟩, fun i hi => by
  obtain ⟨j, hj, e⟩ := p.2 i hi
  obtain ⟨k, hk, e2⟩ := q.2 j hj
  exact ⟨k, hk, e2.trans e⟩⟩
theorem PmG.sw {i j : Nat} (hi : i < m) (hj : j < m) : PmG m h (sw h i j) := ⟨fun k hk => by
  by_cases e : k = i
  · exact ⟨j, hj, by rw [e, sw_l]⟩
  · by_cases e2 : k = j
    · exact ⟨i, hi, by rw [e2, sw_r]⟩
    · exact ⟨k, hk, sw_ne h e e2⟩, fun k hk => by
  by_cases e : k = i
  · exact ⟨j, hj, by rw [e, sw_r]⟩
  · by_cases e2 : k = j
    · exact ⟨i, hi, by rw [e2, sw_l]⟩
    · exact ⟨k, hk, sw_ne h e e2⟩⟩
theorem PmG.xg {h' : Nat → Nat} (p : PmG m h h') {g : Nat} (hx : XG v m h' g) : XG v m h g := by
  rcases hx with e | ⟨i, hi, e⟩
  · exact .inl e
  · obtain ⟨j, hj, e2⟩ := p.1 i hi
    exact .inr ⟨j, hj, by rw [← e2, e]⟩
end
end Go.Proofs.Ytdnkeplmjimjcaa
/-
  A region that draws its order, whose operations read and whose callees make memory beside: one walk in the order of the text, over all worlds that keep what stood.
-/
namespace Go.Proofs.Ytdnkeplmjimjcaa
open Go.RowKit

/-- A world that has all that stood in w as it stood. -/
structure Kept (w : World) where
  at_ : World
  below : Below w.heap.size w at_
instance kept_some (w : World) : Nonempty (Kept w) := ⟨⟨w, Below.refl _ _⟩⟩
theorem wp_region_kept {P : Program} {id : Nat} {Q : Exit → Act → World → Prop} {a : Act} {w : World} {l : List Oper} (hm : P.follows .mixedOrders = true) (hB : Region.lexB .any l.toArray = true)
    (h : wpQuiet P l.toArray (fun W => ∃ x : Kept w, W = x.at_) (fun a' => ∀ W, (∃ x : Kept w, W = x.at_) → Q .normal a' W) l a) : (Code.region id l.toArray true).wp P Q a w :=
  wp_region_quiet (C := fun W => ∃ x : Kept w, W = x.at_) hm hB ⟨⟨w.drew, (Below.refl _ _).drew⟩, rfl⟩ (by simpa using h)
/-- A callee's contract, met in any such world. -/
theorem kept_call {P : Program} {f : FuncId} {args : Array Value} {w : World} {v : Value} (x : Kept w) (h : Calls P f args x.at_ fun e w' => e = .returned v ∧ Below x.at_.heap.size x.at_ w') :
    Calls P f args x.at_ fun e w'' => e = .returned v ∧ ∃ y : Kept w, w'' = y.at_ :=
  h.mono fun _ w' ⟨he, hb⟩ => ⟨he, ⟨w', x.below.trans (hb.mono x.below.size)⟩, rfl⟩
theorem kept_call_same {P : Program} {f : FuncId} {args : Array Value} {w : World} {v : Value} (x : Kept w) (h : Calls P f args x.at_ fun e w' => e = .returned v ∧ x.at_ = w') :
    Calls P f args x.at_ fun e w'' => e = .returned v ∧ ∃ y : Kept w, w'' = y.at_ :=
  h.mono fun _ w' ⟨he, hb⟩ => ⟨he, x, hb.symm⟩
end Go.Proofs.Ytdnkeplmjimjcaa
/-
  The heap's methods: Len, Less, Swap.
-/
namespace Go.Proofs.Ytdnkeplmjimjcaa
open Go.RowKit

theorem BufO.drew {w : World} {b : Nat} {s : Bf} {a : Int} (hB : BufO w b s a) : BufO w.drew b s a := hB.later ((Below.refl _ _).drew)
section
variable {w w' : World} {base m cap gr i j C : Nat} {h : Nat → Nat} {S : Nat → Bf}
theorem glen_any (w : World) (a : Option Addr) (m cap : Nat) : Calls Try.prog 52 #[.slice a m cap] w fun e w' => e = .returned (.int .i64 m) ∧ w = w' := by
  go_enter Try.func52, Try.ntmps52
  go_wp2
  go_ret
  exact ⟨rfl, rfl⟩
theorem GS.rowcell (hG : GS w base (.slice (some ⟨gr, 0, none⟩) m cap) m h S) (hi : i < m) : w.cell? ⟨gr, i, none⟩ = some (.pointer (some ⟨h i, 0, none⟩)) := by
  have h1 := hG.row.cellAt i (by simp; exact hi)
  rw [h1, ptrs_get h hi]
set_option maxHeartbeats 4000000 in
theorem gless_any (hG : GS w base (.slice (some ⟨gr, 0, none⟩) m cap) m h S) (hi : i < m) (hj : j < m) (hm : m ≤ 4096) :
    Calls Try.prog 88 #[.slice (some ⟨gr, 0, none⟩) m cap, .int .i64 i, .int .i64 j] w fun e w' => e = .returned (.bool (decide ((S (h i)).used < (S (h j)).used))) ∧ Below w.heap.size w w' := by
  have r1 := hG.rowcell hi
  have r2 := hG.rowcell hj
  obtain ⟨-, -, -, -, u1, -⟩ := (hG.buf i hi).cells
  obtain ⟨-, -, -, -, u2, -⟩ := (hG.buf j hj).cells
  have i1 : (0 : Int) ≤ (i : Int) := by omega
  have i2 : (i : Int) < (m : Int) := by omega
  have j1 : (0 : Int) ≤ (j : Int) := by omega
  have j2 : (j : Int) < (m : Int) := by omega
  clear hG
  generalize (S (h i)).used = a at *
  generalize (S (h j)).used = b at *
  generalize h i = hi' at *
  generalize h j = hj' at *
  have k1 : ∀ x : Kept w, x.at_.cell? ⟨gr, i, none⟩ = some (.pointer (some ⟨hi', 0, none⟩)) := fun x => cell_later x.below r1
  have k2 : ∀ x : Kept w, x.at_.cell? ⟨gr, j, none⟩ = some (.pointer (some ⟨hj', 0, none⟩)) := fun x => cell_later x.below r2
  have k3 : ∀ x : Kept w, x.at_.cell? ⟨hi', 68, none⟩ = some (.int .i64 a) := fun x => cell_later x.below u1
  have k4 : ∀ x : Kept w, x.at_.cell? ⟨hj', 68, none⟩ = some (.int .i64 b) := fun x => cell_later x.below u2
  go_enter Try.func88, Try.ntmps88
  go_upto_region 1 with (fail)
  refine wp_region_kept (by kernel_rfl) (by kernel_rfl) ?_
  repeat (go_big_quiet_step (fail))
  refine wpQuiet_nil ?_
  rintro W4 ⟨w4, rfl⟩
  have hb := w4.below
  have HB := Lib.hid hb
  clear hb
  go_wp2_with fail
  go_ret
  exact ⟨rfl, HB.out⟩
theorem GS.rowfrozen (hG : GS w base (.slice (some ⟨gr, 0, none⟩) m cap) m h S) (i : Nat) : w.frozen? ⟨gr, i, none⟩ = false := hG.row.frozenAt i
theorem GS.gr_ne (hG : GS w base (.slice (some ⟨gr, 0, none⟩) m cap) m h S) (hi : i < m) : h i ≠ gr := by
  rcases hG.row.2 with ⟨e, _⟩ | ⟨g, cap', cur, hv, _, hb, _⟩
  · cases e
  · cases hv
    exact (hG.buf i hi).apart (show Blo w gr PB cur from hb) (by decide)
theorem ptrs_sw (h : Nat → Nat) (hi : i < m) (hj : j < m) : ((ptrs h m).set i (.pointer (some ⟨h j, 0, none⟩))).set j (.pointer (some ⟨h i, 0, none⟩)) = ptrs (sw h i j) m := by
  apply List.ext_getElem?
  intro k
  rw [List.getElem?_set, List.getElem?_set]
  simp only [List.length_set, ptrs_len]
  by_cases hk : k < m
  · rw [ptrs_get (sw h i j) hk]
    by_cases e : j = k
    · subst e; rw [if_pos rfl, if_pos hj, sw_r]
    · rw [if_neg e]
      by_cases e2 : i = k
      · subst e2; rw [if_pos rfl, if_pos hi, sw_l]
      · rw [if_neg e2, ptrs_get h hk, sw_ne h (fun q => e2 q.symm) (fun q => e q.symm)]
  · rw [List.getElem?_eq_none (by rw [ptrs_len]; omega), if_neg (by omega), if_neg (by omega), List.getElem?_eq_none (by rw [ptrs_len]; omega)]
set_option maxHeartbeats 4000000 in
theorem gswap_any (hG : GS w base (.slice (some ⟨gr, 0, none⟩) m cap) m h S) (hi : i < m) (hj : j < m) (hm : m ≤ 4096) (hne : i ≠ j) :
    Calls Try.prog 89 #[.slice (some ⟨gr, 0, none⟩) m cap, .int .i64 i, .int .i64 j] w fun e w' => e = .returned (.tuple #[]) ∧ GS w' base (.slice (some ⟨gr, 0, none⟩) m cap) m (sw h i j) S ∧ Out (XG (.slice (some ⟨gr, 0, none⟩) m cap) m h) w w' := by
  have r1 := hG.rowcell hi
  have r2 := hG.rowcell hj
  have f1 := hG.rowfrozen i
  have f2 := hG.rowfrozen j
  have i1 : (0 : Int) ≤ (i : Int) := by omega
  have i2 : (i : Int) < (m : Int) := by omega
  have j1 : (0 : Int) ≤ (j : Int) := by omega
  have j2 : (j : Int) < (m : Int) := by omega
  have HG := Lib.hid hG
  clear hG
  go_enter Try.func89, Try.ntmps89
  go_wp2_with fail
  go_region
  have HF0 : Hid (∀ k, k < m → BufO (((w.setCell ⟨gr, i, none⟩ (.pointer (some ⟨h j, 0, none⟩))).setCell ⟨gr, j, none⟩ (.pointer (some ⟨h i, 0, none⟩))).drew) (h k) (S (h k)) ((k : Nat) : Int)) := fun k hk => (((HG.out.buf k hk).far (p := ⟨gr, i, none⟩) (HG.out.gr_ne hk) _).far (p := ⟨gr, j, none⟩) (HG.out.gr_ne hk) _).drew
  have HR0 : Hid ((((w.setCell ⟨gr, i, none⟩ (.pointer (some ⟨h j, 0, none⟩))).setCell ⟨gr, j, none⟩ (.pointer (some ⟨h i, 0, none⟩))).drew).ownsRow base PB 1 (.slice (some ⟨gr, 0, none⟩) m cap) m (ptrs (sw h i j) m)) := by
    have := ((HG.out.row.stored i (.pointer (some ⟨h j, 0, none⟩))).1.stored j (.pointer (some ⟨h i, 0, none⟩))).1
    rw [ptrs_sw h hi hj] at this
    exact own_later this ((Below.refl _ _).drew)
  have HO0 : Hid (Out (XG (.slice (some ⟨gr, 0, none⟩) m cap) m h) w (((w.setCell ⟨gr, i, none⟩ (.pointer (some ⟨h j, 0, none⟩))).setCell ⟨gr, j, none⟩ (.pointer (some ⟨h i, 0, none⟩))).drew)) := (((Out.refl _ w).put (p := ⟨gr, i, none⟩) (.inl rfl) _).put (p := ⟨gr, j, none⟩) (.inl rfl) _).drawn
  generalize ((w.setCell ⟨gr, i, none⟩ (.pointer (some ⟨h j, 0, none⟩))).setCell ⟨gr, j, none⟩ (.pointer (some ⟨h i, 0, none⟩))).drew = w1 at *
  have hnn : h i ≠ h j := fun e => hne (HG.out.inj hi hj e)
  clear r1 r2 f1 f2
  have r1 : w1.cell? ⟨gr, i, none⟩ = some (.pointer (some ⟨h j, 0, none⟩)) := by rw [HR0.out.cellAt i (by simp; exact hi), ptrs_get _ hi, sw_l]
  have r2 : w1.cell? ⟨gr, j, none⟩ = some (.pointer (some ⟨h i, 0, none⟩)) := by rw [HR0.out.cellAt j (by simp; exact hj), ptrs_get _ hj, sw_r]
  obtain ⟨-, -, -, -, -, u1⟩ := (HF0.out i hi).cells
  obtain ⟨-, -, -, -, -, u2⟩ := (HF0.out j hj).cells
  have f1 := (HF0.out i hi).frozen 69
  have f2 := (HF0.out j hj).frozen 69
  have HE : Hid (GS (((w1.setCell ⟨h j, 69, none⟩ (.int .i64 i)).setCell ⟨h i, 69, none⟩ (.int .i64 j)).drew) base (.slice (some ⟨gr, 0, none⟩) m cap) m (sw h i j) S ∧ Out (XG (.slice (some ⟨gr, 0, none⟩) m cap) m h) w (((w1.setCell ⟨h j, 69, none⟩ (.int .i64 i)).setCell ⟨h i, 69, none⟩ (.int .i64 j)).drew)) := by
    refine ⟨⟨own_later ((own_far (own_far HR0.out (p := ⟨h j, 69, none⟩) ?_ _) (p := ⟨h i, 69, none⟩) ?_ _)) ((Below.refl _ _).drew), fun k hk => ?_⟩, ((HO0.out.put (p := ⟨h j, 69, none⟩) (.inr ⟨j, hj, rfl⟩) _).put (p := ⟨h i, 69, none⟩) (.inr ⟨i, hi, rfl⟩) _).drawn⟩
    · intro e; exact HG.out.gr_ne hj (by simpa [Value.ownBlock] using e)
    · intro e; exact HG.out.gr_ne hi (by simpa [Value.ownBlock] using e)
    · by_cases e : k = i
      · subst e
        rw [sw_l]
        exact (((HF0.out j hj).put_at _).far (p := ⟨h k, 69, none⟩) (fun q => hnn q.symm) _).drew
      · by_cases e2 : k = j
        · subst e2
          rw [sw_r]
          exact (((HF0.out i hi).far (p := ⟨h k, 69, none⟩) hnn _).put_at _).drew
        · rw [sw_ne h e e2]
          exact (((HF0.out k hk).far (p := ⟨h j, 69, none⟩) (fun q => e2 (HG.out.inj hk hj q)) _).far (p := ⟨h i, 69, none⟩) (fun q => e (HG.out.inj hk hi q)) _).drew
  generalize hhi : h i = a at *
  generalize hhj : h j = b at *
  clear HF0 HR0 HO0 HG hhi hhj
  go_wp2_with fail
  go_region
  all_goals (go_wp2_with fail)
  go_end0
  exact ⟨rfl, HE.out⟩
end
end Go.Proofs.Ytdnkeplmjimjcaa
/-
  Rows of elements of any size, told by their cells: append, what is read.
-/
namespace Go.Proofs.Ytdnkeplmjimjcaa
open Go.RowKit

/-- 'append(own, more...)' at elements of any size, told by their cells. -/
theorem wp_append_row {P : Program} {w : World} {ops : Array Oper} {rest : List Oper} {o : Oper} {act : Act} {Q : Exit → Act → World → Prop} (hgd : o.guard = none) (s x : Operand) (t : TypeId)
    (ho : o.op = .call { callee := .builtin .append, args := #[s, x], argTypes := #[t, t] })
    (base : Nat) (e : TypeId) (z : Value) (size bytes : Nat) (ht : P.underlying t = some (.slice e)) (hi : (P.info? e).map (fun i => (i.zero, i.size, i.bytes)) = some (some z, size, bytes)) (hzs : z.cells.size = size) (hsz : 0 < size) (hby : bytes ≤ 1000)
    (v : Value) (n : Nat) (xs : List Value) (hs : act.eval s = v) (hown : w.ownsRow base e size v n xs)
    (ao : Option Addr) (m c : Nat) (ys : List Value) (hx : act.eval x = .slice ao m c) (hl : ys.length = m * size) (hy : ∀ ad, ao = some ad → ∀ j u, ys[j]? = some u → w.cell? (ad.add j) = some u) (h1 : ∀ u ∈ ys, u.oneCell' = true) (hnone : ao = none → m = 0 ∧ c = 0)
    (hroom : n + m ≤ 1000000) (hbase : base ≤ w.heap.size)
    (h : ∀ a' cap' w', w'.ownsRow base e size (.slice a' (n + m) cap') (n + m) (xs ++ ys) → w.grownBy w' v.ownBlock → wpList P ops Q rest (act.put o.dst (.slice a' (n + m) cap')) w') : wpList P ops Q (o :: rest) act w := by
  obtain ⟨i, hi0, hz, hs1, hb1⟩ := info_parts hi
  have fin : ∀ v' w', w'.ownsRow base e size v' (n + m) (xs ++ ys) → w.grownBy w' v.ownBlock → wpList P ops Q rest (act.put o.dst v') w' := by
    intro v' w' h1 h2
    obtain ⟨a', cap', rfl, _⟩ := own_slice h1
    exact h a' cap' w' h1 h2
  cases ao with
  | none =>
    obtain ⟨rfl, rfl⟩ := hnone rfl
    have hys : ys = [] := List.eq_nil_of_length_eq_zero (by rw [hl]; simp)
    subst hys
    refine wpList_append_own_none hgd s x t ho base e i size ht hi0 v n xs hs hown hx ?_
    have := fin v w (by simpa using hown) ⟨rfl, rfl, rfl, Nat.le_refl _, fun _ _ _ => rfl⟩
    exact this
  | some ad =>
    refine wpList_append_own w hgd s x t ho base e i _ size bytes ht hi0 hz hs1 hb1 hzs hsz v n xs hs hown ad m c ys hx hl (hy ad rfl) h1 (by unfold maxLen; omega) ?_ hbase ?_
    · exact Nat.le_trans (Nat.mul_le_mul hroom hby) (by decide)
    · intro v' w' h1 h2 _
      exact fin v' w' h1 h2
/-- What a slice that is read holds, told by its cells. -/
def Rds (w : World) (a : Option Addr) (xs : List Value) : Prop := ∀ j u, xs[j]? = some u → ∃ b o, a = some ⟨b, o, none⟩ ∧ w.cell? ⟨b, o + j, none⟩ = some u
theorem Rds.later {w w' : World} {a : Option Addr} {xs : List Value} (h : Rds w a xs) (hb : Below w.heap.size w w') : Rds w' a xs := fun j u hj => by
  obtain ⟨b, o, ha, hc⟩ := h j u hj
  exact ⟨b, o, ha, cell_later hb hc⟩
theorem Rds.add {w : World} {a : Option Addr} {xs : List Value} (h : Rds w a xs) : ∀ ad, a = some ad → ∀ j u, xs[j]? = some u → w.cell? (ad.add j) = some u := fun ad ha j u hj => by
  obtain ⟨b, o, ha', hc⟩ := h j u hj
  rw [ha] at ha'
  cases ha'
  rw [Addr.add_lit]
  exact hc
theorem Rds.own {w : World} {base : Nat} {e : TypeId} {size : Nat} {a : Option Addr} {n cap : Nat} {xs : List Value} (h : w.ownsRow base e size (.slice a n cap) n xs) : Rds w a xs := fun j u hj => by
  rcases id h.2 with ⟨h1, h0⟩ | ⟨g, c, cur, h1, _⟩
  · have hl := h.1
    rw [h0] at hl
    have : xs = [] := List.eq_nil_of_length_eq_zero (by simpa using hl)
    rw [this] at hj; cases hj
  · cases h1
    have hjl : j < xs.length := by
      rcases Nat.lt_or_ge j xs.length with h | h
      · exact h
      · rw [List.getElem?_eq_none h] at hj; cases hj
    refine ⟨g, 0, rfl, ?_⟩
    rw [Nat.zero_add, h.cellAt j (Nat.lt_of_lt_of_eq hjl h.1), hj]
/-- The same, at a step of a region that draws its order. -/
theorem step_append_row {P : Program} {ops : Array Oper} {Q : Exit → Act → World → Prop} {o : Oper} {a : Act} {w : World} {K : Act → World → Prop} {E : Prop} (hg : o.guard = none) (s x : Operand) (t : TypeId) (ho : o.op = .call { callee := .builtin .append, args := #[s, x], argTypes := #[t, t] })
    (base : Nat) (e : TypeId) (z : Value) (size bytes : Nat) (ht : P.underlying t = some (.slice e)) (hi : (P.info? e).map (fun i => (i.zero, i.size, i.bytes)) = some (some z, size, bytes)) (hzs : z.cells.size = size) (hsz : 0 < size) (hby : bytes ≤ 1000)
    (v : Value) (n : Nat) (xs : List Value) (hs : a.eval s = v) (hown : w.ownsRow base e size v n xs) (ao : Option Addr) (m c : Nat) (ys : List Value) (hx : a.eval x = .slice ao m c) (hl : ys.length = m * size) (hy : ∀ ad, ao = some ad → ∀ j u, ys[j]? = some u → w.cell? (ad.add j) = some u) (h1 : ∀ u ∈ ys, u.oneCell' = true) (hnone : ao = none → m = 0 ∧ c = 0)
    (hroom : n + m ≤ 1000000) (hbase : base ≤ w.heap.size)
    (hk : ∀ v' w', w'.ownsRow base e size v' (n + m) (xs ++ ys) → w.grownBy w' v.ownBlock → (v'.ownBlock = v.ownBlock ∨ v'.ownBlock = some w.heap.size) → K (a.put o.dst v') w') :
    if Region.wanted o (yielded ops a.tmps) = true then Oper.wp P o a w K Q else E := by
  obtain ⟨i, hi0, hz, hs1, hb1⟩ := info_parts hi
  rw [if_pos (by simp [Region.wanted, hg])]
  unfold Oper.wp
  cases ao with
  | none =>
    obtain ⟨rfl, rfl⟩ := hnone rfl
    have hys : ys = [] := List.eq_nil_of_length_eq_zero (by rw [hl]; simp)
    subst hys
    have hrun := run_append_owned_none (P := P) (w := w) base t o.type e i size ht hi0 v n xs hown
    simp [execOp, ho, resolve, invoke, builtin, hs, hx, hrun, Result.andThen]
    exact hk v w (by simpa using hown) ⟨rfl, rfl, rfl, Nat.le_refl _, fun _ _ _ => rfl⟩ (.inl rfl)
  | some ad =>
    obtain ⟨v', w', hrun, h2, h3, _, h5⟩ := run_append_own_at (P := P) w base t o.type e i z size bytes ht hi0 hz hs1 hb1 hzs hsz v n xs hown ad m c ys hl (hy ad rfl) h1 (by unfold maxLen; omega) (Nat.le_trans (Nat.mul_le_mul hroom hby) (by decide)) hbase
    simp [execOp, ho, resolve, invoke, builtin, hs, hx, hrun, Result.andThen]
    exact hk v' w' h2 h3 h5
end Go.Proofs.Ytdnkeplmjimjcaa
