/-
  U8 · Mem · Out · Kit · DkMem · DkWalks · Build · DkWrite: these texts in one.
-/
import Derived.Test.YtlkgaefabahkoaaDoorRows
import Derived.WalkKit
import Derived.WalkSpells
import Derived.WalkLawsBesides
import Derived.IntWalk
import Derived.Lib.Hide
import Derived.Below
import Derived.OwnWalk
import Derived.Deep.AppendLies
import Derived.Deep.Draws
import Derived.Laws.Rows
import Derived.Laws.OwnMore
import Derived.Deep.MidRow
import Derived.Laws.BitsAllLaws
import Derived.Laws.BytesArg
import Derived.Lib.BufferRead
import Derived.Lib.SmallJoins
import Derived.Laws.AppendOwnNone
import Derived.Lib.SlBytesConst
import Derived.OpenShut
import Derived.WalkSmall
import Derived.RegionTactic
import Derived.ChangeAlike
import Derived.Laws.Tables
import Derived.Great.BuildSlice
import Derived.Deep.RegionLaw
import Derived.Deep.RegionHeld3
import Derived.Deep.DeepCutAuto
import Derived.Laws.Cover3
import Derived.Outline
/-
  A name for the type of bytes.
-/
namespace Go.Proofs.YtlkgaefabahkoaaDoor

abbrev U8 := 5
end Go.Proofs.YtlkgaefabahkoaaDoor
/-
  Small laws of memory over any program: a block that is known whole; a list of integers that is read; one integer put behind a row of the call's own.
-/
namespace Go.Proofs.YtlkgaefabahkoaaDoor
open Go.RowKit

/-- Block g holds just these cells of type t; all may be written. -/
def Blo (w : World) (g : Nat) (t : TypeId) (cs : Array Value) : Prop := w.heap[g]? = some (.cells cs t (0, 0))
section
variable {w w' : World} {g : Nat} {t : TypeId} {cs : Array Value}
theorem Blo.lt (h : Blo w g t cs) : g < w.heap.size := by
  rcases Nat.lt_or_ge g w.heap.size with h' | h'
  · exact h'
  · unfold Blo at h; rw [Array.getElem?_eq_none h'] at h; cases h
theorem Blo.cell (h : Blo w g t cs) (i : Nat) : w.cell? ⟨g, i, none⟩ = cs[i]? := cell_of_row w g i cs t (0, 0) h
theorem Blo.frozen (h : Blo w g t cs) (i : Nat) : w.frozen? ⟨g, i, none⟩ = false := by
  unfold Blo at h
  simp [World.frozen?, h]
theorem blo_laid (w : World) (t : TypeId) (cs : Array Value) : Blo (w.alloc (.cells cs t)) w.heap.size t cs := heap_alloc_new w _
theorem Blo.drew (h : Blo w g t cs) : Blo w.drew g t cs := h
theorem Blo.alloc (h : Blo w g t cs) (o : Obj) : Blo (w.alloc o) g t cs := (Below.heap_alloc w o g h.lt).trans h
theorem Blo.put (h : Blo w g t cs) (i : Nat) (u : Value) : Blo (w.setCell ⟨g, i, none⟩ u) g t (cs.setIfInBounds i u) := by
  unfold Blo at h ⊢
  simp [World.setCell, Array.getElem?_modify, h]
theorem Blo.far (h : Blo w g t cs) {p : Addr} (hp : g ≠ p.block) (u : Value) : Blo (w.setCell p u) g t cs := (Below.heap_setCell w p u g hp).trans h
theorem Blo.below {B : Nat} (h : Blo w g t cs) (hb : Below B w w') (hg : g < B) : Blo w' g t cs := (hb.block g hg).trans h
theorem Blo.later (h : Blo w g t cs) (hb : Below w.heap.size w w') : Blo w' g t cs := h.below hb h.lt
theorem Blo.grown {row : Option Nat} (h : Blo w g t cs) (hb : w.grownBy w' row) (hg : some g ≠ row) : Blo w' g t cs := (hb.block g h.lt hg).trans h
theorem Blo.apart {g' : Nat} {t' : TypeId} {cs' : Array Value} (h : Blo w g t cs) (h' : Blo w g' t' cs') (hne : t ≠ t') : g ≠ g' := by
  rintro rfl
  unfold Blo at h h'
  rw [h] at h'
  injection h' with h'
  injection h' with _ ht
  exact hne ht
theorem Blo.row_apart {base : Nat} {e : TypeId} {size n : Nat} {v : Value} {xs : List Value} (hg : Blo w g t cs) (h : w.ownsRow base e size v n xs) (hne : e ≠ t) : some g ≠ v.ownBlock := by
  rcases h.2 with ⟨rfl, _⟩ | ⟨g', cap, cur, rfl, _, hh, _⟩
  · simp [Value.ownBlock]
  · intro he
    have e2 : g = g' := by simpa [Value.ownBlock] using he
    subst e2
    exact Blo.apart (t := e) hh hg hne rfl
end

/-- What a slice of integers that is read holds. -/
def Ints (w : World) (a : Option Addr) (l : List Int) : Prop := l ≠ [] → ∃ b o, a = some ⟨b, o, none⟩ ∧ ∀ i, i < l.length → w.cell? ⟨b, o + i, none⟩ = some (.int .i64 (l.getD i 0))
theorem Ints.nil (w : World) (a : Option Addr) : Ints w a [] := fun h => absurd rfl h
theorem Ints.below {w w' : World} {a : Option Addr} {l : List Int} (h : Ints w a l) (hb : Below w.heap.size w w') : Ints w' a l := fun hl => by
  obtain ⟨b, o, ha, hc⟩ := h hl
  exact ⟨b, o, ha, fun i hi => cell_later hb (hc i hi)⟩
theorem Ints.drewN {w : World} {a : Option Addr} {l : List Int} (h : Ints w a l) (q : Nat) : Ints (w.drewN q) a l := fun hl => by
  obtain ⟨b, o, ha, hc⟩ := h hl
  exact ⟨b, o, ha, fun i hi => by rw [World.cell?_drewN]; exact hc i hi⟩
def cellsI (l : List Int) : List Value := l.map (Value.int .i64)
theorem cellsI_length (l : List Int) : (cellsI l).length = l.length := by simp [cellsI]
theorem cellsI_get (l : List Int) (i : Nat) (hi : i < l.length) : (cellsI l)[i]? = some (.int .i64 (l.getD i 0)) := by
  simp [cellsI, List.getD_eq_getElem?_getD, List.getElem?_eq_getElem hi]
theorem cellsI_append (l m : List Int) : cellsI l ++ cellsI m = cellsI (l ++ m) := by simp [cellsI]
theorem Ints.laid (w : World) (l : List Int) (cs : Array Value) (t : TypeId) (h : cs.toList = cellsI l) : Ints (w.alloc (.cells cs t)) (some ⟨w.heap.size, 0, none⟩) l := fun _ =>
  ⟨w.heap.size, 0, rfl, fun i hi => by rw [Nat.zero_add, (blo_laid w t cs).cell i, ← Array.getElem?_toList, h, cellsI_get l i hi]⟩
theorem Ints.own {w : World} {base : Nat} {e : TypeId} {a : Option Addr} {n cap : Nat} {l : List Int} (h : w.ownsRow base e 1 (.slice a n cap) n (cellsI l)) : Ints w a l := fun hl => by
  have hlen : n = l.length := by have := h.1; rw [cellsI_length, Nat.mul_one] at this; exact this.symm
  rcases id h.2 with ⟨h1, h0⟩ | ⟨g, c, cur, h1, _⟩
  · exact absurd (List.eq_nil_of_length_eq_zero (by omega)) hl
  · cases h1
    exact ⟨g, 0, rfl, fun i hi => by rw [Nat.zero_add, h.cellAt i (by omega), cellsI_get l i hi]⟩
theorem own_slice {w : World} {base : Nat} {e : TypeId} {size : Nat} {v : Value} {n : Nat} {xs : List Value} (h : w.ownsRow base e size v n xs) : ∃ a cap, v = .slice a n cap ∧ n ≤ cap := by
  rcases h.2 with ⟨rfl, rfl⟩ | ⟨g, cap, cur, rfl, _, _, hc, _⟩
  · exact ⟨none, 0, rfl, Nat.le_refl _⟩
  · exact ⟨_, cap, rfl, hc⟩
theorem grown_of_below {w w' : World} (h : Below w.heap.size w w') (row : Option Nat) : w.grownBy w' row := ⟨h.os, h.tape, h.output, h.size, fun i hi _ => h.block i hi⟩
theorem own_later {w w' : World} {base : Nat} {e : TypeId} {size : Nat} {v : Value} {n : Nat} {xs : List Value} (h : w.ownsRow base e size v n xs) (hb : Below w.heap.size w w') : w'.ownsRow base e size v n xs :=
  h.kept (row := none) (grown_of_below hb none) (by cases hv : v.ownBlock <;> simp)
theorem grown_put (w : World) (p : Addr) (u : Value) : w.grownBy (w.setCell p u) (some p.block) :=
  ⟨rfl, rfl, rfl, by simp [World.setCell], fun i _ hne => Below.heap_setCell w p u i (fun e => hne (by rw [e]))⟩
theorem own_far {w : World} {base : Nat} {e : TypeId} {size : Nat} {v : Value} {n : Nat} {xs : List Value} (h : w.ownsRow base e size v n xs) {p : Addr} (hp : some p.block ≠ v.ownBlock) (u : Value) : (w.setCell p u).ownsRow base e size v n xs :=
  h.kept (grown_put w p u) (.inr (Ne.symm hp))
/-- 'append(own, x)'. -/
theorem wp_append_int {P : Program} {w : World} {ops : Array Oper} {rest : List Oper} {o : Oper} {act : Act} {Q : Exit → Act → World → Prop} (hgd : o.guard = none) (s x : Operand) (t : TypeId)
    (ho : o.op = .call { callee := .builtin .append, args := #[s, x], argTypes := #[t, t] })
    (base : Nat) (e : TypeId) (ht : P.underlying t = some (.slice e)) (hi : (P.info? e).map (fun i => (i.zero, i.size, i.bytes)) = some (some (.int .i64 0), 1, 8))
    (v : Value) (n : Nat) (xs : List Int) (hs : act.eval s = v) (hown : w.ownsRow base e 1 v n (cellsI xs))
    (b : Nat) (y : Int) (hx : act.eval x = .slice (some ⟨b, 0, none⟩) 1 1) (hc : w.cell? ⟨b, 0, none⟩ = some (.int .i64 y)) (hroom : n < 1000000000) (hbase : base ≤ w.heap.size)
    (h : ∀ g cap w', w'.ownsRow base e 1 (.slice (some ⟨g, 0, none⟩) (n + 1) cap) (n + 1) (cellsI (xs ++ [y])) → w.grownBy w' v.ownBlock → (v.ownBlock = some g ∨ g = w.heap.size) → g < w'.heap.size →
      wpList P ops Q rest (act.put o.dst (.slice (some ⟨g, 0, none⟩) (n + 1) cap)) w') : wpList P ops Q (o :: rest) act w := by
  obtain ⟨i, hi0, hz, hs1, hb1⟩ := info_parts hi
  refine wpList_append_lies w hgd s x t ho base e i (.int .i64 0) 1 8 ht hi0 hz hs1 hb1 rfl (by decide) v n (cellsI xs) hs hown ⟨b, 0, none⟩ 1 1 [.int .i64 y] hx (by simp) ?_ (by simp [Value.oneCell']) (by decide) (by unfold maxLen; omega) (by omega) hbase _ rfl ?_
  · intro j u hj
    match j, hj with
    | 0, hj =>
      simp at hj
      subst hj
      have e : (⟨b, 0, none⟩ : Addr).add 0 = ⟨b, 0, none⟩ := by simp [Addr.add]
      rw [e]; exact hc
    | j + 1, hj => simp at hj
  · intro g cap w' h1 h2 h3 h4
    rw [show cellsI xs ++ [Value.int .i64 y] = cellsI (xs ++ [y]) from cellsI_append xs [y]] at h1
    exact h g cap w' h1 h2 h3 h4
end Go.Proofs.YtlkgaefabahkoaaDoor
/-
  A frame: all blocks but those of a set stand as they stood. Cells of a block set one by one.
-/
namespace Go.Proofs.YtlkgaefabahkoaaDoor
open Go.RowKit

structure Out (X : Nat → Prop) (w w' : World) : Prop where
  os : w'.os = w.os
  tape : w'.tape = w.tape
  output : w'.output = w.output
  size : w.heap.size ≤ w'.heap.size
  block : ∀ i, i < w.heap.size → ¬ X i → w'.heap[i]? = w.heap[i]?
section
variable {X Y : Nat → Prop} {w w' w'' : World} {g : Nat} {t : TypeId} {cs : Array Value}
theorem Out.refl (X : Nat → Prop) (w : World) : Out X w w := ⟨rfl, rfl, rfl, Nat.le_refl _, fun _ _ _ => rfl⟩
theorem Out.trans (h : Out X w w') (k : Out Y w' w'') (hs : ∀ i, i < w.heap.size → Y i → X i) : Out X w w'' :=
  ⟨k.os.trans h.os, k.tape.trans h.tape, k.output.trans h.output, Nat.le_trans h.size k.size, fun i hi hx =>
    (k.block i (Nat.lt_of_lt_of_le hi h.size) (fun hy => hx (hs i hi hy))).trans (h.block i hi hx)⟩
theorem Out.mono (h : Out X w w') (hs : ∀ i, i < w.heap.size → X i → Y i) : Out Y w w' :=
  ⟨h.os, h.tape, h.output, h.size, fun i hi hy => h.block i hi (fun hx => hy (hs i hi hx))⟩
theorem Out.of_below (h : Below w.heap.size w w') : Out X w w' := ⟨h.os, h.tape, h.output, h.size, fun i hi _ => h.block i hi⟩
theorem Out.below {C : Nat} (h : Out X w w') (hC : C ≤ w.heap.size) (hX : ∀ i, i < w.heap.size → X i → C ≤ i) : Below C w w' :=
  ⟨h.os, h.tape, h.output, h.size, fun i hi => h.block i (by omega) (fun hx => by have := hX i (by omega) hx; omega)⟩
theorem Out.of_grown {row : Option Nat} (h : w.grownBy w' row) (hr : ∀ g, row = some g → X g) : Out X w w' :=
  ⟨h.os, h.tape, h.output, h.size, fun i hi hx => h.block i hi (fun e => hx (hr i e.symm))⟩
theorem Out.blo (h : Out X w w') (hg : Blo w g t cs) (hx : ¬ X g) : Blo w' g t cs := (h.block g hg.lt hx).trans hg
theorem Out.own {base : Nat} {e : TypeId} {size : Nat} {v : Value} {n : Nat} {xs : List Value} (h : Out X w w') (hv : w.ownsRow base e size v n xs) (hx : ∀ g, v.ownBlock = some g → ¬ X g) : w'.ownsRow base e size v n xs := by
  refine ⟨hv.1, ?_⟩
  rcases hv.2 with hn | ⟨g, cap, cur, rfl, hb, hgg, rest⟩
  · exact .inl hn
  · exact .inr ⟨g, cap, cur, rfl, hb, h.blo hgg (hx g rfl), rest⟩
theorem Out.cell {a : Addr} {v : Value} (h : Out X w w') (hc : w.cell? a = some v) (hx : ¬ X a.block) : w'.cell? a = some v :=
  (World.cell?_of_block (h.block a.block (World.block_lt_of_cell? w a hc) hx)).trans hc
theorem out_put (w : World) (p : Addr) (u : Value) (hp : X p.block) : Out X w (w.setCell p u) :=
  Out.of_grown (grown_put w p u) (fun g e => by cases e; exact hp)
theorem out_cells : ∀ (vs : List Value) (o : Nat) (w : World) (_ : X g), Out X w (w.setCells g o vs)
  | [], _, w, _ => Out.refl _ w
  | v :: r, o, w, h => (out_put w ⟨g, o, none⟩ v h).trans (out_cells r (o + 1) _ h) (fun _ _ hx => hx)
theorem out_row (w : World) (g : Nat) (cells : Array Value) (hp : X g) : Out X w (w.setRow g cells) := by
  refine ⟨rfl, rfl, rfl, by simp [World.setRow], fun i hi hx => ?_⟩
  simp only [World.setRow]
  rw [Array.getElem?_modify, if_neg (fun e => hx (by rw [← e]; exact hp))]
theorem blo_cells : ∀ (vs : List Value) (o : Nat) (w : World) (cs : Array Value), Blo w g t cs → ∃ cs', Blo (w.setCells g o vs) g t cs' ∧ cs'.size = cs.size ∧ ∀ j, cs'[j]? = if o ≤ j ∧ j < o + vs.length ∧ j < cs.size then vs[j - o]? else cs[j]? := by
  intro vs
  induction vs with
  | nil => intro o w cs h; exact ⟨cs, h, rfl, fun j => by rw [if_neg]; simp; omega⟩
  | cons v vs ih =>
    intro o w cs h
    obtain ⟨cs', h1, h2, h3⟩ := ih (o + 1) (w.setCell ⟨g, o, none⟩ v) (cs.setIfInBounds o v) (h.put o v)
    refine ⟨cs', h1, by simpa using h2, fun j => ?_⟩
    rw [h3 j, Array.size_setIfInBounds, List.length_cons]
    by_cases c1 : o + 1 ≤ j ∧ j < o + 1 + vs.length ∧ j < cs.size
    · rw [if_pos c1, if_pos (by omega), show j - o = (j - (o + 1)) + 1 by omega, List.getElem?_cons_succ]
    · rw [if_neg c1, Array.getElem?_setIfInBounds]
      by_cases e : o = j
      · subst e
        rw [if_pos rfl]
        by_cases hs : o < cs.size
        · rw [if_pos hs, if_pos (by omega), Nat.sub_self, List.getElem?_cons_zero]
        · rw [if_neg hs, if_neg (by omega), Array.getElem?_eq_none (by omega)]
      · rw [if_neg e, if_neg (by omega)]
theorem blo_row (h : Blo w g t cs) (cells : Array Value) : Blo (w.setRow g cells) g t cells := by
  unfold Blo at h ⊢
  simp [World.setRow, Array.getElem?_modify, h]
end
/-- 'copy' of elements of whatever size. -/
theorem run_copy_many {P : Program} (w : World) (dT sT ty elem : TypeId) (sz b o dLen dCap : Nat) (a : Addr) (sLen sCap : Nat) (cs : List Value)
    (hu : P.underlying dT = some (.slice elem)) (hs : (P.info? elem).map (·.size) = some sz) (hn : cs.length = Nat.min sLen dLen * sz)
    (hsrc : ∀ j v, cs[j]? = some v → w.cell? (a.add j) = some v) (hc : ∀ j, j < cs.length → (w.cell? ⟨b, o + j, none⟩).isSome = true) (hf : ∀ j, j < cs.length → w.frozen? ⟨b, o + j, none⟩ = false) (h1 : ∀ v ∈ cs, v.oneCell' = true) :
    (Builtin.copy_ #[dT, sT] ty #[.slice (some ⟨b, o, none⟩) dLen dCap, .slice (some a) sLen sCap]).run P w = .ok (goInt (Nat.min sLen dLen)) (w.setCells b o cs) := by
  have hl := run_loadCells_list (P := P) w a cs hsrc
  have hst := run_storeCells_cells (P := P) b o cs 0 w (by simpa using hc) (by simpa using hf) h1
  cases hq : P.info? elem with
  | none => simp [hq] at hs
  | some i =>
    have hi : i.size = sz := by simpa [hq] using hs
    simp [Builtin.copy_, run_underlying hu, Builtin.lenOf, Builtin.firstCells, sizeOf, typeInfo, hq, hi, ← hn, hl, hst]
theorem wpList_copy_many {P : Program} {w : World} {ops : Array Oper} {rest : List Oper} {o : Oper} {a : Act} {Q : Exit → Act → World → Prop} (hgd : o.guard = none) (d s : Operand) (dT sT : TypeId)
    (ho : o.op = .call { callee := .builtin .copy, args := #[d, s], argTypes := #[dT, sT] }) (elem : TypeId) (sz : Nat) (hu : P.underlying dT = some (.slice elem)) (hsz : (P.info? elem).map (·.size) = some sz)
    (g off dLen dCap : Nat) (ad : Addr) (sLen sCap : Nat) (hd : a.eval d = .slice (some ⟨g, off, none⟩) dLen dCap) (hs : a.eval s = .slice (some ad) sLen sCap) (cs : List Value) (hn : cs.length = Nat.min sLen dLen * sz)
    (hsrc : ∀ j v, cs[j]? = some v → w.cell? (ad.add j) = some v) (ht : w.there g off cs.length) (h1 : ∀ v ∈ cs, v.oneCell' = true)
    (h : wpList P ops Q rest (a.put o.dst (goInt (Nat.min sLen dLen))) (w.setCells g off cs)) : wpList P ops Q (o :: rest) a w := by
  refine wpList_plain hgd fun K hK => ?_
  have hrun := run_copy_many (P := P) w dT sT o.type elem sz g off dLen dCap ad sLen sCap cs hu hsz hn hsrc (fun j hj => (ht j hj).1) (fun j hj => (ht j hj).2) h1
  unfold Oper.wp
  simp [execOp, ho, resolve, invoke, builtin, hd, hs, hrun, Result.andThen]
  exact hK _ _ h
theorem step_copy_many {P : Program} {w : World} {ops : Array Oper} {o : Oper} {a : Act} {K : Act → World → Prop} {Q : Exit → Act → World → Prop} {E : Prop} (hgd : o.guard = none) (d s : Operand) (dT sT : TypeId)
    (ho : o.op = .call { callee := .builtin .copy, args := #[d, s], argTypes := #[dT, sT] }) (elem : TypeId) (sz : Nat) (hu : P.underlying dT = some (.slice elem)) (hsz : (P.info? elem).map (·.size) = some sz)
    (g off dLen dCap : Nat) (ad : Addr) (sLen sCap : Nat) (hd : a.eval d = .slice (some ⟨g, off, none⟩) dLen dCap) (hs : a.eval s = .slice (some ad) sLen sCap) (cs : List Value) (hn : cs.length = Nat.min sLen dLen * sz)
    (hsrc : ∀ j v, cs[j]? = some v → w.cell? (ad.add j) = some v) (ht : w.there g off cs.length) (h1 : ∀ v ∈ cs, v.oneCell' = true)
    (h : K (a.put o.dst (goInt (Nat.min sLen dLen))) (w.setCells g off cs)) : if Region.wanted o (yielded ops a.tmps) = true then Oper.wp P o a w K Q else E := by
  rw [if_pos (by simp [Region.wanted, hgd])]
  have hrun := run_copy_many (P := P) w dT sT o.type elem sz g off dLen dCap ad sLen sCap cs hu hsz hn hsrc (fun j hj => (ht j hj).1) (fun j hj => (ht j hj).2) h1
  unfold Oper.wp
  simp [execOp, ho, resolve, invoke, builtin, hd, hs, hrun, Result.andThen]
  exact h
theorem range_src {w : World} {b o : Nat} {cs : List Value} (h : w.rangeAt b o cs) : ∀ j v, cs[j]? = some v → w.cell? ((⟨b, o, none⟩ : Addr).add j) = some v := fun j v hv => by
  rw [Addr.add_mid]; exact h j v hv
/-- Steps of a region that draws its order. -/
theorem step_load_mid {P : Program} {ops : Array Oper} {o : Oper} {a : Act} {w : World} {K : Act → World → Prop} {Q : Exit → Act → World → Prop} {E : Prop} (hg : o.guard = none) (ty : TypeId) (x : Operand) (ho : o.op = .load ty x)
    (b off : Nat) (hx : a.eval x = .pointer (some ⟨b, off, none⟩)) (cs : List Value) (d : TypeDesc) (hc : w.rangeAt b off cs)
    (hu : P.underlying ty = some d) (hd : d.isRow = true) (hi : (P.info? ty).map (·.size) = some cs.length)
    (h : K (a.put o.dst (.agg cs.toArray)) w) : if Region.wanted o (yielded ops a.tmps) = true then Oper.wp P o a w K Q else E := by
  rw [if_pos (by simp [Region.wanted, hg])]
  exact wp_load_mid ty x ho b off hx cs d hc hu hd hi h
theorem step_store_mid {P : Program} {ops : Array Oper} {o : Oper} {a : Act} {w : World} {K : Act → World → Prop} {Q : Exit → Act → World → Prop} {E : Prop} (hg : o.guard = none) (ty : TypeId) (x y : Operand) (ho : o.op = .store ty x y)
    (b off : Nat) (cells : List Value) (hx : a.eval x = .pointer (some ⟨b, off, none⟩)) (hy : a.eval y = .agg cells.toArray)
    (ht : w.there b off cells.length) (hi : (P.info? ty).map (·.size) = some cells.length) (h1 : ∀ v ∈ cells, v.oneCell' = true)
    (h : K (a.put o.dst undef) (w.setCells b off cells)) : if Region.wanted o (yielded ops a.tmps) = true then Oper.wp P o a w K Q else E := by
  rw [if_pos (by simp [Region.wanted, hg])]
  exact wp_store_mid ty x y ho b off cells.toArray hx hy (by simpa using ht) (by simpa using hi) (all_oneCell_toArray h1) (by simpa using h)
end Go.Proofs.YtlkgaefabahkoaaDoor
/-
  Small laws of walks over any program: a slice of bytes that is read, told by a list of numbers; its text; bytes put behind what the call owns.
-/
namespace Go.Proofs.YtlkgaefabahkoaaDoor
open Go.RowKit

/-- What a slice of bytes that is read holds: bytes; and where there are any, cells. -/
def Bytes (w : World) (a : Option Addr) (l : List Nat) : Prop :=
  (∀ x ∈ l, x < 256) ∧ l.length ≤ 9223372036854775807 ∧ (l ≠ [] → ∃ b o, a = some ⟨b, o, none⟩ ∧ ∀ i, i < l.length → w.cell? ⟨b, o + i, none⟩ = some (.int .u8 (l.getD i 0 : Nat)))
theorem getD_byte {l : List Nat} (h : ∀ x ∈ l, x < 256) (k : Nat) : l.getD k 0 < 256 := by
  rw [List.getD_eq_getElem?_getD]
  by_cases hk : k < l.length
  · rw [List.getElem?_eq_getElem hk]; exact h _ (List.getElem_mem hk)
  · rw [List.getElem?_eq_none (by omega)]; decide
theorem Bytes.none (w : World) (a : Option Addr) : Bytes w a [] := ⟨(fun _ h => by cases h), by decide, fun h => absurd rfl h⟩
theorem Bytes.below {w w' : World} {a : Option Addr} {l : List Nat} (h : Bytes w a l) (hb : Below w.heap.size w w') : Bytes w' a l :=
  ⟨h.1, h.2.1, fun hl => by
    obtain ⟨b, o, ha, hc⟩ := h.2.2 hl
    exact ⟨b, o, ha, fun i hi => cell_later hb (hc i hi)⟩⟩
/-- A row of bytes that was just laid. -/
theorem Bytes.laid (w : World) (l : List Nat) (C : Array Value) (t : TypeId) (fr : Nat × Nat) (h1 : ∀ x ∈ l, x < 256) (h2 : l.length ≤ 9223372036854775807)
    (hC : ∀ i, i < l.length → C[i]? = some (.int .u8 (l.getD i 0 : Nat))) : Bytes (w.alloc (.cells C t fr)) (some ⟨w.heap.size, 0, Option.none⟩) l :=
  ⟨h1, h2, fun _ => ⟨w.heap.size, 0, rfl, fun i hi => by rw [World.cell?_alloc_mark, Nat.zero_add, hC i hi]⟩⟩

/-- The text of bytes. -/
def strOf (l : List Nat) : ByteArray := strOfNums (l.map fun (x : Nat) => (x : Int))
theorem strOf_toList (l : List Nat) : (strOf l).data.toList = l.map UInt8.ofNat := by
  unfold strOf strOfNums
  simp [List.map_map, Function.comp_def]
theorem strOf_inj {l m : List Nat} (hl : ∀ x ∈ l, x < 256) (hm : ∀ x ∈ m, x < 256) (h : strOf l = strOf m) : l = m := by
  have e : l.map UInt8.ofNat = m.map UInt8.ofNat := by rw [← strOf_toList, ← strOf_toList, h]
  have e2 : ∀ k : List Nat, (∀ x ∈ k, x < 256) → (k.map UInt8.ofNat).map UInt8.toNat = k := by
    intro k hk
    rw [List.map_map]
    conv => rhs; rw [← List.map_id k]
    apply List.map_congr_left
    intro x hx
    simp only [Function.comp_apply, id_eq, UInt8.toNat_ofNat']
    exact Nat.mod_eq_of_lt (hk x hx)
  rw [← e2 l hl, ← e2 m hm, e]

theorem run_str {P : Program} (w : World) (T S e : TypeId) (hs : P.underlying T = some (.slice e)) (he : P.underlying e = some (.int .u8)) (hd : P.underlying S = some .string)
    (l : List Nat) (a : Option Addr) (n cap : Nat) (hn : n = l.length) (h : Bytes w a l) : (convert T S (.slice a n cap)).run P w = .ok (.string (strOf l)) w := by
  subst hn
  by_cases hl : l = []
  · subst hl
    have e0 : strOf [] = ⟨#[]⟩ := rfl
    rw [e0]
    cases a with
    | none => exact Lib.run_convert_nil_bytes w T S e cap hs he hd
    | some x =>
      rw [run_convert_bytes_string w T S e (some x) _ cap hs he hd, run_bytesToString w x _ cap [] rfl]
      rfl
  · obtain ⟨b, o, rfl, hc⟩ := h.2.2 hl
    exact run_convert_bytes_arg w T e hs he b o l.length cap (l.map fun (x : Nat) => (x : Int)) (by simp) (fun i hi => by
      rw [hc i hi]
      simp [List.getD_eq_getElem?_getD, List.getElem?_map, List.getElem?_eq_getElem hi]) S hd

/-- The cells of bytes. -/
def cellsB (l : List Nat) : List Value := l.map fun (x : Nat) => Value.int .u8 (x : Int)
theorem cellsB_length (l : List Nat) : (cellsB l).length = l.length := by simp [cellsB]
theorem cellsB_get (l : List Nat) (i : Nat) (hi : i < l.length) : (cellsB l)[i]? = some (.int .u8 (l.getD i 0 : Nat)) := by
  simp [cellsB, List.getD_eq_getElem?_getD, List.getElem?_eq_getElem hi]
theorem cellsB_append (l m : List Nat) : cellsB l ++ cellsB m = cellsB (l ++ m) := by simp [cellsB]
theorem cellsB_inj {l m : List Nat} (h : cellsB l = cellsB m) : l = m := by
  have := congrArg (List.map fun v => match v with | Value.int _ n => n.toNat | _ => 0) h
  simpa [cellsB, List.map_map, Function.comp_def] using this

/-- What the call owns, read as bytes. -/
theorem Bytes.own {w : World} {base : Nat} {e : TypeId} {v : Value} {n : Nat} {l : List Nat} (h : w.ownsRow base e 1 v n (cellsB l)) (h1 : ∀ x ∈ l, x < 256) :
    ∃ a cap, v = .slice a n cap ∧ n = l.length ∧ Bytes w a l ∧ (a = Option.none → l = [] ∧ cap = 0) := by
  have hlen : n = l.length := by have := h.1; rw [cellsB_length, Nat.mul_one] at this; exact this.symm
  obtain ⟨_, ⟨rfl, h0⟩ | ⟨g, cap, cur, rfl, hg, hh, hc1, hc2, hs, ht⟩⟩ := id h
  · have : l = [] := List.eq_nil_of_length_eq_zero (by omega)
    subst this
    exact ⟨Option.none, 0, by rw [h0], hlen, Bytes.none _ _, fun _ => ⟨rfl, rfl⟩⟩
  · refine ⟨some ⟨g, 0, Option.none⟩, cap, rfl, hlen, ⟨h1, by unfold maxLen at hc2; omega, fun _ => ⟨g, 0, rfl, fun i hi => ?_⟩⟩, fun h => by cases h⟩
    rw [Nat.zero_add, h.cellAt i (by omega), cellsB_get l i hi]

/-- 'append(own, bytes...)'. -/
theorem wp_append_bytes {P : Program} {w : World} {ops : Array Oper} {rest : List Oper} {o : Oper} {act : Act} {Q : Exit → Act → World → Prop} (hgd : o.guard = none) (s x : Operand) (t : TypeId)
    (ho : o.op = .call { callee := .builtin .append, args := #[s, x], argTypes := #[t, t] })
    (base : Nat) (e : TypeId) (ht : P.underlying t = some (.slice e)) (hi : (P.info? e).map (fun i => (i.zero, i.size, i.bytes)) = some (some (.int .u8 0), 1, 1))
    (v : Value) (n : Nat) (xs : List Nat) (hs : act.eval s = v) (hown : w.ownsRow base e 1 v n (cellsB xs)) (hxs : ∀ y ∈ xs, y < 256)
    (a : Option Addr) (m cap : Nat) (l : List Nat) (hx : act.eval x = .slice a m cap) (hm : m = l.length) (hl : Bytes w a l) (ha : a = none → l = [] ∧ cap = 0)
    (hroom : n + m ≤ 140737488355328) (hbase : base ≤ w.heap.size)
    (h : ∀ a' cap' w', w'.ownsRow base e 1 (.slice a' (n + m) cap') (n + m) (cellsB (xs ++ l)) → w.grownBy w' v.ownBlock → Bytes w' a' (xs ++ l) → n + m = (xs ++ l).length →
      wpList P ops Q rest (act.put o.dst (.slice a' (n + m) cap')) w') : wpList P ops Q (o :: rest) act w := by
  obtain ⟨i, hi0, hz, hs1, hb1⟩ := info_parts hi
  subst hm
  have hbytes : ∀ y ∈ xs ++ l, y < 256 := fun y hy => by
    rcases List.mem_append.1 hy with h | h
    · exact hxs y h
    · exact hl.1 y h
  have fin : ∀ v' w', w'.ownsRow base e 1 v' (n + l.length) (cellsB (xs ++ l)) → w.grownBy w' v.ownBlock → wpList P ops Q rest (act.put o.dst v') w' := by
    intro v' w' h1 h2
    obtain ⟨a', cap', rfl, hn, hB, _⟩ := Bytes.own h1 hbytes
    exact h a' cap' w' h1 h2 hB hn
  cases a with
  | none =>
    obtain ⟨rfl, rfl⟩ := ha rfl
    refine wpList_append_own_none hgd s x t ho base e i 1 ht hi0 v n (cellsB xs) hs hown hx ?_
    have := fin v w (by simpa using hown) ⟨rfl, rfl, rfl, Nat.le_refl _, fun _ _ _ => rfl⟩
    exact this
  | some ad =>
    refine wpList_append_own w hgd s x t ho base e i (.int .u8 0) 1 1 ht hi0 hz hs1 hb1 rfl (by decide) v n (cellsB xs) hs hown ad l.length cap (cellsB l) hx (by rw [cellsB_length, Nat.mul_one]) ?_ ?_ (by unfold maxLen; omega) (by omega) hbase ?_
    · intro j u hj
      have hjl : j < l.length := by
        rcases Nat.lt_or_ge j l.length with h | h
        · exact h
        · rw [List.getElem?_eq_none (by rw [cellsB_length]; exact h)] at hj; cases hj
      have hne : l ≠ [] := fun h => by subst h; simp at hjl
      obtain ⟨b, off, he, hc⟩ := hl.2.2 hne
      cases he
      rw [cellsB_get l j hjl] at hj
      cases hj
      rw [Addr.add_lit]; exact hc j hjl
    · intro u hu
      simp only [cellsB, List.mem_map] at hu
      obtain ⟨_, _, rfl⟩ := hu
      rfl
    · intro v' w' h1 h2 _
      rw [cellsB_append] at h1
      exact fin v' w' h1 h2

/-- What the walk is told of a slice of integers that came in. -/
def IsRow (k : IntKind) (w : World) (a : Option Addr) (len cap : Nat) (zs : List Int) : Prop :=
  (a = none ∧ len = 0 ∧ cap = 0 ∧ zs = []) ∨
  ∃ x, a = some x ∧ len ≤ cap ∧ cap ≤ maxLen ∧ zs.length = cap ∧ (∀ i, i < zs.length → w.cell? (x.add i) = some (.int k (zs.getD i 0))) ∧ ∀ n ∈ zs, (Lit.int k n).wf = true
theorem IsRow.bytes {w : World} {a : Option Addr} {len cap : Nat} {zs : List Int} (h : IsRow .u8 w a len cap zs) :
    ∃ l : List Nat, len = l.length ∧ Bytes w a l ∧ (a = none → l = [] ∧ cap = 0) ∧ len ≤ 9223372036854775807 ∧ len ≤ cap := by
  rcases h with ⟨rfl, rfl, rfl, rfl⟩ | ⟨x, rfl, h1, h2, h3, h4, h5⟩
  · exact ⟨[], rfl, Bytes.none _ _, fun _ => ⟨rfl, rfl⟩, by decide, by decide⟩
  · have hm : (maxLen : Nat) = 9223372036854775807 := by decide
    have hb : ∀ n ∈ zs, 0 ≤ n ∧ n < 256 := fun n hn => by
      have := h5 n hn
      have := Go.bounds_u8 this
      omega
    refine ⟨(zs.take len).map Int.toNat, by simp; omega, ⟨?_, by simp; omega, ?_⟩, (fun h => by cases h), by omega, h1⟩
    · intro y hy
      obtain ⟨n, hn, rfl⟩ := List.mem_map.1 hy
      have := hb n (List.mem_of_mem_take hn)
      omega
    · intro hne
      have hlen : 0 < len := by
        rcases Nat.eq_zero_or_pos len with h | h
        · subst h; simp at hne
        · exact h
      obtain ⟨b, off, rfl, hc⟩ := Go.ints_at h4 (by omega)
      refine ⟨b, off, rfl, fun i hi => ?_⟩
      simp at hi
      rw [hc i (by omega)]
      have hiz : i < zs.length := by omega
      have hil : i < len := by omega
      have hg : zs.getD i 0 = zs[i] := by rw [List.getD_eq_getElem?_getD, List.getElem?_eq_getElem hiz]; rfl
      have hp := (hb zs[i] (List.getElem_mem hiz)).1
      rw [hg, List.getD_eq_getElem?_getD, List.getElem?_map, List.getElem?_take_of_lt hil, List.getElem?_eq_getElem hiz]
      simp [Int.toNat_of_nonneg hp]

/-- 's[:k]' of bytes. -/
theorem slice_head {P : Program} (T e : TypeId) (ht : P.underlying T = some (.slice e)) (hz : ∀ w, (Go.sizeOf e).run P w = .ok 1 w) {w : World} {a : Option Addr} {l : List Nat} {n cap : Nat} (hn : n = l.length)
    (h : Bytes w a l) (ha : a = none → l = [] ∧ cap = 0) (hc : n ≤ cap) (k : Nat) (hk : k ≤ n) :
    ∃ a', (∀ W, (Instr.slice T (.slice a n cap) none (some (.int .i64 (k : Int))) none).run P W = .ok (.slice a' k cap) W) ∧ Bytes w a' (l.take k) ∧ (a' = none → l.take k = [] ∧ cap = 0) := by
  have ht' : P.underlying T = some (.slice (P.elem T)) := by simp [Program.elem, ht]
  have he : P.elem T = e := by simp [Program.elem, ht]
  refine ⟨if cap = 0 then a else a.map (·.add (0 * 1)), fun W => ?_, ?_, ?_⟩
  · rw [run_slice_h W T _ _ _ ht' .i64 _ (by omega) (by omega), he, hz]
    simp [Result.andThen, sliced]
  · refine ⟨fun x hx => h.1 x (List.mem_of_mem_take hx), by have := h.2.1; simp; omega, fun hne => ?_⟩
    have hl : l ≠ [] := fun e => by subst e; simp at hne
    obtain ⟨b, o, rfl, hcell⟩ := h.2.2 hl
    have hlen : 0 < l.length := List.length_pos_iff.2 hl
    rw [if_neg (by omega)]
    refine ⟨b, o, by simp [Addr.add_lit], fun i hi => ?_⟩
    simp only [List.length_take] at hi
    rw [hcell i (by omega), List.getD_eq_getElem?_getD, List.getD_eq_getElem?_getD, List.getElem?_take_of_lt (by omega)]
  · intro hn'
    cases a with
    | none => obtain ⟨rfl, h0⟩ := ha rfl; exact ⟨by simp, h0⟩
    | some x => split at hn' <;> simp at hn'

/-- 's[k:]' of bytes. -/
theorem slice_tail {P : Program} (T e : TypeId) (ht : P.underlying T = some (.slice e)) (hz : ∀ w, (Go.sizeOf e).run P w = .ok 1 w) {w : World} {a : Option Addr} {l : List Nat} {n cap : Nat} (hn : n = l.length)
    (h : Bytes w a l) (ha : a = none → l = [] ∧ cap = 0) (hc : n ≤ cap) (k : Nat) (hk : k ≤ n) :
    ∃ a', (∀ W, (Instr.slice T (.slice a n cap) (some (.int .i64 (k : Int))) none none).run P W = .ok (.slice a' (n - k) (cap - k)) W) ∧ Bytes w a' (l.drop k) ∧ (a' = none → l.drop k = [] ∧ cap - k = 0) := by
  have ht' : P.underlying T = some (.slice (P.elem T)) := by simp [Program.elem, ht]
  have he : P.elem T = e := by simp [Program.elem, ht]
  refine ⟨if cap = k then a else a.map (·.add (k * 1)), fun W => ?_, ?_, ?_⟩
  · rw [run_slice_l W T _ _ _ ht' .i64 _ (by omega) (by omega), he, hz]
    simp [Result.andThen, sliced]
  · refine ⟨fun x hx => h.1 x (List.mem_of_mem_drop hx), by have := h.2.1; simp; omega, fun hne => ?_⟩
    have hlen : k < l.length := by
      rcases Nat.lt_or_ge k l.length with hh | hh
      · exact hh
      · exact absurd (List.drop_eq_nil_of_le hh) hne
    have hl : l ≠ [] := fun e => by subst e; simp at hlen
    obtain ⟨b, o, rfl, hcell⟩ := h.2.2 hl
    rw [if_neg (by omega)]
    refine ⟨b, o + k, by simp [Addr.add_lit], fun i hi => ?_⟩
    simp only [List.length_drop] at hi
    rw [Nat.add_assoc, hcell (k + i) (by omega), List.getD_eq_getElem?_getD, List.getD_eq_getElem?_getD, List.getElem?_drop]
  · intro hn'
    cases a with
    | none => obtain ⟨rfl, h0⟩ := ha rfl; exact ⟨by simp, by omega⟩
    | some x => split at hn' <;> simp at hn'
theorem flip_same {P : Program} {f : FuncId} {args : Array Value} {w : World} {v : Value} (h : Calls P f args w fun e w' => e = .returned v ∧ w = w') : Calls P f args w fun e w' => e = .returned v ∧ w' = w :=
  h.mono fun _ _ ⟨h1, h2⟩ => ⟨h1, h2.symm⟩
theorem Bytes.drewN {w : World} {a : Option Addr} {l : List Nat} (h : Bytes w a l) (q : Nat) : Bytes (w.drewN q) a l :=
  ⟨h.1, h.2.1, fun hl => by
    obtain ⟨b, o, ha, hc⟩ := h.2.2 hl
    exact ⟨b, o, ha, fun i hi => by rw [World.cell?_drewN]; exact hc i hi⟩⟩
/-- 'int(uint(x) % uint(n + 1))'. -/
theorem cut_mod (x : Int) (n : Nat) (hn : n < 4611686018427387904) : ∃ k : Nat, k ≤ n ∧ wrap64 ((IntKind.u64.wrap x).tmod ((n : Int) + 1)) = (k : Int) := by
  have h0 : 0 ≤ IntKind.u64.wrap x := by rw [IntKind.wrap_u64]; omega
  rw [Int.tmod_eq_emod_of_nonneg h0]
  generalize IntKind.u64.wrap x = y at *
  refine ⟨(y % ((n : Int) + 1)).toNat, ?_, ?_⟩
  · have := Int.emod_lt_of_pos y (show (0 : Int) < (n : Int) + 1 by omega)
    have := Int.emod_nonneg y (show ((n : Int) + 1) ≠ 0 by omega)
    omega
  · have h1 := Int.emod_lt_of_pos y (show (0 : Int) < (n : Int) + 1 by omega)
    have h2 := Int.emod_nonneg y (show ((n : Int) + 1) ≠ 0 by omega)
    rw [IntWalk.wrap64_in _ (by omega)]
    omega
theorem str_ne {l m : List Nat} (hl : ∀ x ∈ l, x < 256) (hm : ∀ x ∈ m, x < 256) (h : l ≠ m) : ((strOf l).toList == (strOf m).toList) = false := by
  rw [ByteArray.toList_eq, ByteArray.toList_eq]
  apply beq_false_of_ne
  intro e
  exact h (strOf_inj hl hm (ByteArray.ext (Array.toList_inj.mp e)))
/-- 's[0:k:k]' of bytes. -/
theorem slice_full {P : Program} (T e : TypeId) (ht : P.underlying T = some (.slice e)) (hz : ∀ w, (Go.sizeOf e).run P w = .ok 1 w) {w : World} {a : Option Addr} {l : List Nat} {n cap : Nat} (hn : n = l.length)
    (h : Bytes w a l) (hc : n ≤ cap) (k : Nat) (hk : k ≤ n) :
    ∃ a', (∀ W, (Instr.slice T (.slice a n cap) (some (.int .i64 0)) (some (.int .i64 (k : Int))) (some (.int .i64 (k : Int)))).run P W = .ok (.slice a' k k) W) ∧ Bytes w a' (l.take k) := by
  have ht' : P.underlying T = some (.slice (P.elem T)) := by simp [Program.elem, ht]
  have he : P.elem T = e := by simp [Program.elem, ht]
  refine ⟨if k = 0 then a else a.map (·.add (0 * 1)), fun W => ?_, ?_⟩
  · rw [run_slice_lhm W T _ _ _ ht' .i64 .i64 .i64 _ _ _ (by omega) (by omega) (by omega) (by omega), he, hz]
    simp [Result.andThen, sliced]
  · refine ⟨fun x hx => h.1 x (List.mem_of_mem_take hx), by have := h.2.1; simp; omega, fun hne => ?_⟩
    have hl : l ≠ [] := fun e => by subst e; simp at hne
    have hk0 : k ≠ 0 := fun e => by subst e; simp at hne
    obtain ⟨b, o, rfl, hcell⟩ := h.2.2 hl
    rw [if_neg hk0]
    refine ⟨b, o, by simp [Addr.add_lit], fun i hi => ?_⟩
    simp only [List.length_take] at hi
    rw [hcell i (by omega), List.getD_eq_getElem?_getD, List.getD_eq_getElem?_getD, List.getElem?_take_of_lt (by omega)]
end Go.Proofs.YtlkgaefabahkoaaDoor
/-
  A disk in memory: its six words, two rows of blocks, the queue of writes.
-/
namespace Go.Proofs.YtlkgaefabahkoaaDoor
open Go.RowKit

abbrev DSK := 121
abbrev BLK := 123
abbrev WRT := 125
theorem info_blk : (Tryd.prog.info? 123).map (fun i => (i.size, i.bytes)) = some (64, 64) := by kernel_rfl
theorem zero_blk : (Tryd.prog.info? 123).map (fun i => i.zero.map Value.cells) = some (some (Array.replicate 64 (.int .u8 0))) := by kernel_rfl
theorem size_blk : (Tryd.prog.info? 123).map (·.size) = some 64 := by kernel_rfl
theorem size_wrt : (Tryd.prog.info? 125).map (·.size) = some 65 := by kernel_rfl
/-- A row of n blocks. -/
structure Rw (w : World) (g n : Nat) (F : Nat → List Nat) : Prop where
  blk : ∃ cs, Blo w g BLK cs ∧ cs.size = n * 64 ∧ ∀ i, i < n → ∀ j, j < 64 → cs[i * 64 + j]? = some (.int .u8 ((F i).getD j 0 : Nat))
  len : ∀ i, (F i).length = 64
  byte : ∀ i, ∀ x ∈ F i, x < 256
def updB (F : Nat → List Nat) (i : Nat) (l : List Nat) : Nat → List Nat := fun j => if j = i then l else F j
theorem updB_at (F : Nat → List Nat) (i : Nat) (l : List Nat) : updB F i l i = l := by simp [updB]
theorem updB_ne (F : Nat → List Nat) {i j : Nat} (l : List Nat) (h : j ≠ i) : updB F i l j = F j := by simp [updB, h]
section
variable {w w' : World} {g n i : Nat} {F : Nat → List Nat} {l : List Nat}
theorem Rw.lt (h : Rw w g n F) : g < w.heap.size := by obtain ⟨cs, h1, _⟩ := h.blk; exact h1.lt
theorem Rw.out {X : Nat → Prop} (h : Rw w g n F) (ho : Out X w w') (hx : ¬ X g) : Rw w' g n F := by
  obtain ⟨⟨cs, h1, h2, h3⟩, h4, h5⟩ := h
  exact ⟨⟨cs, ho.blo h1 hx, h2, h3⟩, h4, h5⟩
theorem Rw.later (h : Rw w g n F) (hb : Below w.heap.size w w') : Rw w' g n F := h.out (X := fun _ => False) (Out.of_below hb) (fun h => h)
theorem Rw.cell (h : Rw w g n F) (hi : i < n) {j : Nat} (hj : j < 64) : w.cell? ⟨g, i * 64 + j, none⟩ = some (.int .u8 ((F i).getD j 0 : Nat)) := by
  obtain ⟨⟨cs, h1, h2, h3⟩, h4, h5⟩ := h
  rw [h1.cell]
  exact h3 i hi j hj
theorem Rw.range (h : Rw w g n F) (hi : i < n) : w.rangeAt g (i * 64) (cellsB (F i)) := fun j v hv => by
  have hj : j < 64 := by
    have := (List.getElem?_eq_some_iff.1 hv).1
    rw [cellsB_length, h.len] at this
    exact this
  rw [cellsB_get _ _ (by rw [h.len]; exact hj)] at hv
  cases hv
  exact h.cell hi hj
theorem Rw.there (h : Rw w g n F) (hi : i < n) : w.there g (i * 64) 64 := fun j hj =>
  ⟨by rw [h.cell hi hj]; rfl, by obtain ⟨cs, h1, _⟩ := h.blk; exact h1.frozen _⟩
theorem Rw.put (h : Rw w g n F) (hi : i < n) (hl : l.length = 64) (hb : ∀ x ∈ l, x < 256) : Rw (w.setCells g (i * 64) (cellsB l)) g n (updB F i l) := by
  obtain ⟨⟨cs, h1, h2, h3⟩, h4, h5⟩ := h
  obtain ⟨cs', k1, k2, k3⟩ := blo_cells (cellsB l) (i * 64) w cs h1
  refine ⟨⟨cs', k1, by rw [k2, h2], fun a ha j hj => ?_⟩, fun a => ?_, fun a x hx => ?_⟩
  · rw [k3, cellsB_length, hl]
    by_cases e : a = i
    · subst e
      rw [if_pos ⟨by omega, by omega, by omega⟩, updB_at, show a * 64 + j - a * 64 = j by omega, cellsB_get _ _ (by omega)]
    · rw [if_neg (by omega), updB_ne _ _ e]
      exact h3 a ha j hj
  · by_cases e : a = i
    · subst e; rw [updB_at]; exact hl
    · rw [updB_ne _ _ e]; exact h4 a
  · by_cases e : a = i
    · subst e; rw [updB_at] at hx; exact hb x hx
    · rw [updB_ne _ _ e] at hx; exact h5 a x hx
end
def zeroB : List Nat := List.replicate 64 0
theorem zeroB_length : zeroB.length = 64 := by decide
theorem zeroB_byte : ∀ x ∈ zeroB, x < 256 := fun x hx => by rw [List.eq_of_mem_replicate hx]; decide
theorem zeroB_get (j : Nat) : zeroB.getD j 0 = 0 := by
  rw [List.getD_eq_getElem?_getD, zeroB, List.getElem?_replicate]
  split <;> rfl
def zeroRow (n : Nat) : Array Value := madeCells (Array.replicate 64 (.int .u8 0)) (n * 64)
theorem zeroRow_size (n : Nat) : (zeroRow n).size = n * 64 := by simp [zeroRow, size_madeCells]
theorem zeroRow_get (n j : Nat) (h : j < n * 64) : (zeroRow n)[j]? = some (.int .u8 0) := by
  have hs := zeroRow_size n
  rw [Array.getElem?_eq_getElem (by omega)]
  simp [zeroRow, madeCells]
  rw [getElem!_pos _ _ (by simp; omega)]
  simp
theorem rw_zero (w : World) (n : Nat) : Rw (w.alloc (.cells (zeroRow n) BLK)) w.heap.size n (fun _ => zeroB) :=
  ⟨⟨_, blo_laid w _ _, zeroRow_size n, fun i hi j hj => by rw [zeroRow_get n _ (by omega), zeroB_get]; rfl⟩, fun _ => zeroB_length, fun _ => zeroB_byte⟩
theorem run_blks (w : World) (n : Nat) (hn : n ≤ 5000) :
    (Instr.makeSlice 118 (.int .i64 (n : Int)) (.int .i64 (n : Int))).run Tryd.prog w = .ok (.slice (some ⟨w.heap.size, 0, none⟩) n n) (w.alloc (.cells (zeroRow n) BLK)) := by
  cases hi : Tryd.prog.info? 123 with
  | none => have := size_blk; rw [hi] at this; cases this
  | some i =>
    have h1 := info_blk
    have h2 := zero_blk
    rw [hi] at h1 h2
    simp only [Option.map_some, Option.some.injEq, Prod.mk.injEq] at h1 h2
    cases hz : i.zero with
    | none => rw [hz] at h2; cases h2
    | some z =>
      rw [hz] at h2
      simp only [Option.map_some, Option.some.injEq] at h2
      have hr := run_make (P := Tryd.prog) w 118 BLK i z Tryd.underlying118 hi hz .i64 .i64 n n (by omega) (Int.le_refl _) (by rw [h1.2]; omega) (by omega)
      simp only [Int.toNat_natCast] at hr
      rw [hr, h1.1, h2]
      rfl
/-- One write of the queue, as it lies. -/
def wrtC (p : Nat × List Nat) : List Value := .int .i64 p.1 :: cellsB p.2
def cellsW (Q : List (Nat × List Nat)) : List Value := Q.flatMap wrtC
theorem cellsW_nil : cellsW [] = [] := rfl
theorem cellsW_append (Q R : List (Nat × List Nat)) : cellsW Q ++ cellsW R = cellsW (Q ++ R) := by simp [cellsW]
theorem cellsW_one (p : Nat × List Nat) : cellsW [p] = wrtC p := by simp [cellsW]
def GoodW (n : Nat) (p : Nat × List Nat) : Prop := p.1 < n ∧ p.2.length = 64 ∧ ∀ x ∈ p.2, x < 256
theorem wrtC_length {n : Nat} {p : Nat × List Nat} (h : GoodW n p) : (wrtC p).length = 65 := by simp [wrtC, cellsB_length, h.2.1]
theorem wrtC_one (p : Nat × List Nat) : ∀ v ∈ wrtC p, v.oneCell' = true := fun v hv => by
  simp only [wrtC, List.mem_cons, cellsB, List.mem_map] at hv
  rcases hv with rfl | ⟨x, _, rfl⟩ <;> rfl
theorem cellsB_one (l : List Nat) : ∀ v ∈ cellsB l, v.oneCell' = true := fun v hv => by
  simp only [cellsB, List.mem_map] at hv
  obtain ⟨x, _, rfl⟩ := hv
  rfl
theorem cellsW_at {n : Nat} : ∀ (Q : List (Nat × List Nat)) (_ : ∀ p ∈ Q, GoodW n p) (k : Nat) (hk : k < Q.length) (j : Nat), j < 65 → (cellsW Q)[k * 65 + j]? = (wrtC Q[k])[j]?
  | [], _, k, hk, _, _ => by simp at hk
  | p :: Q, h, 0, _, j, hj => by
    show (wrtC p ++ cellsW Q)[0 * 65 + j]? = _
    rw [List.getElem?_append_left (by rw [wrtC_length (h p (List.mem_cons_self ..))]; omega)]
    simp
  | p :: Q, h, k + 1, hk, j, hj => by
    have hl := wrtC_length (h p (List.mem_cons_self ..))
    show (wrtC p ++ cellsW Q)[(k + 1) * 65 + j]? = _
    rw [List.getElem?_append_right (by omega), hl, show (k + 1) * 65 + j - 65 = k * 65 + j by omega, cellsW_at Q (fun q hq => h q (List.mem_cons_of_mem _ hq)) k (by simpa using hk) j hj]
    simp
theorem cellsW_length {n : Nat} : ∀ (Q : List (Nat × List Nat)) (_ : ∀ p ∈ Q, GoodW n p), (cellsW Q).length = Q.length * 65
  | [], _ => rfl
  | p :: Q, h => by
    have hl := wrtC_length (h p (List.mem_cons_self ..))
    have := cellsW_length Q (fun q hq => h q (List.mem_cons_of_mem _ hq))
    show (wrtC p ++ cellsW Q).length = _
    rw [List.length_append, hl, this, List.length_cons]; omega
/-- A disk told. -/
structure Dm where
  n : Nat
  S : Nat → List Nat
  N : Nat → List Nat
  Q : List (Nat × List Nat)
  steps : Int
  armed : Bool
  left : Int
/-- Where it lies. -/
structure Dl where
  bd : Nat
  gs : Nat
  gn : Nat
  qv : Value
def Dl.has (L : Dl) (i : Nat) : Prop := i = L.bd ∨ i = L.gs ∨ i = L.gn ∨ L.qv.ownBlock = some i
structure Dk (C : Nat) (w : World) (L : Dl) (d : Dm) : Prop where
  top : Blo w L.bd DSK #[.slice (some ⟨L.gs, 0, none⟩) d.n d.n, .slice (some ⟨L.gn, 0, none⟩) d.n d.n, L.qv, .int .i64 d.steps, .bool d.armed, .int .i64 d.left]
  sure : Rw w L.gs d.n d.S
  now : Rw w L.gn d.n d.N
  queue : w.ownsRow C WRT 65 L.qv d.Q.length (cellsW d.Q)
  good : ∀ p ∈ d.Q, GoodW d.n p
  ne : L.gs ≠ L.gn
  low : C ≤ L.bd ∧ C ≤ L.gs ∧ C ≤ L.gn
  few : 1 ≤ d.n ∧ d.n ≤ 4096
  stp : 0 ≤ d.steps ∧ d.steps ≤ 1000000
  lft : -1 ≤ d.left ∧ d.left ≤ 9223372036854775807
  len : d.Q.length ≤ 1000000
section
variable {C : Nat} {w w' : World} {L : Dl} {d : Dm}
theorem Dk.out {X : Nat → Prop} (h : Dk C w L d) (ho : Out X w w') (hx : ∀ i, L.has i → ¬ X i) : Dk C w' L d :=
  ⟨ho.blo h.top (hx _ (.inl rfl)), h.sure.out ho (hx _ (.inr (.inl rfl))), h.now.out ho (hx _ (.inr (.inr (.inl rfl)))), ho.own h.queue (fun g e => hx g (.inr (.inr (.inr e)))), h.good, h.ne, h.low, h.few, h.stp, h.lft, h.len⟩
theorem Dk.later (h : Dk C w L d) (hb : Below w.heap.size w w') : Dk C w' L d := h.out (X := fun _ => False) (Out.of_below hb) (fun _ _ h => h)
theorem own_lt {base : Nat} {e : TypeId} {size : Nat} {v : Value} {n : Nat} {xs : List Value} {g : Nat} (h : w.ownsRow base e size v n xs) (hg : v.ownBlock = some g) : base ≤ g ∧ g < w.heap.size := by
  rcases h.2 with ⟨rfl, _⟩ | ⟨g', cap, cur, rfl, hb, hgg, rest⟩
  · cases hg
  · cases hg
    exact ⟨hb, Blo.lt hgg⟩
theorem Dk.has_lt (h : Dk C w L d) {i : Nat} (hi : L.has i) : C ≤ i ∧ i < w.heap.size := by
  rcases hi with rfl | rfl | rfl | hq
  · exact ⟨h.low.1, h.top.lt⟩
  · exact ⟨h.low.2.1, h.sure.lt⟩
  · exact ⟨h.low.2.2, h.now.lt⟩
  · exact own_lt h.queue hq
theorem own_type {base : Nat} {e t : TypeId} {size : Nat} {v : Value} {n : Nat} {xs : List Value} {g : Nat} {cs : Array Value} (h : w.ownsRow base e size v n xs) (hg : Blo w g t cs) (hne : e ≠ t) : v.ownBlock ≠ some g := by
  intro hv
  exact hg.row_apart h hne hv.symm
theorem Dk.bd_gs (h : Dk C w L d) : L.bd ≠ L.gs := by obtain ⟨cs, h1, _⟩ := h.sure.blk; exact h.top.apart h1 (by decide)
theorem Dk.bd_gn (h : Dk C w L d) : L.bd ≠ L.gn := by obtain ⟨cs, h1, _⟩ := h.now.blk; exact h.top.apart h1 (by decide)
theorem Dk.q_bd (h : Dk C w L d) : L.qv.ownBlock ≠ some L.bd := own_type h.queue h.top (by decide)
theorem Dk.q_gs (h : Dk C w L d) : L.qv.ownBlock ≠ some L.gs := by obtain ⟨cs, h1, _⟩ := h.sure.blk; exact own_type h.queue h1 (by decide)
theorem Dk.q_gn (h : Dk C w L d) : L.qv.ownBlock ≠ some L.gn := by obtain ⟨cs, h1, _⟩ := h.now.blk; exact own_type h.queue h1 (by decide)
/-- A block of another type is none of the disk's. -/
theorem Dk.apart (h : Dk C w L d) {g : Nat} {t : TypeId} {cs : Array Value} (hg : Blo w g t cs) (h1 : t ≠ DSK) (h2 : t ≠ BLK) (h3 : t ≠ WRT) : ¬ L.has g := by
  rintro (rfl | rfl | rfl | hq)
  · exact hg.apart h.top h1 rfl
  · obtain ⟨c2, k1, _⟩ := h.sure.blk; exact hg.apart k1 h2 rfl
  · obtain ⟨c2, k1, _⟩ := h.now.blk; exact hg.apart k1 h2 rfl
  · exact own_type h.queue hg (fun e => h3 e.symm) hq
end
end Go.Proofs.YtlkgaefabahkoaaDoor
/-
  The disk's walks: dead, step, Size, Steps, Arm, New.
-/
namespace Go.Proofs.YtlkgaefabahkoaaDoor
open Go.RowKit

def deadB (d : Dm) : Bool := d.armed && (d.left == 0)
def stepD (d : Dm) : Dm := { d with steps := d.steps + 1, left := if d.armed then d.left - 1 else d.left }
/-- What a call that answers a number leaves. -/
def CodeO (C : Nat) (w : World) (L : Dl) (d' : Dm) (code : Int) (e : Ending) (w' : World) : Prop :=
  e = .returned (.int .i64 code) ∧ ∃ qv, Dk C w' { L with qv := qv } d' ∧ Out L.has w w' ∧ (∀ g, qv.ownBlock = some g → L.qv.ownBlock = some g ∨ w.heap.size ≤ g)
def NilO (C : Nat) (w : World) (L : Dl) (d' : Dm) (e : Ending) (w' : World) : Prop :=
  e = .returned (.tuple #[]) ∧ Dk C w' L d' ∧ Out L.has w w'
section
variable {C : Nat} {w : World} {L : Dl} {d : Dm}
theorem CodeO.stay (h : Dk C w L d) (code : Int) : CodeO C w L d code (.returned (.int .i64 code)) w :=
  ⟨rfl, L.qv, h, Out.refl _ _, fun _ hg => .inl hg⟩
set_option maxHeartbeats 400000 in
theorem dead_any (h : Dk C w L d) : Calls Tryd.prog 61 #[.pointer (some ⟨L.bd, 0, none⟩)] w fun e w' => e = .returned (.bool (deadB d)) ∧ w = w' := by
  have t4 := h.top.cell 4
  have t5 := h.top.cell 5
  simp at t4 t5
  clear h
  obtain ⟨n, S, N, Q, st, ar, lf⟩ := d
  simp only at t4 t5
  cases ar with
  | false =>
    go_enter Tryd.func61, Tryd.ntmps61
    go_wp2
    go_ret
    exact ⟨rfl, rfl⟩
  | true =>
    go_enter Tryd.func61, Tryd.ntmps61
    go_wp2
    go_ret
    exact ⟨by simp [deadB], rfl⟩
theorem Dk.topped (h : Dk C w L d) (j : Nat) (u : Value) (d' : Dm) (hn : d'.n = d.n) (hS : d'.S = d.S) (hN : d'.N = d.N) (hQ : d'.Q = d.Q) (hst : 0 ≤ d'.steps ∧ d'.steps ≤ 1000000) (hlf : -1 ≤ d'.left ∧ d'.left ≤ 9223372036854775807)
    (hc : (#[.slice (some ⟨L.gs, 0, none⟩) d.n d.n, .slice (some ⟨L.gn, 0, none⟩) d.n d.n, L.qv, .int .i64 d.steps, .bool d.armed, .int .i64 d.left] : Array Value).setIfInBounds j u = #[.slice (some ⟨L.gs, 0, none⟩) d.n d.n, .slice (some ⟨L.gn, 0, none⟩) d.n d.n, L.qv, .int .i64 d'.steps, .bool d'.armed, .int .i64 d'.left]) :
    Dk C (w.setCell ⟨L.bd, j, none⟩ u) L d' ∧ Out L.has w (w.setCell ⟨L.bd, j, none⟩ u) := by
  have ho : Out L.has w (w.setCell ⟨L.bd, j, none⟩ u) := out_put w ⟨L.bd, j, none⟩ u (.inl rfl)
  have h1 : Out (fun i => i = L.bd) w (w.setCell ⟨L.bd, j, none⟩ u) := out_put w ⟨L.bd, j, none⟩ u rfl
  refine ⟨⟨?_, ?_, ?_, ?_, ?_, h.ne, h.low, by rw [hn]; exact h.few, hst, hlf, by rw [hQ]; exact h.len⟩, ho⟩
  · have := h.top.put j u
    rw [hc] at this
    rw [hn]
    exact this
  · rw [hn, hS]; exact h.sure.out h1 (fun e => h.bd_gs e.symm)
  · rw [hn, hN]; exact h.now.out h1 (fun e => h.bd_gn e.symm)
  · rw [hQ]; exact h1.own h.queue (fun g hg e => h.q_bd (by rw [hg, e]))
  · rw [hn, hQ]; exact h.good
set_option maxHeartbeats 400000 in
theorem dstep_any (h : Dk C w L d) (hs : d.steps < 1000000) (hd : deadB d = false) (hl : 0 ≤ d.left) : Calls Tryd.prog 99 #[.pointer (some ⟨L.bd, 0, none⟩)] w (NilO C w L (stepD d)) := by
  have H := Lib.hid h
  have t3 := h.top.cell 3
  have t4 := h.top.cell 4
  have t5 := h.top.cell 5
  have f3 := h.top.frozen 3
  have f5 := h.top.frozen 5
  obtain ⟨s1, s2⟩ := h.stp
  obtain ⟨l1, l2⟩ := h.lft
  simp at t3 t4 t5
  have HD := Lib.hid hd
  clear h hd
  obtain ⟨n, S, N, Q, st, ar, lf⟩ := d
  simp only at t3 t4 t5 s1 s2 l1 l2 hs hl
  cases ar with
  | false =>
    go_enter Tryd.func99, Tryd.ntmps99
    go_wp2
    go_end0
    obtain ⟨h1, h2⟩ := H.out.topped 3 (.int .i64 (st + 1)) (stepD ⟨n, S, N, Q, st, false, lf⟩) rfl rfl rfl rfl (by simp [stepD]; omega) (by simp [stepD]; omega) rfl
    exact ⟨rfl, h1, h2⟩
  | true =>
    go_enter Tryd.func99, Tryd.ntmps99
    go_wp2
    go_end0
    obtain ⟨h1, h2⟩ := H.out.topped 3 (.int .i64 (st + 1)) ⟨n, S, N, Q, st + 1, true, lf⟩ rfl rfl rfl rfl (by simp; omega) (by simp; omega) rfl
    obtain ⟨h3, h4⟩ := h1.topped 5 (.int .i64 (lf - 1)) (stepD ⟨n, S, N, Q, st, true, lf⟩) rfl rfl rfl rfl (by simp [stepD]; omega) (by simp [stepD]; omega) rfl
    exact ⟨rfl, h3, h2.trans h4 (fun _ _ h => h)⟩
set_option maxHeartbeats 400000 in
theorem dsize_any (h : Dk C w L d) : Calls Tryd.prog 38 #[.pointer (some ⟨L.bd, 0, none⟩)] w fun e w' => e = .returned (.int .i64 d.n) ∧ w = w' := by
  have t1 := h.top.cell 1
  have hf := h.few.2
  simp at t1
  clear h
  go_enter Tryd.func38, Tryd.ntmps38
  go_wp2
  go_ret
  exact ⟨rfl, rfl⟩
set_option maxHeartbeats 400000 in
theorem steps_any (h : Dk C w L d) : Calls Tryd.prog 34 #[.pointer (some ⟨L.bd, 0, none⟩)] w fun e w' => e = .returned (.int .i64 d.steps) ∧ w = w' := by
  have t1 := h.top.cell 3
  simp at t1
  clear h
  go_enter Tryd.func34, Tryd.ntmps34
  go_wp2
  go_ret
  exact ⟨rfl, rfl⟩
def armD (d : Dm) (n : Int) : Dm := { d with armed := true, left := n }
set_option maxHeartbeats 400000 in
theorem arm_low (k : Int) (hk : k < 0) (h : Dk C w L d) : Calls Tryd.prog 22 #[.pointer (some ⟨L.bd, 0, none⟩), .int .i64 k] w (CodeO C w L d 22) := by
  have H := Lib.hid h
  clear h
  go_enter Tryd.func22, Tryd.ntmps22
  go_wp2
  go_ret
  exact CodeO.stay H.out 22
set_option maxHeartbeats 400000 in
theorem arm_dead (k : Int) (hk : 0 ≤ k) (h : Dk C w L d) (hd : deadB d = true) : Calls Tryd.prog 22 #[.pointer (some ⟨L.bd, 0, none⟩), .int .i64 k] w (CodeO C w L d 102) := by
  have H := Lib.hid h
  have HD := Lib.hid (dead_any h)
  rw [hd] at HD
  clear h hd
  go_enter Tryd.func22, Tryd.ntmps22
  go_wp2_with fail
  refine HD.out.mono ?_
  rintro e w' ⟨rfl, rfl⟩
  clear HD
  go_wp2
  go_ret
  exact CodeO.stay H.out 102
set_option maxHeartbeats 400000 in
theorem arm_yes (k : Int) (hk : 0 ≤ k) (hk2 : k ≤ 9223372036854775807) (h : Dk C w L d) (hd : deadB d = false) : Calls Tryd.prog 22 #[.pointer (some ⟨L.bd, 0, none⟩), .int .i64 k] w (CodeO C w L (armD d k) 0) := by
  have H := Lib.hid h
  have HD := Lib.hid (dead_any h)
  rw [hd] at HD
  have t4 := h.top.cell 4
  have t5 := h.top.cell 5
  have f4 := h.top.frozen 4
  have f5 := h.top.frozen 5
  simp at t4 t5
  clear h hd
  go_enter Tryd.func22, Tryd.ntmps22
  go_wp2_with fail
  refine HD.out.mono ?_
  rintro e w' ⟨rfl, rfl⟩
  clear HD
  go_wp2
  go_ret
  obtain ⟨h1, h2⟩ := H.out.topped 4 (.bool true) { d with armed := true } rfl rfl rfl rfl H.out.stp H.out.lft rfl
  obtain ⟨h3, h4⟩ := h1.topped 5 (.int .i64 k) (armD d k) rfl rfl rfl rfl H.out.stp (by simp [armD]; omega) rfl
  exact ⟨rfl, L.qv, h3, h2.trans h4 (fun _ _ h => h), fun _ hg => .inl hg⟩
end
def newD (n : Nat) : Dm := ⟨n, fun _ => zeroB, fun _ => zeroB, [], 0, false, 0⟩
def NewDO (n : Nat) (w : World) (e : Ending) (w' : World) : Prop :=
  ∃ L : Dl, e = .returned (.tuple #[.pointer (some ⟨L.bd, 0, none⟩), .int .i64 0]) ∧ Dk w.heap.size w' L (newD n) ∧ Below w.heap.size w w'
theorem newD_mem (w : World) (n : Nat) (h1 : 1 ≤ n) (h2 : n ≤ 4096) (a b : Nat) (hab : a ≠ b) (ha : w.heap.size ≤ a) (hb : w.heap.size ≤ b) (W : World) (hA : Rw W a n (fun _ => zeroB)) (hB : Rw W b n (fun _ => zeroB)) (c : Nat) (hc : w.heap.size ≤ c)
    (hT : Blo W c DSK #[.slice (some ⟨a, 0, none⟩) n n, .slice (some ⟨b, 0, none⟩) n n, .slice none 0 0, .int .i64 0, .bool false, .int .i64 0]) : Dk w.heap.size W ⟨c, a, b, .slice none 0 0⟩ (newD n) :=
  ⟨hT, hA, hB, ⟨rfl, .inl ⟨rfl, rfl⟩⟩, by simp [newD], hab, ⟨hc, ha, hb⟩, ⟨h1, h2⟩, by simp [newD], by simp [newD], by simp [newD]⟩
set_option maxHeartbeats 400000 in
theorem new_bad (k : Int) (w : World) (hk : k < 1 ∨ 4096 < k) : Calls Tryd.prog 26 #[.int .i64 k] w fun e w' => e = .returned (.tuple #[.pointer none, .int .i64 22]) ∧ w = w' := by
  rcases hk with h | h
  · go_enter Tryd.func26, Tryd.ntmps26
    go_wp2
    go_ret2
    exact ⟨rfl, rfl⟩
  · have h' : ¬ k < 1 := by omega
    go_enter Tryd.func26, Tryd.ntmps26
    go_wp2
    go_ret2
    exact ⟨rfl, rfl⟩
theorem rows2 (w : World) (n : Nat) (o : Obj) : Rw (((w.alloc (.cells (zeroRow n) BLK)).alloc (.cells (zeroRow n) BLK)).alloc o) w.heap.size n (fun _ => zeroB) ∧ Rw (((w.alloc (.cells (zeroRow n) BLK)).alloc (.cells (zeroRow n) BLK)).alloc o) (w.heap.size + 1) n (fun _ => zeroB) := by
  have s1 : ∀ (w : World) (o : Obj), Below w.heap.size w (w.alloc o) := fun w o => (Below.refl _ _).alloc (Nat.le_refl _) o
  refine ⟨((rw_zero w n).later (s1 _ _)).later (s1 _ _), ?_⟩
  have := (rw_zero (w.alloc (.cells (zeroRow n) BLK)) n).later (s1 _ o)
  simpa using this
theorem new_top (w : World) (n : Nat) (cs : Array Value) : Blo (((w.alloc (.cells (zeroRow n) BLK)).alloc (.cells (zeroRow n) BLK)).alloc (.cells cs DSK)) (w.heap.size + 1 + 1) DSK cs := by
  have := blo_laid ((w.alloc (.cells (zeroRow n) BLK)).alloc (.cells (zeroRow n) BLK)) DSK cs
  simpa using this
theorem new_below (w : World) (n : Nat) (o : Obj) : Below w.heap.size w ((((w.alloc (.cells (zeroRow n) BLK)).alloc (.cells (zeroRow n) BLK)).alloc o)).drew :=
  ((((Below.refl _ _).alloc (Nat.le_refl _) _).alloc (by simp) _).alloc (by simp; omega) _).drew
theorem new_mem1 (w : World) (n : Nat) (h1 : 1 ≤ n) (h2 : n ≤ 4096) : Dk w.heap.size ((((w.alloc (.cells (zeroRow n) BLK)).alloc (.cells (zeroRow n) BLK)).alloc (.cells #[.slice (some ⟨w.heap.size, 0, none⟩) n n, .slice (some ⟨w.heap.size + 1, 0, none⟩) n n, .slice none 0 0, .int .i64 0, .bool false, .int .i64 0] DSK))).drew ⟨w.heap.size + 1 + 1, w.heap.size, w.heap.size + 1, .slice none 0 0⟩ (newD n) :=
  (newD_mem w n h1 h2 w.heap.size (w.heap.size + 1) (by omega) (by omega) (by omega) _ (rows2 w n _).1 (rows2 w n _).2 (w.heap.size + 1 + 1) (by omega) (new_top w n _)).later ((Below.refl _ _).drew)
theorem new_mem2 (w : World) (n : Nat) (h1 : 1 ≤ n) (h2 : n ≤ 4096) : Dk w.heap.size ((((w.alloc (.cells (zeroRow n) BLK)).alloc (.cells (zeroRow n) BLK)).alloc (.cells #[.slice (some ⟨w.heap.size + 1, 0, none⟩) n n, .slice (some ⟨w.heap.size, 0, none⟩) n n, .slice none 0 0, .int .i64 0, .bool false, .int .i64 0] DSK))).drew ⟨w.heap.size + 1 + 1, w.heap.size + 1, w.heap.size, .slice none 0 0⟩ (newD n) :=
  (newD_mem w n h1 h2 (w.heap.size + 1) w.heap.size (by omega) (by omega) (by omega) _ (rows2 w n _).2 (rows2 w n _).1 (w.heap.size + 1 + 1) (by omega) (new_top w n _)).later ((Below.refl _ _).drew)
set_option maxHeartbeats 1000000 in
theorem new_any (n : Nat) (w : World) (h1 : 1 ≤ n) (h2 : n ≤ 4096) : Calls Tryd.prog 26 #[.int .i64 n] w (NewDO n w) := by
  have hmk : ∀ W, _ := fun W => run_blks W n (by omega)
  have g1 : ¬ (n : Int) < 1 := by omega
  have g2 : ¬ (4096 : Int) < (n : Int) := by omega
  go_enter Tryd.func26, Tryd.ntmps26
  go_wp2
  go_region
  all_goals go_wp2
  all_goals go_ret2
  · exact ⟨⟨w.heap.size + 1 + 1, w.heap.size, w.heap.size + 1, .slice none 0 0⟩, rfl, new_mem1 w n h1 h2, new_below w n _⟩
  · exact ⟨⟨w.heap.size + 1 + 1, w.heap.size + 1, w.heap.size, .slice none 0 0⟩, rfl, new_mem2 w n h1 h2, new_below w n _⟩
end Go.Proofs.YtlkgaefabahkoaaDoor
/-
  A struct of one word and a row of whatever length, built; a slice of one such struct, built.
-/
namespace Go.Proofs.YtlkgaefabahkoaaDoor
open Go.RowKit

theorem fold_get (off : Nat) : ∀ (vs : List Value) (k : Nat) (cs : Array Value),
    ((vs.zipIdx k).foldl (fun cs x => cs.setIfInBounds (off + x.2) x.1) cs).size = cs.size ∧
    ∀ j, ((vs.zipIdx k).foldl (fun cs x => cs.setIfInBounds (off + x.2) x.1) cs)[j]? = if off + k ≤ j ∧ j < off + k + vs.length ∧ j < cs.size then vs[j - (off + k)]? else cs[j]?
  | [], k, cs => ⟨rfl, fun j => by simp; intro h1 h2; omega⟩
  | v :: vs, k, cs => by
    obtain ⟨h1, h2⟩ := fold_get off vs (k + 1) (cs.setIfInBounds (off + k) v)
    simp only [List.zipIdx_cons, List.foldl_cons]
    refine ⟨by rw [h1]; simp, fun j => ?_⟩
    rw [h2 j, Array.size_setIfInBounds, List.length_cons]
    by_cases c1 : off + (k + 1) ≤ j ∧ j < off + (k + 1) + vs.length ∧ j < cs.size
    · rw [if_pos c1, if_pos (by omega), show j - (off + k) = (j - (off + (k + 1))) + 1 by omega, List.getElem?_cons_succ]
    · rw [if_neg c1, Array.getElem?_setIfInBounds]
      by_cases e : off + k = j
      · subst e
        rw [if_pos rfl]
        by_cases hs : off + k < cs.size
        · rw [if_pos hs, if_pos (by omega), Nat.sub_self, List.getElem?_cons_zero]
        · rw [if_neg hs, if_neg (by omega), Array.getElem?_eq_none (by omega)]
      · rw [if_neg e, if_neg (by omega)]
theorem fold_arr (off : Nat) (vs : Array Value) (cs : Array Value) : vs.zipIdx.foldl (fun cs x => cs.setIfInBounds (off + x.2) x.1) cs = (vs.toList.zipIdx 0).foldl (fun cs x => cs.setIfInBounds (off + x.2) x.1) cs := by
  rw [← Array.foldl_toList, Array.toList_zipIdx]
theorem fill_two (z : Array Value) (x : Value) (vs : List Value) (n : Nat) (hx : x.cells = #[x]) (hn : vs.length = n) (hz : z.size = 1 + n) :
    Instr.fill ((#[(0, 1), (1, n)] : Array (Nat × Nat))[·]?) z [(0, x), (1, .agg vs.toArray)] = some (x :: vs).toArray := by
  have h1 : ¬ (1 ≠ 1 ∨ 0 + 1 > z.size) := by omega
  simp only [Instr.fill]
  simp only [List.getElem?_toArray, List.getElem?_cons_zero, List.getElem?_cons_succ, hx]
  have e1 : ((#[x] : Array Value).zipIdx.foldl (fun cs x => cs.setIfInBounds (0 + x.2) x.1) z) = z.setIfInBounds 0 x := rfl
  rw [e1]
  have c1 : ((#[x] : Array Value).size ≠ 1 || 0 + (#[x] : Array Value).size > z.size) = false := Bool.or_eq_false_iff.2 ⟨decide_eq_false (fun h => h rfl), decide_eq_false (by show ¬ 0 + 1 > z.size; omega)⟩
  rw [if_neg (by rw [c1]; decide)]
  have c2 : ((Value.agg vs.toArray).cells.size ≠ n || 1 + (Value.agg vs.toArray).cells.size > (z.setIfInBounds 0 x).size) = false := by simp [Value.cells, hn]; omega
  rw [if_neg (by rw [c2]; decide)]
  show some _ = _
  rw [show (Value.agg vs.toArray).cells = vs.toArray from rfl, fold_arr]
  congr 1
  obtain ⟨h2, h3⟩ := fold_get 1 vs 0 (z.setIfInBounds 0 x)
  apply Array.ext_getElem?
  intro j
  have ht : (x :: vs).toArray[j]? = (x :: vs)[j]? := by simp
  rw [show vs.toArray.toList = vs from rfl, h3 j, Array.size_setIfInBounds, Array.getElem?_setIfInBounds, ht]
  cases j with
  | zero => rw [if_neg (by omega), if_pos rfl, if_pos (by omega)]; rfl
  | succ j =>
    rw [List.getElem?_cons_succ]
    by_cases c : j < n
    · rw [if_pos (by omega), show j + 1 - (1 + 0) = j by omega]
    · rw [if_neg (by omega), if_neg (by omega), List.getElem?_eq_none (by omega), Array.getElem?_eq_none (by omega)]
theorem fill_one (z : Array Value) (vs : List Value) (n : Nat) (hn : vs.length = n) (hz : z.size = n) :
    Instr.fill (fun i => some (i * n, n)) z [(0, .agg vs.toArray)] = some vs.toArray := by
  simp only [Instr.fill]
  have c2 : ((Value.agg vs.toArray).cells.size ≠ n || 0 * n + (Value.agg vs.toArray).cells.size > z.size) = false := by simp [Value.cells, hn]; omega
  rw [if_neg (by rw [c2]; decide)]
  show some _ = _
  rw [show (Value.agg vs.toArray).cells = vs.toArray from rfl, fold_arr]
  congr 1
  obtain ⟨h2, h3⟩ := fold_get (0 * n) vs 0 z
  apply Array.ext_getElem?
  intro j
  have ht : vs.toArray[j]? = vs[j]? := by simp
  rw [show vs.toArray.toList = vs from rfl, h3 j, ht]
  by_cases c : j < n
  · rw [if_pos (by omega), show j - (0 * n + 0) = j by omega]
  · rw [if_neg (by omega), List.getElem?_eq_none (by omega), Array.getElem?_eq_none (by omega)]
theorem built_struct {P : Program} (t : TypeId) (z : Value) (fields : Array Field) (places : List (Nat × Nat)) (parts : List (Nat × Value)) (hA : (P.info? t).bind (·.zero) = some z) (hu : P.underlying t = some (.struct fields))
    (hp : fields.toList.mapM (fun f => (P.info? f.type).map fun i => (f.offset, i.size)) = some places) : P.built t parts = Instr.fill (places.toArray[·]?) z.cells parts := by
  unfold Program.built
  cases hi : P.info? t with
  | none => rw [hi] at hA; cases hA
  | some it =>
    rw [hi] at hA
    simp only [Option.bind_some] at hA
    simp only [hu, hA, hp]
/-- A struct of a word and a row of n cells. -/
theorem run_build_two {P : Program} (w : World) (t : TypeId) (z : Value) (fields : Array Field) (x : Value) (vs : List Value) (n : Nat) (hA : (P.info? t).bind (·.zero) = some z) (hu : P.underlying t = some (.struct fields))
    (hp : fields.toList.mapM (fun f => (P.info? f.type).map fun i => (f.offset, i.size)) = some [(0, 1), (1, n)]) (hx : x.cells = #[x]) (hn : vs.length = n) (hz : z.cells.size = 1 + n) :
    (Instr.build t #[(0, x), (1, .agg vs.toArray)]).run P w = .ok (.agg (x :: vs).toArray) w :=
  run_build w t _ _ (by rw [built_struct t z fields _ _ hA hu hp]; exact fill_two z.cells x vs n hx hn hz)
theorem run_bslice_one {P : Program} (w : World) (t e : TypeId) (vs : List Value) (ie : TypeInfo) (z : Value) (hu : P.underlying t = some (.slice e)) (hie : P.info? e = some ie) (hz : ie.zero = some z) (hs : ie.size = vs.length) (h1 : 0 < vs.length) (h2 : vs.length ≤ 1000) :
    (Instr.buildSlice t 1 #[(0, .agg vs.toArray)]).run P w = .ok (.slice (some ⟨w.heap.size, 0, none⟩) 1 1) (w.alloc (.cells vs.toArray e)) := by
  refine run_buildSlice w t e 1 _ _ ie z hu hie hz ?_ ?_ ?_
  · rw [hs]
    have : (2 : Nat) ^ 24 = 16777216 := by decide
    omega
  · rw [hs]; omega
  · rw [hs]
    exact fill_one _ vs _ rfl (by simp)
end Go.Proofs.YtlkgaefabahkoaaDoor
/-
  The disk's walks: Write.
-/
namespace Go.Proofs.YtlkgaefabahkoaaDoor
open Go.RowKit

/-- A slice of a block's bytes in memory of its own. -/
def BBlk (w : World) (g : Nat) (l : List Nat) : Prop := Blo w g U8 (cellsB l).toArray ∧ l.length = 64 ∧ ∀ x ∈ l, x < 256
def putD (d : Dm) (i : Nat) (l : List Nat) : Dm := { stepD d with N := updB d.N i l, Q := d.Q ++ [(i, l)] }
section
variable {C : Nat} {w : World} {L : Dl} {d : Dm}
theorem BBlk.range {g : Nat} {l : List Nat} (h : BBlk w g l) : w.rangeAt g 0 (cellsB l) := fun j v hv => by
  rw [Nat.zero_add, h.1.cell, List.getElem?_toArray]; exact hv
theorem BBlk.out {w' : World} {X : Nat → Prop} {g : Nat} {l : List Nat} (h : BBlk w g l) (ho : Out X w w') (hx : ¬ X g) : BBlk w' g l := ⟨ho.blo h.1 hx, h.2⟩
/-- A slice whose first 64 bytes are told, in a block of bytes of whatever length. -/
structure SBlk (w : World) (g : Nat) (l : List Nat) : Prop where
  blk : ∃ cs fr, w.heap[g]? = some (.cells cs U8 fr) ∧ ∀ j, j < 64 → cs[j]? = (cellsB l)[j]?
  len : l.length = 64
  byte : ∀ x ∈ l, x < 256
theorem BBlk.s {g : Nat} {l : List Nat} (h : BBlk w g l) : SBlk w g l := ⟨⟨_, (0, 0), h.1, fun j _ => by rw [List.getElem?_toArray]⟩, h.2.1, h.2.2⟩
theorem SBlk.range {g : Nat} {l : List Nat} (h : SBlk w g l) : w.rangeAt g 0 (cellsB l) := fun j v hv => by
  obtain ⟨cs, fr, h1, h2⟩ := h.blk
  have hj : j < 64 := by
    have := (List.getElem?_eq_some_iff.1 hv).1
    rw [cellsB_length, h.len] at this; exact this
  have hc : w.cell? ⟨g, j, none⟩ = cs[j]? := by simp [World.cell?, h1]
  rw [Nat.zero_add, hc, h2 j hj]; exact hv
theorem SBlk.out {w' : World} {X : Nat → Prop} {g : Nat} {l : List Nat} (h : SBlk w g l) (ho : Out X w w') (hx : ¬ X g) : SBlk w' g l := by
  obtain ⟨cs, fr, h1, h2⟩ := h.blk
  refine ⟨⟨cs, fr, (ho.block g ?_ hx).trans h1, h2⟩, h.len, h.byte⟩
  rcases Nat.lt_or_ge g w.heap.size with h' | h'
  · exact h'
  · rw [Array.getElem?_eq_none h'] at h1; cases h1
theorem typ_apart {w : World} {g g' : Nat} {cs cs' : Array Value} {t t' : TypeId} {fr : Nat × Nat} (h : w.heap[g]? = some (.cells cs t fr)) (h' : Blo w g' t' cs') (hne : t ≠ t') : g ≠ g' := by
  rintro rfl
  unfold Blo at h'
  rw [h] at h'
  injection h' with h'
  injection h' with _ ht
  exact hne ht
theorem SBlk.apart {g : Nat} {l : List Nat} (hb : SBlk w g l) (h : Dk C w L d) : ¬ L.has g := by
  obtain ⟨cs, fr, hg, _⟩ := hb.blk
  rintro (rfl | rfl | rfl | hq)
  · exact typ_apart hg h.top (by decide) rfl
  · obtain ⟨c2, k1, _⟩ := h.sure.blk; exact typ_apart hg k1 (by decide) rfl
  · obtain ⟨c2, k1, _⟩ := h.now.blk; exact typ_apart hg k1 (by decide) rfl
  · rcases id h.queue.2 with ⟨h1, _⟩ | ⟨g', c, cur, h1, _, h3, _⟩
    · rw [h1] at hq; cases hq
    · rw [h1] at hq
      have e : g' = g := by simpa [Value.ownBlock] using hq
      subst e
      exact typ_apart hg (show Blo w g' WRT cur from h3) (by decide) rfl
theorem info_wrt : ∃ i z, Tryd.prog.info? WRT = some i ∧ i.zero = some z ∧ i.size = 65 ∧ i.bytes = 72 ∧ z.cells.size = 65 := by
  have h1 : (Tryd.prog.info? WRT).map (fun i => (i.size, i.bytes)) = some (65, 72) := by kernel_rfl
  have h2 : (Tryd.prog.info? WRT).map (fun i => i.zero.map fun z => z.cells.size) = some (some 65) := by kernel_rfl
  cases hi : Tryd.prog.info? WRT with
  | none => rw [hi] at h1; cases h1
  | some i =>
    rw [hi] at h1 h2
    simp only [Option.map_some, Option.some.injEq, Prod.mk.injEq] at h1 h2
    cases hz : i.zero with
    | none => rw [hz] at h2; cases h2
    | some z =>
      rw [hz] at h2
      simp only [Option.map_some, Option.some.injEq] at h2
      exact ⟨i, z, rfl, hz, h1.1, h1.2, h2⟩
set_option maxHeartbeats 1000000 in
theorem write_low (k : Int) (a : Option Addr) (m cap : Nat) (hk : k < 0) (h : Dk C w L d) : Calls Tryd.prog 83 #[.pointer (some ⟨L.bd, 0, none⟩), .int .i64 k, .slice a m cap] w (CodeO C w L d 22) := by
  have H := Lib.hid h
  clear h
  go_enter Tryd.func83, Tryd.ntmps83
  go_wp2
  go_ret
  exact CodeO.stay H.out 22
set_option maxHeartbeats 1000000 in
theorem write_high (k : Int) (a : Option Addr) (m cap : Nat) (hk : (d.n : Int) ≤ k) (h : Dk C w L d) : Calls Tryd.prog 83 #[.pointer (some ⟨L.bd, 0, none⟩), .int .i64 k, .slice a m cap] w (CodeO C w L d 22) := by
  have H := Lib.hid h
  have t1 := h.top.cell 1
  have k0 : ¬ k < 0 := by omega
  simp at t1
  clear h
  go_enter Tryd.func83, Tryd.ntmps83
  go_wp2
  go_ret
  exact CodeO.stay H.out 22
set_option maxHeartbeats 1000000 in
theorem write_len (i : Nat) (a : Option Addr) (m cap : Nat) (hi : i < d.n) (hm : m ≠ 64) (hm2 : m ≤ 9223372036854775807) (h : Dk C w L d) : Calls Tryd.prog 83 #[.pointer (some ⟨L.bd, 0, none⟩), .int .i64 i, .slice a m cap] w (CodeO C w L d 22) := by
  have H := Lib.hid h
  have t1 := h.top.cell 1
  have k0 : (0 : Int) ≤ (i : Int) := by omega
  have k1 : (i : Int) < (d.n : Int) := by omega
  have k2 : ((m : Int) != 64) = true := by rw [bne_iff_ne]; omega
  simp at t1
  clear h
  go_enter Tryd.func83, Tryd.ntmps83
  go_wp2
  go_ret
  exact CodeO.stay H.out 22
set_option maxHeartbeats 1000000 in
theorem write_dead (i : Nat) (a : Option Addr) (cap : Nat) (hi : i < d.n) (hd : deadB d = true) (h : Dk C w L d) : Calls Tryd.prog 83 #[.pointer (some ⟨L.bd, 0, none⟩), .int .i64 i, .slice a 64 cap] w (CodeO C w L d 102) := by
  have H := Lib.hid h
  have HD := Lib.hid (dead_any h)
  rw [hd] at HD
  have t1 := h.top.cell 1
  have k0 : (0 : Int) ≤ (i : Int) := by omega
  have k1 : (i : Int) < (d.n : Int) := by omega
  simp at t1
  clear h hd
  go_enter Tryd.func83, Tryd.ntmps83
  go_wp2_with fail
  refine HD.out.mono ?_
  rintro e w' ⟨rfl, rfl⟩
  clear HD
  go_wp2
  go_ret
  exact CodeO.stay H.out 102
theorem Dk.putNow (h : Dk C w L d) {i : Nat} {l : List Nat} (hi : i < d.n) (hl : l.length = 64) (hb : ∀ x ∈ l, x < 256) : Dk C (w.setCells L.gn (i * 64) (cellsB l)) L { d with N := updB d.N i l } ∧ Out L.has w (w.setCells L.gn (i * 64) (cellsB l)) := by
  have ho : Out (fun j => j = L.gn) w (w.setCells L.gn (i * 64) (cellsB l)) := out_cells _ _ _ rfl
  refine ⟨⟨ho.blo h.top (fun e => h.bd_gn e), h.sure.out ho (fun e => h.ne e), h.now.put hi hl hb, ho.own h.queue (fun g hg e => h.q_gn (by rw [hg, e])), h.good, h.ne, h.low, h.few, h.stp, h.lft, h.len⟩, ho.mono (fun j _ e => .inr (.inr (.inl e)))⟩
theorem Dk.appended {w3 : World} {v : Value} {n : Nat} {p : Nat × List Nat} (h : Dk C w L d) (ho : w3.ownsRow C WRT 65 v (n + 1) (cellsW d.Q ++ wrtC p)) (hg : w.grownBy w3 L.qv.ownBlock) (hp : GoodW d.n p) (hn : n = d.Q.length) (hlt : d.Q.length < 1000000) :
    Dk C (w3.setCell ⟨L.bd, 2, none⟩ v) { L with qv := v } { d with Q := d.Q ++ [p] } ∧ Out L.has w (w3.setCell ⟨L.bd, 2, none⟩ v) := by
  have h1 : Out (fun j => L.qv.ownBlock = some j) w w3 := Out.of_grown hg (fun g e => e)
  have h2 : Out (fun j => j = L.bd) w3 (w3.setCell ⟨L.bd, 2, none⟩ v) := out_put w3 ⟨L.bd, 2, none⟩ v rfl
  have ht := h1.blo h.top (fun e => h.q_bd e)
  have hvb := own_type ho ht (by decide)
  subst hn
  refine ⟨⟨?_, (h.sure.out h1 (fun e => h.q_gs e)).out h2 (fun e => h.bd_gs e.symm), (h.now.out h1 (fun e => h.q_gn e)).out h2 (fun e => h.bd_gn e.symm), ?_, ?_, h.ne, h.low, h.few, h.stp, h.lft, by simp; omega⟩, ?_⟩
  · have := ht.put 2 v
    exact this
  · have := h2.own ho (fun g hg2 e => hvb (by rw [hg2, e]))
    rw [show (cellsW d.Q ++ wrtC p) = cellsW (d.Q ++ [p]) by rw [← cellsW_append, cellsW_one]] at this
    show World.ownsRow _ C WRT 65 v (d.Q ++ [p]).length (cellsW (d.Q ++ [p]))
    rw [List.length_append]
    exact this
  · intro q hq
    rcases List.mem_append.1 hq with hq | hq
    · exact h.good q hq
    · rw [List.mem_singleton.1 hq]; exact hp
  · exact (h1.mono (fun j _ e => Or.inr (Or.inr (Or.inr e)))).trans h2 (fun j _ e => Or.inl e)
theorem range_put {w : World} {b o : Nat} {cs : List Value} (h : w.rangeAt b o cs) (p : Addr) (u : Value) (hp : p.block ≠ b) : (w.setCell p u).rangeAt b o cs := fun j v hv => by
  rw [World.cell?_setCell_other _ _ _ _ (fun e => hp (by rw [e]))]
  exact h j v hv
theorem write_fin {w w2 wp w3 : World} {i : Nat} {l : List Nat} {g cap : Nat} (hO : Out L.has w w2) (hb : Below w2.heap.size w2 wp) (hD : Dk C wp L { stepD d with N := updB d.N i l })
    (ho : w3.ownsRow C WRT 65 (.slice (some ⟨g, 0, none⟩) (d.Q.length + 1) cap) (d.Q.length + 1) (cellsW d.Q ++ wrtC (i, l))) (hg : wp.grownBy w3 L.qv.ownBlock) (hp : GoodW d.n (i, l)) (hlt : d.Q.length < 1000000) (hat : L.qv.ownBlock = some g ∨ g = w2.heap.size + 1) :
    CodeO C w L (putD d i l) 0 (.returned (.int .i64 0)) (w3.setCell ⟨L.bd, 2, none⟩ (.slice (some ⟨g, 0, none⟩) (d.Q.length + 1) cap)) := by
  obtain ⟨h1, h2⟩ := hD.appended (n := d.Q.length) (p := (i, l)) ho hg hp rfl hlt
  refine ⟨rfl, _, h1, (hO.trans (Out.of_below hb) (fun _ _ h => h)).trans h2 (fun _ _ h => h), fun g2 e => ?_⟩
  have e2 : g = g2 := by simpa [Value.ownBlock] using e
  subst e2
  rcases hat with h | h
  · exact .inl h
  · have := hO.size; right; omega
structure AppF (C : Nat) (w3 : World) (L : Dl) (gb : Nat) (l : List Nat) : Prop where
  r : w3.rangeAt gb 0 (cellsB l)
  t : w3.cell? ⟨L.bd, 2, none⟩ = some L.qv
  f : w3.frozen? ⟨L.bd, 2, none⟩ = false
theorem appF {wp w3 : World} {gb : Nat} {l : List Nat} {d' : Dm} (hD : Dk C wp L d') (hB : SBlk wp gb l) (hG : ¬ L.has gb) (hg : wp.grownBy w3 L.qv.ownBlock) : AppF C w3 L gb l := by
  have h1 : Out (fun j => L.qv.ownBlock = some j) wp w3 := Out.of_grown hg (fun g e => e)
  have ht := h1.blo hD.top (fun e => hD.q_bd e)
  exact ⟨(hB.out h1 (fun e => hG (.inr (.inr (.inr e))))).range, by simpa using ht.cell 2, ht.frozen 2⟩
theorem wrt_bind : ∃ z, (Tryd.prog.info? WRT).bind (·.zero) = some z ∧ z.cells.size = 1 + 64 := by
  obtain ⟨i, z, h1, h2, h3, h4, h5⟩ := info_wrt
  exact ⟨z, by rw [h1]; exact h2, h5⟩
theorem run_build_wrt (w : World) (i : Int) (l : List Nat) (hl : l.length = 64) : (Instr.build WRT #[(0, .int .i64 i), (1, .agg (cellsB l).toArray)]).run Tryd.prog w = .ok (.agg (.int .i64 i :: cellsB l).toArray) w := by
  obtain ⟨z, h1, h2⟩ := wrt_bind
  exact run_build_two w WRT z _ _ _ 64 h1 Tryd.underlying125 (by kernel_rfl) rfl (by rw [cellsB_length]; exact hl) h2
theorem run_bslice_wrt (w : World) (i : Int) (l : List Nat) (hl : l.length = 64) : (Instr.buildSlice 119 1 #[(0, .agg (.int .i64 i :: cellsB l).toArray)]).run Tryd.prog w = .ok (.slice (some ⟨w.heap.size, 0, none⟩) 1 1) (w.alloc (.cells (.int .i64 i :: cellsB l).toArray WRT)) := by
  obtain ⟨ie, z, h1, h2, h3, h4, h5⟩ := info_wrt
  exact run_bslice_one w 119 WRT _ ie z Tryd.underlying119 h1 h2 (by rw [h3, List.length_cons, cellsB_length, hl]) (by simp) (by rw [List.length_cons, cellsB_length, hl]; decide)
theorem exec_build_wrt (ρ : Operand → Value) (x y : Operand) (i : Int) (l : List Nat) (hl : l.length = 64) (hx : ρ x = .int .i64 i) (hy : ρ y = .agg (cellsB l).toArray) (d : Option Tmp) (ty : TypeId) (pos : String) (af : Array Edge) (g : Option (Nat × Bool)) (w : World) :
    (execOp ρ ⟨d, .build WRT #[(0, x), (1, y)], ty, pos, af, g⟩).run Tryd.prog w = .ok (.value (.agg (.int .i64 i :: cellsB l).toArray)) w := by
  have := run_build_wrt w i l hl
  simp [execOp, hx, hy, this]
theorem step_bslice_wrt {ops : Array Oper} {o : Oper} {a : Act} {w : World} {K : Act → World → Prop} {Q : Exit → Act → World → Prop} {E : Prop} (hg : o.guard = none) (x : Operand) (ho : o.op = .buildSlice 119 1 #[(0, x)])
    (i : Int) (l : List Nat) (hl : l.length = 64) (hx : a.eval x = .agg (.int .i64 i :: cellsB l).toArray) (h : K (a.put o.dst (.slice (some ⟨w.heap.size, 0, none⟩) 1 1)) (w.alloc (.cells (.int .i64 i :: cellsB l).toArray WRT))) :
    if Region.wanted o (yielded ops a.tmps) = true then Oper.wp Tryd.prog o a w K Q else E := by
  rw [if_pos (by simp [Region.wanted, hg])]
  unfold Oper.wp
  have := run_bslice_wrt w i l hl
  simp [execOp, ho, hx, this]
  exact h
/-- Sixty-four bytes that are told, at a place of some block. -/
structure SBO (w : World) (g o : Nat) (l : List Nat) : Prop where
  range : w.rangeAt g o (cellsB l)
  lt : g < w.heap.size
  len : l.length = 64
  byte : ∀ x ∈ l, x < 256
theorem SBO.out {w' : World} {X : Nat → Prop} {g o : Nat} {l : List Nat} (h : SBO w g o l) (ho : Out X w w') (hx : ¬ X g) : SBO w' g o l :=
  ⟨fun j v hv => ho.cell (h.range j v hv) hx, Nat.lt_of_lt_of_le h.lt ho.size, h.len, h.byte⟩
theorem SBlk.lt {g : Nat} {l : List Nat} (h : SBlk w g l) : g < w.heap.size := by
  obtain ⟨cs, fr, h1, h2⟩ := h.blk
  rcases Nat.lt_or_ge g w.heap.size with h' | h'
  · exact h'
  · rw [Array.getElem?_eq_none h'] at h1; cases h1
theorem SBlk.so {g : Nat} {l : List Nat} (h : SBlk w g l) : SBO w g 0 l := ⟨h.range, h.lt, h.len, h.byte⟩
structure AppFO (C : Nat) (w3 : World) (L : Dl) (gb ob : Nat) (l : List Nat) : Prop where
  r : w3.rangeAt gb ob (cellsB l)
  t : w3.cell? ⟨L.bd, 2, none⟩ = some L.qv
  f : w3.frozen? ⟨L.bd, 2, none⟩ = false
theorem appFO {wp w3 : World} {gb ob : Nat} {l : List Nat} {d' : Dm} (hD : Dk C wp L d') (hB : SBO wp gb ob l) (hG : ¬ L.has gb) (hg : wp.grownBy w3 L.qv.ownBlock) : AppFO C w3 L gb ob l := by
  have h1 : Out (fun j => L.qv.ownBlock = some j) wp w3 := Out.of_grown hg (fun g e => e)
  have ht := h1.blo hD.top (fun e => hD.q_bd e)
  exact ⟨(hB.out h1 (fun e => hG (.inr (.inr (.inr e))))).range, by simpa using ht.cell 2, ht.frozen 2⟩
set_option maxRecDepth 100000 in
set_option maxHeartbeats 2000000 in
theorem write_slo (i gb ob cap : Nat) (l : List Nat) (hi : i < d.n) (hd : deadB d = false) (hl0 : 0 ≤ d.left) (hs : d.steps < 1000000) (hq : d.Q.length < 1000000) (hb : SBO w gb ob l) (hgb : ¬ L.has gb) (h : Dk C w L d) :
    Calls Tryd.prog 83 #[.pointer (some ⟨L.bd, 0, none⟩), .int .i64 i, .slice (some ⟨gb, ob, none⟩) 64 cap] w (CodeO C w L (putD d i l) 0) := by
  have H := Lib.hid h
  have HD := Lib.hid (dead_any h)
  rw [hd] at HD
  have HS := Lib.hid (dstep_any h hs hd hl0)
  have t1 := h.top.cell 1
  have k0 : (0 : Int) ≤ (i : Int) := by omega
  have k1 : (i : Int) < (d.n : Int) := by omega
  have hn := h.few.2
  simp at t1
  have HGb := Lib.hid hgb
  have HBk := Lib.hid hb
  have hlen := hb.len
  have hix : (Tryd.prog.info? BLK).map (·.size) = some (cellsB l).length := by rw [cellsB_length, hlen]; exact size_blk
  have HIx := Lib.hid hix
  have HQ := Lib.hid hq
  have HLen := Lib.hid hlen
  have harr : ∀ W : World, (Instr.arrayAt BLK (.slice (some ⟨gb, ob, none⟩) 64 cap)).run Tryd.prog W = .ok (.pointer (some ⟨gb, ob, none⟩)) W := fun W => run_arrayAt (P := Tryd.prog) (w := W) BLK _ 64 _ 64 cap Tryd.underlying123 (Nat.le_refl _)
  clear h hd hs hl0 hgb hb hlen hix hq
  go_enter Tryd.func83, Tryd.ntmps83
  go_wp2_with fail
  refine HD.out.mono ?_
  rintro e w' ⟨rfl, rfl⟩
  clear HD
  go_wp2_with fail
  refine HS.out.mono ?_
  rintro e w1 ⟨rfl, h1, ho1⟩
  have H1 := Lib.hid h1
  have HO1 := Lib.hid ho1
  have HB1 := Lib.hid (HBk.out.out ho1 HGb.out)
  have t1 := h1.top.cell 1
  have t2 := h1.top.cell 2
  have f2 := h1.top.frozen 2
  simp [stepD] at t1 t2
  clear h1 ho1 HS
  go_wp2_with fail
  have n1 : gb ≠ L.gn := fun e => HGb.out (.inr (.inr (.inl e)))
  have n2 : L.bd ≠ L.gn := H1.out.bd_gn
  have hu := Tryd.underlying123
  have hi2 := HIx.out
  have hl64 : (cellsB l).length = 64 := by rw [cellsB_length]; exact HLen.out
  have hone := cellsB_one l
  have hr1 := HB1.out.range
  have hr2 := H1.out.now.there hi
  have hr2 : w1.there L.gn (i * 64) 64 := hr2
  go_region_held3 (fun W => W.rangeAt gb ob (cellsB l) ∧ W.there L.gn (i * 64) 64 ∧ W.cell? ⟨L.bd, 1, none⟩ = some (.slice (some ⟨L.gn, 0, none⟩) d.n d.n)) ((go_split_ands; simp only [World.rangeAt_drew, World.there_drew, World.cell?_drew] at *; (repeat' constructor) <;> first | assumption | (apply World.there_setCells; assumption) | (refine World.rangeAt_setCells_apart (by assumption) _ _ _ (by omega)) | (rw [World.cell?_setCells_out _ _ _ _ _ (fun hh _ => absurd hh n2)]; assumption))) (fail)
  clear hr1 hr2 t1 n2 f2
  obtain ⟨hp1, hp2⟩ := (H1.out.later ((Below.refl _ _).drew)).putNow hi HLen.out HBk.out.byte
  have ho3 := ((Out.of_below (X := L.has) ((Below.refl w1.heap.size w1).drew)).trans hp2 (fun _ _ h => h))
  have H3 := Lib.hid hp1
  have HO3 := Lib.hid (HO1.out.trans ho3 (fun _ _ h => h))
  have HB3 := Lib.hid (HB1.out.out ho3 HGb.out)
  have t2 := H3.out.top.cell 2
  have f2 := H3.out.top.frozen 2
  simp at t2
  clear hp1 hp2 ho3 H1
  generalize w1.drew.setCells L.gn (i * 64) (cellsB l) = w2 at *
  have hr1 := HB3.out.range
  have hl64' := HLen.out
  obtain ⟨wi, wz, wi1, wi2, wi3, wi4, wi5⟩ := info_wrt
  have HI1 := Lib.hid wi1
  have HI2 := Lib.hid wi2
  have HI3 := Lib.hid wi3
  have HI4 := Lib.hid wi4
  have HI5 := Lib.hid wi5
  clear wi1 wi2 wi3 wi4 wi5 HB1 HO1
  have hKeep : ∀ W o, Below w2.heap.size w2 W → Dk C (W.alloc o) L _ := fun W o hb => H3.out.later (hb.alloc hb.size o)
  have HKeep := Lib.hid hKeep
  clear hKeep
  go_wp2_with fail
  have hlen64 : l.length = 64 := hl64'
  have HN2 : Hid (L.bd ≠ gb) := fun e => HGb.out (.inl e.symm)
  have t2b : ∀ o, (w2.alloc o).cell? ⟨L.bd, 2, none⟩ = some L.qv := fun o => by have := (HKeep.out _ o (Below.refl _ _)).top.cell 2; simpa using this
  refine wp_region_held_drew (S := fun W => W.rangeAt gb ob (cellsB l)) (by kernel_rfl) ((World.rangeAt_drew _ _ _ _).2 hr1) (fun hHeld => ?_)
  refine wpAnyH_take (i := 0) (oi := ⟨some 36, _, _, _, _, _⟩) (v := ?_) rfl (by kernel_rfl) (by kernel_rfl) (by kernel_rfl) (fun _ _ _ h => h) (Or.inl ⟨by rfl, fun W hW => ?_⟩) (by assumption) ?_
  rotate_left
  · skip; go_simp; try with_reducible rfl
  simp only [Act.put, List.setIfInBounds_toArray, List.set_cons_zero, List.set_cons_succ]
  refine wpAnyH_take (i := 1) (oi := ⟨some 37, _, _, _, _, _⟩) (v := ?_) rfl (by kernel_rfl) (by kernel_rfl) (by kernel_rfl) (fun _ _ _ h => h) (Or.inl ⟨by rfl, fun W hW => ?_⟩) (by assumption) ?_
  rotate_left
  · skip; go_simp; try with_reducible rfl
  simp only [Act.put, List.setIfInBounds_toArray, List.set_cons_zero, List.set_cons_succ]
  refine wpAnyH_take (i := 2) (oi := ⟨some 38, _, _, _, _, _⟩) (v := ?_) rfl (by kernel_rfl) (by kernel_rfl) (by kernel_rfl) (fun _ _ _ h => h) (Or.inl ⟨by rfl, fun W hW => ?_⟩) (by assumption) ?_
  rotate_left
  · skip; go_simp; try with_reducible rfl
  simp only [Act.put, List.setIfInBounds_toArray, List.set_cons_zero, List.set_cons_succ]
  refine wpAnyH_take (i := 3) (oi := ⟨some 39, _, _, _, _, _⟩) (v := ?_) rfl (by kernel_rfl) (by kernel_rfl) (by kernel_rfl) (fun _ _ _ h => h) (Or.inl ⟨by rfl, fun W hW => ?_⟩) (by assumption) ?_
  rotate_left
  · skip; go_simp; try with_reducible rfl
  simp only [Act.put, List.setIfInBounds_toArray, List.set_cons_zero, List.set_cons_succ]
  refine wpAnyH_take (i := 5) (oi := ⟨some 41, _, _, _, _, _⟩) (v := ?_) rfl (by kernel_rfl) (by kernel_rfl) (by kernel_rfl) (fun _ _ _ h => h) (Or.inl ⟨by rfl, fun W hW => ?_⟩) (by assumption) ?_
  rotate_left
  · skip; go_simp; try with_reducible rfl
  simp only [Act.put, List.setIfInBounds_toArray, List.set_cons_zero, List.set_cons_succ]
  refine wpAnyH_take (i := 6) (oi := ⟨some 42, _, _, _, _, _⟩) (v := ?_) rfl (by kernel_rfl) (by kernel_rfl) (by kernel_rfl) (fun _ _ _ h => h) (Or.inl ⟨by rfl, fun W hW => ?_⟩) (by assumption) ?_
  rotate_left
  · skip; go_simp; try with_reducible rfl
  simp only [Act.put, List.setIfInBounds_toArray, List.set_cons_zero, List.set_cons_succ]
  refine wpAnyH_take (i := 7) (oi := ⟨some 43, _, _, _, _, _⟩) (v := ?_) rfl (by kernel_rfl) (by kernel_rfl) (by kernel_rfl) (fun _ _ _ h => h) (Or.inl ⟨by rfl, fun W hW => ?_⟩) (by assumption) ?_
  rotate_left
  · skip; go_simp; try with_reducible rfl
  simp only [Act.put, List.setIfInBounds_toArray, List.set_cons_zero, List.set_cons_succ]
  refine wpAnyH_take (i := 8) (oi := ⟨some 44, _, _, _, _, _⟩) rfl (by kernel_rfl) (by kernel_rfl) (by kernel_rfl) (fun _ _ _ h => h) (yieldsIf_load_mid (by rfl) _ _ rfl _ _ (by simp [go_sem]) _ _ (fun W hW => hW) Tryd.underlying123 rfl hi2) (by assumption) ?_
  simp only [Act.put, List.setIfInBounds_toArray, List.set_cons_zero, List.set_cons_succ]
  refine wpAnyH_take (i := 9) (oi := ⟨some 45, _, _, _, _, _⟩) (v := ?_) rfl (by kernel_rfl) (by kernel_rfl) (by kernel_rfl) (fun _ _ _ h => h) (Or.inl ⟨by rfl, fun W hW => ?_⟩) (by assumption) ?_
  rotate_left
  · (refine exec_build_wrt _ _ _ (i : Int) l hl64' ?_ ?_ _ _ _ _ _ _) <;> (first | rfl | simp [Act.eval])
  simp only [Act.put, List.setIfInBounds_toArray, List.set_cons_zero, List.set_cons_succ]
  refine wpAnyH_ready (rs := [4, 10]) (by kernel_rfl) (by simp) ?_
  refine AllReadyH.cons (o := ⟨some 40, _, _, _, _, _⟩) rfl (fun K hK => ?_) ?_
  · go_simp
    refine hK.out _ _ (by assumption) (fun hHeld => ?_)
    clear hK K
    try simp only [Act.put, List.setIfInBounds_toArray, List.set_cons_zero, List.set_cons_succ]
    refine wpAnyH_ready (rs := [10]) (by kernel_rfl) (by simp) ?_
    refine AllReadyH.cons (o := ⟨some 46, _, _, _, _, _⟩) rfl (fun K hK => ?_) AllReadyH.nil
    refine step_bslice_wrt (by rfl) _ (by rfl) (i : Int) l hl64' (by first | rfl | simp [go_sem]) ?_
    refine hK.out _ _ (World.rangeAt_alloc hHeld _) (fun hHeld => ?_)
    clear hK K
    try simp only [Act.put, List.setIfInBounds_toArray, List.set_cons_zero, List.set_cons_succ]
    refine wpAnyH_ready (rs := [11]) (by kernel_rfl) (by simp) ?_
    refine AllReadyH.cons (o := ⟨some 47, _, _, _, _, _⟩) rfl (fun K hK => ?_) AllReadyH.nil
    refine step_append_lies _ (by rfl) (.tmp 40) (.tmp 46) 119 (by rfl) C WRT wi wz 65 72 Tryd.underlying119 HI1.out HI2.out HI3.out HI4.out HI5.out (by decide) L.qv d.Q.length (cellsW d.Q) (by simp [go_sem]) (HKeep.out _ _ ((Below.refl _ _).drew)).queue ⟨w2.heap.size, 0, none⟩ 1 1 (wrtC (i, l)) (by simp [go_sem]) (wrtC_length ⟨hi, hlen64, HBk.out.byte⟩) (World.news_of_block (cs := (wrtC (i, l)).toArray) (t := WRT) (fr := (0, 0)) (heap_alloc_new w2.drew _)) (wrtC_one _) (by decide) (by have := HQ.out; unfold maxLen; omega) (by have := HQ.out; omega) (by have := H3.out.low.1; have := H3.out.top.lt; simp; omega) (w2.heap.size + 1) (by simp) ?_
    intro g1 cap1 w3 hown hgrow hat hlt1
    have HW := HKeep.out w2.drew (.cells (.int .i64 i :: cellsB l).toArray WRT) ((Below.refl _ _).drew)
    have hbw := (show Below w2.heap.size w2 (w2.drew.alloc (.cells (.int .i64 i :: cellsB l).toArray WRT)) from ((Below.refl w2.heap.size w2).drew).alloc (Nat.le_refl _) _)
    have hAF := appFO HW (HB3.out.out (X := fun _ => False) (Out.of_below hbw) (fun h => h)) HGb.out hgrow
    have HF := Lib.hid (write_fin HO3.out hbw HW hown hgrow ⟨hi, hlen64, HBk.out.byte⟩ HQ.out hat)
    have HR3 := Lib.hid hAF.r
    have t2c := hAF.t
    have f2c := hAF.f
    clear hown hgrow hat hlt1 HW hbw hAF
    refine hK.out _ _ HR3.out (fun hHeld => ?_)
    clear hK K
    try simp only [Act.put, List.setIfInBounds_toArray, List.set_cons_zero, List.set_cons_succ]
    refine wpAnyH_take (i := 12) (oi := ⟨some 48, _, _, _, _, _⟩) (v := ?_) rfl (by kernel_rfl) (by kernel_rfl) (by kernel_rfl) (fun _ _ _ h => h) (Or.inl ⟨by rfl, fun W hW => ?_⟩) (by assumption) ?_
    rotate_left
    · skip; go_simp; try with_reducible rfl
    simp only [Act.put, List.setIfInBounds_toArray, List.set_cons_zero, List.set_cons_succ]
    refine wpAnyH_take (i := 13) (oi := ⟨some 49, _, _, _, _, _⟩) (v := ?_) rfl (by kernel_rfl) (by kernel_rfl) (by kernel_rfl) (fun _ _ _ h => h) (Or.inl ⟨by rfl, fun W hW => ?_⟩) (by assumption) ?_
    rotate_left
    · skip; go_simp; try with_reducible rfl
    simp only [Act.put, List.setIfInBounds_toArray, List.set_cons_zero, List.set_cons_succ]
    refine wpAnyH_ready (rs := [14]) (by kernel_rfl) (by simp) ?_
    refine AllReadyH.cons (o := ⟨none, _, _, _, _, _⟩) rfl (fun K hK => ?_) AllReadyH.nil
    go_simp
    refine hK.out _ _ (range_put HR3.out _ _ HN2.out) (fun hHeld => ?_)
    clear hK K
    try simp only [Act.put, List.setIfInBounds_toArray, List.set_cons_zero, List.set_cons_succ]
    refine wpAnyH_done (by kernel_rfl) ?_ _
    clear t2c f2c
    go_wp2
    go_ret
    exact HF.out
  refine AllReadyH.cons (o := ⟨some 46, _, _, _, _, _⟩) rfl (fun K hK => ?_) AllReadyH.nil
  refine step_bslice_wrt (by rfl) _ (by rfl) (i : Int) l hl64' (by first | rfl | simp [go_sem]) ?_
  refine hK.out _ _ (World.rangeAt_alloc hHeld _) (fun hHeld => ?_)
  clear hK K
  try simp only [Act.put, List.setIfInBounds_toArray, List.set_cons_zero, List.set_cons_succ]
  refine wpAnyH_ready (rs := [4]) (by kernel_rfl) (by simp) ?_
  refine AllReadyH.cons (o := ⟨some 40, _, _, _, _, _⟩) rfl (fun K hK => ?_) AllReadyH.nil
  go_simp
  refine hK.out _ _ (by assumption) (fun hHeld => ?_)
  clear hK K
  try simp only [Act.put, List.setIfInBounds_toArray, List.set_cons_zero, List.set_cons_succ]
  refine wpAnyH_ready (rs := [11]) (by kernel_rfl) (by simp) ?_
  refine AllReadyH.cons (o := ⟨some 47, _, _, _, _, _⟩) rfl (fun K hK => ?_) AllReadyH.nil
  refine step_append_lies _ (by rfl) (.tmp 40) (.tmp 46) 119 (by rfl) C WRT wi wz 65 72 Tryd.underlying119 HI1.out HI2.out HI3.out HI4.out HI5.out (by decide) L.qv d.Q.length (cellsW d.Q) (by simp [go_sem]) (HKeep.out _ _ ((Below.refl _ _).drew)).queue ⟨w2.heap.size, 0, none⟩ 1 1 (wrtC (i, l)) (by simp [go_sem]) (wrtC_length ⟨hi, hlen64, HBk.out.byte⟩) (World.news_of_block (cs := (wrtC (i, l)).toArray) (t := WRT) (fr := (0, 0)) (heap_alloc_new w2.drew _)) (wrtC_one _) (by decide) (by have := HQ.out; unfold maxLen; omega) (by have := HQ.out; omega) (by have := H3.out.low.1; have := H3.out.top.lt; simp; omega) (w2.heap.size + 1) (by simp) ?_
  intro g1 cap1 w3 hown hgrow hat hlt1
  have HW := (HKeep.out w2 (.cells (.int .i64 i :: cellsB l).toArray WRT) (Below.refl _ _)).later ((Below.refl _ _).drew)
  have hbw := (show Below w2.heap.size w2 (w2.alloc (.cells (.int .i64 i :: cellsB l).toArray WRT)).drew from ((Below.refl w2.heap.size w2).alloc (Nat.le_refl _) _).drew)
  have hAF := appFO HW (HB3.out.out (X := fun _ => False) (Out.of_below hbw) (fun h => h)) HGb.out hgrow
  have HF := Lib.hid (write_fin HO3.out hbw HW hown hgrow ⟨hi, hlen64, HBk.out.byte⟩ HQ.out hat)
  have HR3 := Lib.hid hAF.r
  have t2c := hAF.t
  have f2c := hAF.f
  clear hown hgrow hat hlt1 HW hbw hAF
  refine hK.out _ _ HR3.out (fun hHeld => ?_)
  clear hK K
  try simp only [Act.put, List.setIfInBounds_toArray, List.set_cons_zero, List.set_cons_succ]
  refine wpAnyH_take (i := 12) (oi := ⟨some 48, _, _, _, _, _⟩) (v := ?_) rfl (by kernel_rfl) (by kernel_rfl) (by kernel_rfl) (fun _ _ _ h => h) (Or.inl ⟨by rfl, fun W hW => ?_⟩) (by assumption) ?_
  rotate_left
  · skip; go_simp; try with_reducible rfl
  simp only [Act.put, List.setIfInBounds_toArray, List.set_cons_zero, List.set_cons_succ]
  refine wpAnyH_take (i := 13) (oi := ⟨some 49, _, _, _, _, _⟩) (v := ?_) rfl (by kernel_rfl) (by kernel_rfl) (by kernel_rfl) (fun _ _ _ h => h) (Or.inl ⟨by rfl, fun W hW => ?_⟩) (by assumption) ?_
  rotate_left
  · skip; go_simp; try with_reducible rfl
  simp only [Act.put, List.setIfInBounds_toArray, List.set_cons_zero, List.set_cons_succ]
  refine wpAnyH_ready (rs := [14]) (by kernel_rfl) (by simp) ?_
  refine AllReadyH.cons (o := ⟨none, _, _, _, _, _⟩) rfl (fun K hK => ?_) AllReadyH.nil
  go_simp
  refine hK.out _ _ (range_put HR3.out _ _ HN2.out) (fun hHeld => ?_)
  clear hK K
  try simp only [Act.put, List.setIfInBounds_toArray, List.set_cons_zero, List.set_cons_succ]
  refine wpAnyH_done (by kernel_rfl) ?_ _
  clear t2c f2c
  go_wp2
  go_ret
  exact HF.out
theorem write_sl (i gb cap : Nat) (l : List Nat) (hi : i < d.n) (hd : deadB d = false) (hl0 : 0 ≤ d.left) (hs : d.steps < 1000000) (hq : d.Q.length < 1000000) (hb : SBlk w gb l) (h : Dk C w L d) :
    Calls Tryd.prog 83 #[.pointer (some ⟨L.bd, 0, none⟩), .int .i64 i, .slice (some ⟨gb, 0, none⟩) 64 cap] w (CodeO C w L (putD d i l) 0) :=
  write_slo i gb 0 cap l hi hd hl0 hs hq hb.so (hb.apart h) h
theorem write_yes (i gb cap : Nat) (l : List Nat) (hi : i < d.n) (hd : deadB d = false) (hl0 : 0 ≤ d.left) (hs : d.steps < 1000000) (hq : d.Q.length < 1000000) (hb : BBlk w gb l) (h : Dk C w L d) :
    Calls Tryd.prog 83 #[.pointer (some ⟨L.bd, 0, none⟩), .int .i64 i, .slice (some ⟨gb, 0, none⟩) 64 cap] w (CodeO C w L (putD d i l) 0) :=
  write_sl i gb cap l hi hd hl0 hs hq hb.s h
end
end Go.Proofs.YtlkgaefabahkoaaDoor
