/-
  The inode map in memory: its slots told by three functions of the place, and the map of what is dirty.
-/
import Derived.Test.YtbacfbdeeogkgaaMem
import Derived.Test.YtbacfbdeeogkgaaRows
import Derived.Maps.OwnSet
import Derived.Lib.MinMax
namespace Go.Proofs.Ytbacfbdeeogkgaa
open Go.RowKit Go.Maps

abbrev MP := 79
abbrev SL := 83
theorem mapLaw : Keyed Try.prog 3 := int_keyed Try.underlying3
abbrev OwnU (w : World) (g n : Nat) (D : DataW Nat) : Prop := w.ownsMap Try.prog 3 (unitElem (H := Nat)) g n D
theorem sup_im (w : World) (o : Obj) : Below w.heap.size w (w.alloc o) := (Below.refl _ _).alloc (Nat.le_refl _) o
def upd {α : Type} (f : Nat → α) (i : Nat) (x : α) : Nat → α := fun j => if j = i then x else f j
theorem upd_at {α : Type} (f : Nat → α) (i : Nat) (x : α) : upd f i x i = x := if_pos rfl
theorem upd_ne {α : Type} (f : Nat → α) (i : Nat) (x : α) {j : Nat} (h : j ≠ i) : upd f i x j = f j := if_neg h
structure Im (w : World) (bm gs gd n N : Nat) (A V : Nat → Int) (B : Nat → Bool) : Prop where
  top : Blo w bm MP #[.slice (some ⟨gs, 0, none⟩) n n, .map (some gd)]
  sl : ∃ cs, Blo w gs SL cs ∧ ∀ i, i < n → cs[i * 3]? = some (.int .i64 (A i)) ∧ cs[i * 3 + 1]? = some (.int .i64 (V i)) ∧ cs[i * 3 + 2]? = some (.bool (B i))
  dm : ∃ D, OwnU w gd N D
  apart : bm ≠ gs ∧ gd ≠ bm ∧ gd ≠ gs
/-- All blocks but one are as they were. -/
def Fr1 (g : Nat) (w w' : World) : Prop := ∀ (b : Nat) (t : TypeId) (cs : Array Value), b ≠ g → Blo w b t cs → Blo w' b t cs
theorem Fr1.trans {g : Nat} {w w1 w2 : World} (h : Fr1 g w w1) (h' : Fr1 g w1 w2) : Fr1 g w w2 := fun b t cs h1 hx => h' b t cs h1 (h b t cs h1 hx)
theorem fr1_below {g : Nat} {w w' : World} (h : Below w.heap.size w w') : Fr1 g w w' := fun _ _ _ _ hx => hx.later h
theorem own_uLater {w w' : World} {g n : Nat} {D : DataW Nat} (h : OwnU w g n D) (hb : Below w.heap.size w w') : OwnU w' g n D := World.ownsMap.kept (row := none) h (grown_of_below hb none) (by simp)
theorem blo_ne_map {w : World} {b g n : Nat} {t : TypeId} {cs : Array Value} {D : DataW Nat} (h : Blo w b t cs) (hm : OwnU w g n D) : b ≠ g := by
  rintro rfl
  obtain ⟨es, clock, hb, _⟩ := hm
  unfold Blo at h
  rw [h] at hb
  cases hb
section
variable {w w' : World} {bm gs gd n N i : Nat} {A V : Nat → Int} {B : Nat → Bool}
theorem Im.later (h : Im w bm gs gd n N A V B) (hb : Below w.heap.size w w') : Im w' bm gs gd n N A V B := by
  obtain ⟨h1, ⟨cs, h2, h3⟩, ⟨D, h4⟩, h5⟩ := h
  exact ⟨h1.later hb, ⟨cs, h2.later hb, h3⟩, ⟨D, own_uLater h4 hb⟩, h5⟩
theorem Im.lt (h : Im w bm gs gd n N A V B) : bm < w.heap.size ∧ gs < w.heap.size ∧ gd < w.heap.size := by
  obtain ⟨h1, ⟨cs, h2, h3⟩, ⟨D, h4⟩, h5⟩ := h
  exact ⟨h1.lt, h2.lt, h4.lt⟩
theorem Im.cell (h : Im w bm gs gd n N A V B) (hi : i < n) : w.cell? ⟨gs, i * 3, none⟩ = some (.int .i64 (A i)) ∧ w.cell? ⟨gs, i * 3 + 1, none⟩ = some (.int .i64 (V i)) ∧ w.cell? ⟨gs, i * 3 + 2, none⟩ = some (.bool (B i)) := by
  obtain ⟨h1, ⟨cs, h2, h3⟩, h4, h5⟩ := h
  exact ⟨(h2.cell _).trans (h3 i hi).1, (h2.cell _).trans (h3 i hi).2.1, (h2.cell _).trans (h3 i hi).2.2⟩
theorem Im.frozen (h : Im w bm gs gd n N A V B) (j : Nat) : w.frozen? ⟨gs, j, none⟩ = false := by
  obtain ⟨h1, ⟨cs, h2, h3⟩, h4, h5⟩ := h
  exact h2.frozen j
theorem Im.far (h : Im w bm gs gd n N A V B) {p : Addr} (h1 : bm ≠ p.block) (h2 : gs ≠ p.block) (h3 : gd ≠ p.block) (u : Value) : Im (w.setCell p u) bm gs gd n N A V B := by
  obtain ⟨q1, ⟨cs, q2, q3⟩, ⟨D, q4⟩, q5⟩ := h
  exact ⟨q1.far h1 u, ⟨cs, q2.far h2 u, q3⟩, ⟨D, q4.setCell h3 u⟩, q5⟩
theorem Im.busy (h : Im w bm gs gd n N A V B) (hi : i < n) (b : Bool) : Im (w.setCell ⟨gs, i * 3 + 2, none⟩ (.bool b)) bm gs gd n N A V (upd B i b) := by
  obtain ⟨q1, ⟨cs, q2, q3⟩, ⟨D, q4⟩, q5⟩ := h
  refine ⟨q1.far q5.1 _, ⟨_, q2.put (i * 3 + 2) (.bool b), fun j hj => ?_⟩, ⟨D, q4.setCell q5.2.2 _⟩, q5⟩
  have hs : i * 3 + 2 < cs.size := by
    rcases Nat.lt_or_ge (i * 3 + 2) cs.size with q | q
    · exact q
    · have := (q3 i hi).2.2
      rw [Array.getElem?_eq_none q] at this; cases this
  obtain ⟨a, v, c⟩ := q3 j hj
  refine ⟨?_, ?_, ?_⟩
  · rw [Array.getElem?_setIfInBounds, if_neg (by omega)]; exact a
  · rw [Array.getElem?_setIfInBounds, if_neg (by omega)]; exact v
  · rw [Array.getElem?_setIfInBounds]
    by_cases e : j = i
    · subst e; rw [if_pos rfl, if_pos hs, upd_at]
    · rw [if_neg (by omega), upd_ne _ _ _ e]; exact c
theorem Im.ints (h : Im w bm gs gd n N A V B) (hi : i < n) (a v : Int) : Im ((w.setCell ⟨gs, i * 3, none⟩ (.int .i64 a)).setCell ⟨gs, i * 3 + 1, none⟩ (.int .i64 v)) bm gs gd n N (upd A i a) (upd V i v) B := by
  obtain ⟨q1, ⟨cs, q2, q3⟩, ⟨D, q4⟩, q5⟩ := h
  refine ⟨(q1.far q5.1 _).far q5.1 _, ⟨_, (q2.put (i * 3) (.int .i64 a)).put (i * 3 + 1) (.int .i64 v), fun j hj => ?_⟩, ⟨D, (q4.setCell (a := ⟨gs, i * 3, none⟩) q5.2.2 _).setCell q5.2.2 _⟩, q5⟩
  have hs : i * 3 + 2 < cs.size := by
    rcases Nat.lt_or_ge (i * 3 + 2) cs.size with q | q
    · exact q
    · have := (q3 i hi).2.2
      rw [Array.getElem?_eq_none q] at this; cases this
  obtain ⟨a', v', c⟩ := q3 j hj
  refine ⟨?_, ?_, ?_⟩
  · rw [Array.getElem?_setIfInBounds, if_neg (by omega), Array.getElem?_setIfInBounds]
    by_cases e : j = i
    · subst e; rw [if_pos rfl, if_pos (by omega), upd_at]
    · rw [if_neg (by omega), upd_ne _ _ _ e]; exact a'
  · rw [Array.getElem?_setIfInBounds]
    by_cases e : j = i
    · subst e; rw [if_pos rfl, if_pos (by simp; omega), upd_at]
    · rw [if_neg (by omega), Array.getElem?_setIfInBounds, if_neg (by omega), upd_ne _ _ _ e]; exact v'
  · rw [Array.getElem?_setIfInBounds, if_neg (by omega), Array.getElem?_setIfInBounds, if_neg (by omega)]; exact c
end
theorem info_sl : (Try.prog.info? 83).map (fun i => (i.zero, i.size, i.bytes)) = some (some (.agg #[.int .i64 0, .int .i64 0, .bool false]), 3, 24) := by kernel_rfl
theorem run_make_sl (w : World) (n : Nat) (hn : n ≤ 1000) :
    ∃ cs, (Instr.makeSlice 76 (.int .i64 n) (.int .i64 n)).run Try.prog w = .ok (.slice (some ⟨w.heap.size, 0, none⟩) n n) (w.alloc (.cells cs SL)) ∧ ∀ i, i < n → cs[i * 3]? = some (.int .i64 0) ∧ cs[i * 3 + 1]? = some (.int .i64 0) ∧ cs[i * 3 + 2]? = some (.bool false) := by
  obtain ⟨i, hi0, hz, hs1, hb1⟩ := info_parts info_sl
  have hr := run_make (P := Try.prog) w 76 SL i (.agg #[.int .i64 0, .int .i64 0, .bool false]) Try.underlying76 hi0 hz .i64 .i64 n n (by omega) (Int.le_refl _) (by rw [hb1]; omega) (by omega)
  simp only [Int.toNat_natCast] at hr
  refine ⟨_, hr, fun j hj => ?_⟩
  rw [hs1]
  have e : (Value.agg #[.int .i64 0, .int .i64 0, .bool false]).cells = #[.int .i64 0, .int .i64 0, .bool false] := by kernel_rfl
  rw [e]
  have m0 : (j * 3) % 3 = 0 := by omega
  have m1 : (j * 3 + 1) % 3 = 1 := by omega
  have m2 : (j * 3 + 2) % 3 = 2 := by omega
  refine ⟨?_, ?_, ?_⟩
  · simp [madeCells, show j * 3 < n * 3 by omega, m0]
  · simp [madeCells, show j * 3 + 1 < n * 3 by omega, m1]
  · simp [madeCells, show j * 3 + 2 < n * 3 by omega, m2]
end Go.Proofs.Ytbacfbdeeogkgaa
