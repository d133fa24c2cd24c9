/-
  The document's table of segments in memory, and its copy.
-/
import Derived.Test.YtfilbbiiiaodiaaUsCall
import Derived.Test.YtfilbbiiiaodiaaKit
namespace Go.Proofs.Ytfilbbiiiaodiaa
open Go.RowKit

abbrev RTB := 30
abbrev RIN := 69
theorem info_rin : (Try.prog.info? 69).map (fun i => (i.zero, i.size, i.bytes)) = some (some (.agg #[.int .i64 0, .int .i64 0, .int .i64 0]), 3, 24) := by kernel_rfl
/-- A row whose first 3 n cells are these numbers. -/
structure RT (w : World) (g n : Nat) (F : List Int) : Prop where
  blk : ∃ cur, Blo w g RIN cur ∧ ∀ j, j < 3 * n → cur[j]? = some (.int .i64 (F.getD j 0))
  len : F.length = 3 * n
abbrev rv (g n cap : Nat) (size hand : Int) : Value := .agg #[.slice (some ⟨g, 0, none⟩) n cap, .int .i64 size, .int .i64 hand]
def set3 (F : List Int) (s : Nat) (L S A : Int) : List Int := ((F.set (s * 3) L).set (s * 3 + 1) S).set (s * 3 + 2) A
section
variable {w w' : World} {g n cap : Nat} {F : List Int}
theorem RT.later (h : RT w g n F) (hb : Below w.heap.size w w') : RT w' g n F := by
  obtain ⟨⟨cur, h1, h2⟩, h3⟩ := h
  exact ⟨⟨cur, h1.later hb, h2⟩, h3⟩
theorem RT.lt (h : RT w g n F) : g < w.heap.size := by
  obtain ⟨⟨cur, h1, h2⟩, h3⟩ := h
  exact h1.lt
theorem RT.cell (h : RT w g n F) (j : Nat) (hj : j < 3 * n) : w.cell? ⟨g, j, none⟩ = some (.int .i64 (F.getD j 0)) := by
  obtain ⟨⟨cur, h1, h2⟩, h3⟩ := h
  rw [h1.cell j]
  exact h2 j hj
theorem RT.frozen (h : RT w g n F) (j : Nat) : w.frozen? ⟨g, j, none⟩ = false := by
  obtain ⟨⟨cur, h1, h2⟩, h3⟩ := h
  exact h1.frozen j
theorem RT.far (h : RT w g n F) {p : Addr} (hp : g ≠ p.block) (u : Value) : RT (w.setCell p u) g n F := by
  obtain ⟨⟨cur, h1, h2⟩, h3⟩ := h
  exact ⟨⟨cur, h1.far hp u, h2⟩, h3⟩
theorem RT.put (h : RT w g n F) (j : Nat) (v : Int) (hj : j < 3 * n) : RT (w.setCell ⟨g, j, none⟩ (.int .i64 v)) g n (F.set j v) := by
  obtain ⟨⟨cur, h1, h2⟩, h3⟩ := h
  refine ⟨⟨_, h1.put j (.int .i64 v), fun i hi => ?_⟩, by rw [List.length_set]; exact h3⟩
  rw [getD_set _ _ _ _ (by omega)]
  have hji := h2 j hj
  have hjs : j < cur.size := by
    rcases Nat.lt_or_ge j cur.size with q | q
    · exact q
    · rw [Array.getElem?_eq_none q] at hji; cases hji
  rw [Array.getElem?_setIfInBounds]
  by_cases e : j = i
  · rw [if_pos e, if_pos hjs, if_pos e]
  · rw [if_neg e, if_neg e]
    exact h2 i hi
end
/-- 'append([]Info{}, t.L...)'. -/
theorem wp_copy_tab {w0 : World} {ops : Array Oper} {rest : List Oper} {o : Oper} {act : Act} {Q : Exit → Act → World → Prop} (hgd : o.guard = none) (s x : Operand)
    (ho : o.op = .call { callee := .builtin .append, args := #[s, x], argTypes := #[28, 28] })
    {b0 : Nat} (hs : act.eval s = .slice (some ⟨b0, 0, none⟩) 0 0) (hb : b0 = w0.heap.size) {g n cap : Nat} {F : List Int} (hx : act.eval x = .slice (some ⟨g, 0, none⟩) n cap) (hR : RT w0 g n F) (h1 : 1 ≤ n) (hn : n ≤ 512)
    (h : ∀ g' cap' w', RT w' g' n F → w0.heap.size ≤ g' → n ≤ cap' → Below w0.heap.size w0 w' → wpList Try.prog ops Q rest (act.put o.dst (.slice (some ⟨g', 0, none⟩) n cap')) w') : wpList Try.prog ops Q (o :: rest) act (w0.alloc (.cells #[] RIN)) := by
  subst hb
  obtain ⟨i, hi0, hz, hs1, hb1⟩ := info_parts info_rin
  have hF := hR.len
  have hb0 : Below w0.heap.size w0 (w0.alloc (.cells #[] RIN)) := (Below.refl _ _).alloc (Nat.le_refl _) _
  have hR' := hR.later hb0
  refine wpList_append_own (P := Try.prog) (w0.alloc (.cells #[] RIN)) hgd s x 28 ho w0.heap.size RIN i (.agg #[.int .i64 0, .int .i64 0, .int .i64 0]) 3 24 Try.underlying28 hi0 hz hs1 hb1 rfl (by decide) _ 0 [] hs
    (World.ownsRow_lit w0 #[] 0 (Nat.le_refl _) (by unfold maxLen; omega) rfl) ⟨g, 0, none⟩ n cap (cellsI F) hx (by rw [cellsI_length, hF]; omega) ?_ ?_ (by unfold maxLen; omega) (by omega) (by simp) ?_
  · intro j u hj
    have hjl : j < F.length := by
      rcases Nat.lt_or_ge j F.length with h | h
      · exact h
      · rw [List.getElem?_eq_none (by rw [cellsI_length]; exact h)] at hj; cases hj
    rw [cellsI_get F j hjl] at hj
    cases hj
    rw [Addr.add_lit, Nat.zero_add]
    exact hR'.cell j (by omega)
  · intro u hu
    simp only [cellsI, List.mem_map] at hu
    obtain ⟨_, _, rfl⟩ := hu
    rfl
  · intro v' w' hown hgr _
    rcases hown.2 with ⟨_, h0⟩ | ⟨g', cap', cur, rfl, hlt, hh, hc, _, hsz, ht⟩
    · omega
    · rw [Nat.zero_add]
      refine h g' cap' w' ⟨⟨cur, hh, fun j hj => ?_⟩, hF⟩ hlt (by omega) (hb0.grown hgr (by simp) (fun k hk => by cases hk; exact Nat.le_refl _))
      have := cellsI_get F j (by omega)
      rw [List.nil_append, Nat.zero_add] at ht
      rw [← ht, List.getElem?_take_of_lt (by omega), Array.getElem?_toList] at this
      exact this
theorem three_laid (w : World) (t1 t2 t3 : TypeId) (c1 c2 c3 : Array Value) :
    Blo (((w.alloc (.cells c1 t1)).alloc (.cells c2 t2)).alloc (.cells c3 t3)) w.heap.size t1 c1 ∧ Blo (((w.alloc (.cells c1 t1)).alloc (.cells c2 t2)).alloc (.cells c3 t3)) (w.heap.size + 1) t2 c2 ∧ Blo (((w.alloc (.cells c1 t1)).alloc (.cells c2 t2)).alloc (.cells c3 t3)) (w.heap.size + 1 + 1) t3 c3 := by
  refine ⟨((blo_laid w _ _).alloc _).alloc _, ?_, ?_⟩
  · have := (blo_laid (w.alloc (.cells c1 t1)) t2 c2).alloc (.cells c3 t3)
    simpa using this
  · have := blo_laid ((w.alloc (.cells c1 t1)).alloc (.cells c2 t2)) t3 c3
    simpa using this
theorem two_laid (w : World) (t1 t2 : TypeId) (c1 c2 : Array Value) :
    Blo ((w.alloc (.cells c1 t1)).alloc (.cells c2 t2)) w.heap.size t1 c1 ∧ Blo ((w.alloc (.cells c1 t1)).alloc (.cells c2 t2)) (w.heap.size + 1) t2 c2 := by
  refine ⟨(blo_laid w _ _).alloc _, ?_⟩
  have := blo_laid (w.alloc (.cells c1 t1)) t2 c2
  simpa using this
end Go.Proofs.Ytfilbbiiiaodiaa
