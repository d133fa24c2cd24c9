/-
  Rows of candidates in memory: read, owned, put behind each other, cut.
-/
import Derived.Test.YtblpfgjjiihjoaaPkOrd
import Derived.Test.YtblpfgjjiihjoaaPkCheck
import Derived.Laws.AppendOwnNone
namespace Go.Proofs.Ytblpfgjjiihjoaa
open Go.RowKit

abbrev RCD := 39
abbrev SC := 22
abbrev SRC := 27
def flatC (l : List Cd) : List Int := l.flatMap fun c => [c.seg, c.live, c.cap, c.age]
theorem flatC_length (l : List Cd) : (flatC l).length = l.length * 4 := by
  unfold flatC
  induction l with
  | nil => rfl
  | cons a l ih => rw [List.flatMap_cons, List.length_append, ih]; simp; omega
theorem flatC_append (l m : List Cd) : flatC l ++ flatC m = flatC (l ++ m) := by simp [flatC]
theorem flatC_get (l : List Cd) : ∀ (i : Nat), i < l.length → (flatC l).getD (i * 4) 0 = (l.getD i c0).seg ∧ (flatC l).getD (i * 4 + 1) 0 = (l.getD i c0).live ∧ (flatC l).getD (i * 4 + 2) 0 = (l.getD i c0).cap ∧ (flatC l).getD (i * 4 + 3) 0 = (l.getD i c0).age := by
  induction l with
  | nil => intro i hi; simp at hi
  | cons a l ih =>
    intro i hi
    have e : flatC (a :: l) = [a.seg, a.live, a.cap, a.age] ++ flatC l := rfl
    rw [e]
    cases i with
    | zero => simp
    | succ i =>
      have := ih i (by simpa using hi)
      simp only [List.getD_eq_getElem?_getD] at this ⊢
      rw [List.getElem?_append_right (by simp; omega), List.getElem?_append_right (by simp; omega), List.getElem?_append_right (by simp; omega), List.getElem?_append_right (by simp; omega)]
      simp only [List.length_cons, List.length_nil, List.getElem?_cons_succ]
      rw [show (i + 1) * 4 - (0 + 1 + 1 + 1 + 1) = i * 4 by omega, show (i + 1) * 4 + 1 - (0 + 1 + 1 + 1 + 1) = i * 4 + 1 by omega, show (i + 1) * 4 + 2 - (0 + 1 + 1 + 1 + 1) = i * 4 + 2 by omega, show (i + 1) * 4 + 3 - (0 + 1 + 1 + 1 + 1) = i * 4 + 3 by omega]
      exact this
/-- What a slice of candidates that is read holds. -/
def Cds (w : World) (a : Option Addr) (l : List Cd) : Prop := l ≠ [] → ∃ b o, a = some ⟨b, o, none⟩ ∧ ∀ i, i < l.length → w.cell? ⟨b, o + i * 4, none⟩ = some (.int .i64 (l.getD i c0).seg) ∧ w.cell? ⟨b, o + i * 4 + 1, none⟩ = some (.int .i64 (l.getD i c0).live) ∧ w.cell? ⟨b, o + i * 4 + 2, none⟩ = some (.int .i64 (l.getD i c0).cap) ∧ w.cell? ⟨b, o + i * 4 + 3, none⟩ = some (.int .i64 (l.getD i c0).age)
section
variable {w w' : World} {a : Option Addr} {l : List Cd}
theorem Cds.nil (w : World) (a : Option Addr) : Cds w a [] := fun h => absurd rfl h
theorem Cds.below (h : Cds w a l) (hb : Below w.heap.size w w') : Cds w' a l := fun hl => by
  obtain ⟨b, o, ha, hc⟩ := h hl
  exact ⟨b, o, ha, fun i hi => ⟨cell_later hb (hc i hi).1, cell_later hb (hc i hi).2.1, cell_later hb (hc i hi).2.2.1, cell_later hb (hc i hi).2.2.2⟩⟩
theorem Cds.drew (h : Cds w a l) : Cds w.drew a l := fun hl => by
  obtain ⟨b, o, ha, hc⟩ := h hl
  exact ⟨b, o, ha, fun i hi => hc i hi⟩
theorem Cds.take (h : Cds w a l) (k : Nat) : Cds w a (l.take k) := fun hl => by
  have hne : l ≠ [] := fun e => hl (by rw [e]; simp)
  obtain ⟨b, o, ha, hc⟩ := h hne
  refine ⟨b, o, ha, fun i hi => ?_⟩
  rw [List.length_take] at hi
  have e : (l.take k).getD i c0 = l.getD i c0 := by
    rw [List.getD_eq_getElem?_getD, List.getD_eq_getElem?_getD, List.getElem?_take_of_lt (by omega)]
  rw [e]
  exact hc i (by omega)
theorem Cds.drop {p : Addr} (h : Cds w (some p) l) (k : Nat) : Cds w (some (p.add (k * 4))) (l.drop k) := fun hl => by
  have hne : l ≠ [] := fun e => hl (by rw [e]; simp)
  obtain ⟨b, o, ha, hc⟩ := h hne
  injection ha with ha
  subst ha
  refine ⟨b, o + k * 4, by rw [Addr.add_lit], fun i hi => ?_⟩
  rw [List.length_drop] at hi
  have e : (l.drop k).getD i c0 = l.getD (k + i) c0 := by
    rw [List.getD_eq_getElem?_getD, List.getD_eq_getElem?_getD, List.getElem?_drop]
  rw [e]
  have := hc (k + i) (by omega)
  rw [show o + k * 4 + i * 4 = o + (k + i) * 4 by omega]
  exact this
theorem Cds.at (h : Cds w a l) {i : Nat} (hi : i < l.length) : ∃ b o, a = some ⟨b, o, none⟩ ∧ w.cell? ⟨b, o + i * 4, none⟩ = some (.int .i64 (l.getD i c0).seg) ∧ w.cell? ⟨b, o + i * 4 + 1, none⟩ = some (.int .i64 (l.getD i c0).live) ∧ w.cell? ⟨b, o + i * 4 + 2, none⟩ = some (.int .i64 (l.getD i c0).cap) ∧ w.cell? ⟨b, o + i * 4 + 3, none⟩ = some (.int .i64 (l.getD i c0).age) := by
  obtain ⟨b, o, ha, hc⟩ := h (fun e => by rw [e] at hi; simp at hi)
  exact ⟨b, o, ha, hc i hi⟩
theorem Cds.own {base n cap : Nat} {e : TypeId} (h : w.ownsRow base e 4 (.slice a n cap) n (cellsI (flatC l))) : Cds w a l := fun hl => by
  have hlen : n = l.length := by have := h.1; rw [cellsI_length, flatC_length] at this; omega
  have hpos : 0 < l.length := List.length_pos_iff.2 hl
  rcases id h.2 with ⟨h1, h0⟩ | ⟨g, c, cur, h1, _⟩
  · omega
  · cases h1
    refine ⟨g, 0, rfl, fun i hi => ?_⟩
    obtain ⟨q1, q2, q3, q4⟩ := flatC_get l i hi
    have hf := flatC_length l
    rw [Nat.zero_add]
    have K : ∀ j, j < l.length * 4 → w.cell? ⟨g, j, none⟩ = some (.int .i64 ((flatC l).getD j 0)) := fun j hj => by
      rw [h.cellAt j (by omega), cellsI_get (flatC l) j (by omega)]
    rw [← q1, ← q2, ← q3, ← q4]
    exact ⟨K _ (by omega), K _ (by omega), K _ (by omega), K _ (by omega)⟩
theorem Cds.flat {p : Addr} (h : Cds w (some p) l) : ∀ j u, (cellsI (flatC l))[j]? = some u → w.cell? (p.add j) = some u := by
  intro j u hj
  have hjl : j < (flatC l).length := by
    rcases Nat.lt_or_ge j (flatC l).length with h | h
    · exact h
    · rw [List.getElem?_eq_none (by rw [cellsI_length]; exact h)] at hj; cases hj
  rw [cellsI_get _ j hjl] at hj
  cases hj
  rw [flatC_length] at hjl
  obtain ⟨b, o, ha, q1, q2, q3, q4⟩ := h.at (i := j / 4) (by omega)
  injection ha with ha
  subst ha
  obtain ⟨z1, z2, z3, z4⟩ := flatC_get l (j / 4) (by omega)
  rw [Addr.add_lit]
  rcases (by omega : j = j / 4 * 4 ∨ j = j / 4 * 4 + 1 ∨ j = j / 4 * 4 + 2 ∨ j = j / 4 * 4 + 3) with e | e | e | e
  · rw [e, z1]; exact q1
  · rw [e, z2]; exact q2
  · rw [e, z3]; exact q3
  · rw [e, z4]; exact q4
theorem info_cd : (Try.prog.info? CD).map (fun i => (i.zero, i.size, i.bytes)) = some (some (.agg #[.int .i64 0, .int .i64 0, .int .i64 0, .int .i64 0]), 4, 32) := by kernel_rfl
theorem info_rcd : (Try.prog.info? RCD).map (fun i => (i.zero, i.size, i.bytes)) = some (some (.agg #[.int .i64 0, .int .i64 0, .int .i64 0, .int .i64 0]), 4, 32) := by kernel_rfl
/-- 'append(own, more...)'. -/
theorem wp_append_cds {P : Program} {ops : Array Oper} {rest : List Oper} {o : Oper} {act : Act} {Q : Exit → Act → World → Prop} (hgd : o.guard = none) (s x : Operand) (t : TypeId)
    (ho : o.op = .call { callee := .builtin .append, args := #[s, x], argTypes := #[t, t] })
    (base : Nat) (e : TypeId) (ht : P.underlying t = some (.slice e)) (hi : (P.info? e).map (fun i => (i.zero, i.size, i.bytes)) = some (some (.agg #[.int .i64 0, .int .i64 0, .int .i64 0, .int .i64 0]), 4, 32))
    (v : Value) (n : Nat) (xs : List Cd) (hs : act.eval s = v) (hown : w.ownsRow base e 4 v n (cellsI (flatC xs)))
    (ao : Option Addr) (m c : Nat) (ys : List Cd) (hx : act.eval x = .slice ao m c) (hm : m = ys.length) (hy : Cds w ao ys) (hnone : ao = none → ys = [] ∧ c = 0)
    (hroom : n + m ≤ 1000000) (hbase : base ≤ w.heap.size)
    (h : ∀ a' cap' w', w'.ownsRow base e 4 (.slice a' (n + m) cap') (n + m) (cellsI (flatC (xs ++ ys))) → w.grownBy w' v.ownBlock → wpList P ops Q rest (act.put o.dst (.slice a' (n + m) cap')) w') : wpList P ops Q (o :: rest) act w := by
  obtain ⟨i, hi0, hz, hs1, hb1⟩ := info_parts hi
  have fin : ∀ v' w', w'.ownsRow base e 4 v' (n + m) (cellsI (flatC (xs ++ ys))) → w.grownBy w' v.ownBlock → wpList P ops Q rest (act.put o.dst v') w' := by
    intro v' w' h1 h2
    obtain ⟨a', cap', rfl, _⟩ := own_slice h1
    exact h a' cap' w' h1 h2
  cases ao with
  | none =>
    obtain ⟨rfl, rfl⟩ := hnone rfl
    have hm0 : m = 0 := hm
    subst hm0
    refine wpList_append_own_none hgd s x t ho base e i 4 ht hi0 v n (cellsI (flatC xs)) hs hown hx ?_
    have := fin v w (by simpa using hown) ⟨rfl, rfl, rfl, Nat.le_refl _, fun _ _ _ => rfl⟩
    exact this
  | some ad =>
    refine wpList_append_own w hgd s x t ho base e i _ 4 32 ht hi0 hz hs1 hb1 rfl (by decide) v n (cellsI (flatC xs)) hs hown ad m c (cellsI (flatC ys)) hx (by rw [cellsI_length, flatC_length, hm]) hy.flat ?_ (by unfold maxLen; omega) (by omega) hbase ?_
    · intro u hu
      simp only [cellsI, List.mem_map] at hu
      obtain ⟨_, _, rfl⟩ := hu
      rfl
    · intro v' w' h1 h2 _
      rw [cellsI_append, flatC_append] at h1
      exact fin v' w' h1 h2
end
end Go.Proofs.Ytblpfgjjiihjoaa
