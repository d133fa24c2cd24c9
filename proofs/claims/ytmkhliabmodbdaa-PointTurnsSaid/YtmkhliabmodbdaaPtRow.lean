/-
  Rows of points in memory: read, owned, put behind each other.
-/
import Derived.Test.YtmkhliabmodbdaaPtSave
import Derived.Test.YtmkhliabmodbdaaMem
import Derived.Laws.AppendOwnNone
import Derived.OwnWalk
namespace Go.Proofs.Ytmkhliabmodbdaa
open Go.RowKit

def flatP (l : List Pt) : List Int := l.flatMap fun c => [c.e, c.c, c.n, c.f]
theorem flatP_length (l : List Pt) : (flatP l).length = l.length * 4 := by
  unfold flatP
  induction l with
  | nil => rfl
  | cons a l ih => rw [List.flatMap_cons, List.length_append, ih]; simp; omega
theorem flatP_append (l m : List Pt) : flatP l ++ flatP m = flatP (l ++ m) := by simp [flatP]
theorem flatP_get (l : List Pt) : ∀ (i : Nat), i < l.length → (flatP l).getD (i * 4) 0 = (l.getD i zPt).e ∧ (flatP l).getD (i * 4 + 1) 0 = (l.getD i zPt).c ∧ (flatP l).getD (i * 4 + 2) 0 = (l.getD i zPt).n ∧ (flatP l).getD (i * 4 + 3) 0 = (l.getD i zPt).f := by
  induction l with
  | nil => intro i hi; simp at hi
  | cons a l ih =>
    intro i hi
    have e : flatP (a :: l) = [a.e, a.c, a.n, a.f] ++ flatP l := rfl
    rw [e]
    cases i with
    | zero => simp
    | succ i =>
      have := ih i (by simpa using hi)
      simp only [List.getD_eq_getElem?_getD] at this ⊢
      rw [List.getElem?_append_right (by simp; omega), List.getElem?_append_right (by simp; omega), List.getElem?_append_right (by simp; omega), List.getElem?_append_right (by simp; omega)]
      simp only [List.length_cons, List.length_nil, List.getElem?_cons_succ]
      rw [show (i + 1) * 4 - (0 + 1 + 1 + 1 + 1) = i * 4 by omega, show (i + 1) * 4 + 1 - (0 + 1 + 1 + 1 + 1) = i * 4 + 1 by omega, show (i + 1) * 4 + 2 - (0 + 1 + 1 + 1 + 1) = i * 4 + 2 by omega, show (i + 1) * 4 + 3 - (0 + 1 + 1 + 1 + 1) = i * 4 + 3 by omega]
      exact this
/-- What a slice of candidates that is read holds. -/
def Pts (w : World) (a : Option Addr) (l : List Pt) : Prop := l ≠ [] → ∃ b o, a = some ⟨b, o, none⟩ ∧ ∀ i, i < l.length → w.cell? ⟨b, o + i * 4, none⟩ = some (.int .i64 (l.getD i zPt).e) ∧ w.cell? ⟨b, o + i * 4 + 1, none⟩ = some (.int .i64 (l.getD i zPt).c) ∧ w.cell? ⟨b, o + i * 4 + 2, none⟩ = some (.int .i64 (l.getD i zPt).n) ∧ w.cell? ⟨b, o + i * 4 + 3, none⟩ = some (.int .i64 (l.getD i zPt).f)
section
variable {w w' : World} {a : Option Addr} {l : List Pt}
theorem Pts.nil (w : World) (a : Option Addr) : Pts w a [] := fun h => absurd rfl h
theorem Pts.below (h : Pts w a l) (hb : Below w.heap.size w w') : Pts w' a l := fun hl => by
  obtain ⟨b, o, ha, hc⟩ := h hl
  exact ⟨b, o, ha, fun i hi => ⟨cell_later hb (hc i hi).1, cell_later hb (hc i hi).2.1, cell_later hb (hc i hi).2.2.1, cell_later hb (hc i hi).2.2.2⟩⟩
theorem Pts.at (h : Pts w a l) {i : Nat} (hi : i < l.length) : ∃ b o, a = some ⟨b, o, none⟩ ∧ w.cell? ⟨b, o + i * 4, none⟩ = some (.int .i64 (l.getD i zPt).e) ∧ w.cell? ⟨b, o + i * 4 + 1, none⟩ = some (.int .i64 (l.getD i zPt).c) ∧ w.cell? ⟨b, o + i * 4 + 2, none⟩ = some (.int .i64 (l.getD i zPt).n) ∧ w.cell? ⟨b, o + i * 4 + 3, none⟩ = some (.int .i64 (l.getD i zPt).f) := by
  obtain ⟨b, o, ha, hc⟩ := h (fun e => by rw [e] at hi; simp at hi)
  exact ⟨b, o, ha, hc i hi⟩
theorem Pts.own {base n cap : Nat} {e : TypeId} (h : w.ownsRow base e 4 (.slice a n cap) n (cellsI (flatP l))) : Pts w a l := fun hl => by
  have hlen : n = l.length := by have := h.1; rw [cellsI_length, flatP_length] at this; omega
  have hpos : 0 < l.length := List.length_pos_iff.2 hl
  rcases id h.2 with ⟨h1, h0⟩ | ⟨g, c, cur, h1, _⟩
  · omega
  · cases h1
    refine ⟨g, 0, rfl, fun i hi => ?_⟩
    obtain ⟨q1, q2, q3, q4⟩ := flatP_get l i hi
    have hf := flatP_length l
    rw [Nat.zero_add]
    have K : ∀ j, j < l.length * 4 → w.cell? ⟨g, j, none⟩ = some (.int .i64 ((flatP l).getD j 0)) := fun j hj => by
      rw [h.cellAt j (by omega), cellsI_get (flatP l) j (by omega)]
    rw [← q1, ← q2, ← q3, ← q4]
    exact ⟨K _ (by omega), K _ (by omega), K _ (by omega), K _ (by omega)⟩
theorem Pts.flat {p : Addr} (h : Pts w (some p) l) : ∀ j u, (cellsI (flatP l))[j]? = some u → w.cell? (p.add j) = some u := by
  intro j u hj
  have hjl : j < (flatP l).length := by
    rcases Nat.lt_or_ge j (flatP l).length with h | h
    · exact h
    · rw [List.getElem?_eq_none (by rw [cellsI_length]; exact h)] at hj; cases hj
  rw [cellsI_get _ j hjl] at hj
  cases hj
  rw [flatP_length] at hjl
  obtain ⟨b, o, ha, q1, q2, q3, q4⟩ := h.at (i := j / 4) (by omega)
  injection ha with ha
  subst ha
  obtain ⟨z1, z2, z3, z4⟩ := flatP_get l (j / 4) (by omega)
  rw [Addr.add_lit]
  rcases (by omega : j = j / 4 * 4 ∨ j = j / 4 * 4 + 1 ∨ j = j / 4 * 4 + 2 ∨ j = j / 4 * 4 + 3) with e | e | e | e
  · rw [e, z1]; exact q1
  · rw [e, z2]; exact q2
  · rw [e, z3]; exact q3
  · rw [e, z4]; exact q4
/-- 'append(own, more...)'. -/
theorem wp_append_pts {P : Program} {ops : Array Oper} {rest : List Oper} {o : Oper} {act : Act} {Q : Exit → Act → World → Prop} (hgd : o.guard = none) (s x : Operand) (t : TypeId)
    (ho : o.op = .call { callee := .builtin .append, args := #[s, x], argTypes := #[t, t] })
    (base : Nat) (e : TypeId) (ht : P.underlying t = some (.slice e)) (hi : (P.info? e).map (fun i => (i.zero, i.size, i.bytes)) = some (some (.agg #[.int .i64 0, .int .i64 0, .int .i64 0, .int .i64 0]), 4, 32))
    (v : Value) (n : Nat) (xs : List Pt) (hs : act.eval s = v) (hown : w.ownsRow base e 4 v n (cellsI (flatP xs)))
    (ao : Option Addr) (m c : Nat) (ys : List Pt) (hx : act.eval x = .slice ao m c) (hm : m = ys.length) (hy : Pts w ao ys) (hnone : ao = none → ys = [] ∧ c = 0)
    (hroom : n + m ≤ 1000000) (hbase : base ≤ w.heap.size)
    (h : ∀ a' cap' w', w'.ownsRow base e 4 (.slice a' (n + m) cap') (n + m) (cellsI (flatP (xs ++ ys))) → w.grownBy w' v.ownBlock → wpList P ops Q rest (act.put o.dst (.slice a' (n + m) cap')) w') : wpList P ops Q (o :: rest) act w := by
  obtain ⟨i, hi0, hz, hs1, hb1⟩ := info_parts hi
  have fin : ∀ v' w', w'.ownsRow base e 4 v' (n + m) (cellsI (flatP (xs ++ ys))) → w.grownBy w' v.ownBlock → wpList P ops Q rest (act.put o.dst v') w' := by
    intro v' w' h1 h2
    obtain ⟨a', cap', rfl, _⟩ := own_slice h1
    exact h a' cap' w' h1 h2
  cases ao with
  | none =>
    obtain ⟨rfl, rfl⟩ := hnone rfl
    have hm0 : m = 0 := hm
    subst hm0
    refine wpList_append_own_none hgd s x t ho base e i 4 ht hi0 v n (cellsI (flatP xs)) hs hown hx ?_
    have := fin v w (by simpa using hown) ⟨rfl, rfl, rfl, Nat.le_refl _, fun _ _ _ => rfl⟩
    exact this
  | some ad =>
    refine wpList_append_own w hgd s x t ho base e i _ 4 32 ht hi0 hz hs1 hb1 rfl (by decide) v n (cellsI (flatP xs)) hs hown ad m c (cellsI (flatP ys)) hx (by rw [cellsI_length, flatP_length, hm]) hy.flat ?_ (by unfold maxLen; omega) (by omega) hbase ?_
    · intro u hu
      simp only [cellsI, List.mem_map] at hu
      obtain ⟨_, _, rfl⟩ := hu
      rfl
    · intro v' w' h1 h2 _
      rw [cellsI_append, flatP_append] at h1
      exact fin v' w' h1 h2
theorem own_ge {w : World} {base n : Nat} {e : TypeId} {size : Nat} {v : Value} {xs : List Value} (h : w.ownsRow base e size v n xs) {q : Nat} (hq : v.ownBlock = some q) : base ≤ q := by
  rcases h.2 with ⟨rfl, _⟩ | ⟨g, cap, cur, rfl, a1, _⟩
  · cases hq
  · cases hq; exact a1
theorem Pts.one (w : World) (c : Pt) (t : TypeId) : Pts (w.alloc (.cells #[.int .i64 c.e, .int .i64 c.c, .int .i64 c.n, .int .i64 c.f] t)) (some ⟨w.heap.size, 0, none⟩) [c] := fun _ => by
  refine ⟨w.heap.size, 0, rfl, fun i hi => ?_⟩
  have hi0 : i = 0 := by simpa using hi
  subst hi0
  have h := blo_laid w t #[.int .i64 c.e, .int .i64 c.c, .int .i64 c.n, .int .i64 c.f]
  exact ⟨h.cell 0, h.cell 1, h.cell 2, h.cell 3⟩
theorem info_pnt : (Try.prog.info? PNT).map (fun i => (i.zero, i.size, i.bytes)) = some (some (.agg #[.int .i64 0, .int .i64 0, .int .i64 0, .int .i64 0]), 4, 32) := by kernel_rfl
def ptsF (F : Nat → Pt) (m : Nat) : List Pt := (List.range m).map F
theorem ptsF_length (F : Nat → Pt) (m : Nat) : (ptsF F m).length = m := by simp [ptsF]
theorem ptsF_snoc (F : Nat → Pt) (m : Nat) : ptsF F m ++ [F m] = ptsF F (m + 1) := by simp [ptsF, List.range_succ]
theorem ptsF_get (F : Nat → Pt) (m i : Nat) (h : i < m) : (ptsF F m).getD i zPt = F i := by
  rw [List.getD_eq_getElem?_getD]; simp [ptsF, h]
/-- The row of points is no part of a disk. -/
theorem row_apart {C B : Nat} {w : World} {L : Dl} {d : Dm} {a : Option Addr} {n cap m : Nat} {xs : List Value} (hD : Dk C w L d) (ho : w.ownsRow B PNT 4 (.slice a n cap) m xs) : ∀ g, (Value.slice a n cap).ownBlock = some g → ¬ L.has g := by
  intro g hg
  rcases id ho.2 with ⟨h1, _⟩ | ⟨g', cap', cur, hv, _, a2, _⟩
  · rw [h1] at hg; cases hg
  · rw [hv] at hg
    cases hg
    have hbl : Blo w g' PNT cur := a2
    exact hD.apart hbl (by decide) (by decide) (by decide)
theorem row_lt {B : Nat} {w : World} {v : Value} {m : Nat} {xs : List Value} (ho : w.ownsRow B PNT 4 v m xs) : ∀ g, v.ownBlock = some g → g < w.heap.size := fun g hg => (own_lt ho hg).2
theorem CodeO.row {C B : Nat} {w w' : World} {L : Dl} {d d' : Dm} {code : Int} {e : Ending} {a : Option Addr} {n cap m : Nat} {xs : List Value} (h : CodeO C w L d' code e w') (hD : Dk C w L d) (ho : w.ownsRow B PNT 4 (.slice a n cap) m xs) : w'.ownsRow B PNT 4 (.slice a n cap) m xs := by
  obtain ⟨_, _, _, h3, _⟩ := h
  exact h3.own ho (row_apart hD ho)
end
end Go.Proofs.Ytmkhliabmodbdaa
