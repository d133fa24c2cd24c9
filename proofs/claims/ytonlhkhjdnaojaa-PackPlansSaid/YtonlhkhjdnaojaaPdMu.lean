/-
  The answer's numbers changed, one by one.
-/
import Derived.Test.YtonlhkhjdnaojaaPdBump
namespace Go.Proofs.Ytonlhkhjdnaojaa
open Go.RowKit

def MuR (w0 : World) (pv : Value) (fv : Nat → Value) (av : Nat → Nat → Value) (I V : Nat → Int) (N : Nat) (nw : Nat → Bool) (Z0 : Nat → Pz) (wr : World) : Prop :=
  ∃ Z, Pm wr w0.heap.size pv fv av I V N nw Z ∧ SameLen Z0 Z ∧ Below w0.heap.size w0 wr
section
variable {w0 wr : World} {pv : Value} {fv : Nat → Value} {av : Nat → Nat → Value} {I V : Nat → Int} {N : Nat} {nw : Nat → Bool} {Z0 : Nat → Pz}
theorem MuR.get (h : MuR w0 pv fv av I V N nw Z0 wr) {i : Nat} (hi : i < N) : ∃ g cap f1 fc1 i1 ic1, pv = .slice (some ⟨g, 0, none⟩) N cap ∧ fv i = .slice f1 (Z0 i).nf fc1 ∧ av i 0 = .slice i1 ((Z0 i).li 0).length ic1 ∧ wr.cell? ⟨g, i * 3 + 1, none⟩ = some (fv i) ∧ wr.cell? ⟨g, i * 3 + 2, none⟩ = some (av i 0) := by
  obtain ⟨Z, h, hS, -⟩ := h
  obtain ⟨g, cap, e1, -, -, -, q1, q2, q3⟩ := h.piece hi
  obtain ⟨f1, fc1, i1, ic1, e2, e3, -, -⟩ := h.reads hi
  rw [(hS i).1] at e2
  rw [(hS i).2] at e3
  exact ⟨g, cap, f1, fc1, i1, ic1, e1, e2, e3, q2, q3⟩
theorem MuR.file (h : MuR w0 pv fv av I V N nw Z0 wr) {i k : Nat} (hi : i < N) (hk : k < (Z0 i).nf) : ∃ gf cf a2 c2, fv i = .slice (some ⟨gf, 0, none⟩) (Z0 i).nf cf ∧ av i (k + 1) = .slice a2 ((Z0 i).li (k + 1)).length c2 ∧ wr.cell? ⟨gf, k * 3 + 2, none⟩ = some (av i (k + 1)) := by
  obtain ⟨Z, h, hS, -⟩ := h
  have hk2 : k < (Z i).nf := by rw [(hS i).1]; exact hk
  obtain ⟨gf, cf, e1, -, -, -, -, -, q3⟩ := h.file hi hk2
  obtain ⟨a2, c2, e2, -⟩ := own_slice (h.ints i hi (k + 1) hk2)
  rw [(hS i).1] at e1
  rw [(hS i).2] at e2
  exact ⟨gf, cf, a2, c2, e1, e2, q3⟩
theorem MuR.num (h : MuR w0 pv fv av I V N nw Z0 wr) {i k j : Nat} (hi : i < N) (hk : k ≤ (Z0 i).nf) (hj : j < ((Z0 i).li k).length) : ∃ g c y, av i k = .slice (some ⟨g, 0, none⟩) ((Z0 i).li k).length c ∧ wr.cell? ⟨g, j, none⟩ = some (.int .i64 y) ∧ wr.frozen? ⟨g, j, none⟩ = false ∧ ∀ y', MuR w0 pv fv av I V N nw Z0 (wr.setCell ⟨g, j, none⟩ (.int .i64 y')) := by
  obtain ⟨Z, h, hS, hB⟩ := h
  have hk2 : k ≤ (Z i).nf := by rw [(hS i).1]; exact hk
  have hj2 : j < ((Z i).li k).length := by rw [(hS i).2]; exact hj
  have hi2 := h.ints i hi k hk2
  obtain ⟨g, c, e, hg⟩ := own_some hi2 (by omega)
  refine ⟨g, c, (((Z i).li k).getD j 0), by rw [e, (hS i).2], ?_, ?_, fun y' => ?_⟩
  · rw [e] at hi2
    rw [hi2.cellAt _ (by omega)]
    simp [cellsI, List.getD_eq_getElem?_getD, List.getElem?_eq_getElem hj2]
  · rw [e] at hi2
    exact hi2.frozenAt _
  · obtain ⟨Z', h', hS'⟩ := h.bump (j := j) hi hk2 e y'
    exact ⟨Z', h', hS.trans hS', hB.setCell (p := ⟨g, j, none⟩) hg _⟩
end
end Go.Proofs.Ytonlhkhjdnaojaa
