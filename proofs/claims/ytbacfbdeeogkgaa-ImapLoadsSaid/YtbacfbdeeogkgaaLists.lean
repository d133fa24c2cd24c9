/-
  A slice of slices of bytes that came in.
-/
import Derived.Test.YtbacfbdeeogkgaaKit
import Derived.Deep.Slices
import Derived.OpenShut
import Derived.ChangeArms
namespace Go.Proofs.Ytbacfbdeeogkgaa
open Go.RowKit

def nthL (L : List (List Nat)) (i : Nat) : List Nat := L.getD i []
/-- A slice of slices of bytes: its lists, where each stands, and its room. -/
structure Lists (w : World) (a : Option Addr) (n : Nat) (A : Nat → Option Addr) (C : Nat → Nat) (L : List (List Nat)) : Prop where
  len : n = L.length
  le : n ≤ 9223372036854775807
  at_ : n ≠ 0 → ∃ b o, a = some ⟨b, o, none⟩ ∧ ∀ i, i < n → w.cell? ⟨b, o + i, none⟩ = some (.slice (A i) (nthL L i).length (C i))
  each : ∀ i, i < n → Bytes w (A i) (nthL L i) ∧ (A i = none → nthL L i = [] ∧ C i = 0) ∧ (nthL L i).length ≤ C i
theorem Lists.below {w w' : World} {a : Option Addr} {n : Nat} {A : Nat → Option Addr} {C : Nat → Nat} {L : List (List Nat)} (h : Lists w a n A C L) (hb : Below w.heap.size w w') : Lists w' a n A C L :=
  ⟨h.len, h.le, fun hn => by
    obtain ⟨b, o, ha, hc⟩ := h.at_ hn
    exact ⟨b, o, ha, fun i hi => cell_later hb (hc i hi)⟩, fun i hi => ⟨(h.each i hi).1.below hb, (h.each i hi).2⟩⟩
section
open Go.ChangeShapes Go.WideShapes Go.ChangeAt
/-- A slice of slices of bytes that came in. -/
theorem lists_of_trod {H : Type} {enc : TypeId × Value → H} {P : Program} {w : World} {base : Nat} {t e u : TypeId} {fuel : Nat} {cs : List Value} {x : DataW H × List MemPlace}
    (ht : P.underlying t = some (.slice e)) (hc : P.cellsOf e = 1) (he : P.underlying e = some (.slice u)) (hcu : P.cellsOf u = 1) (hu : P.underlying u = some (.int .u8))
    (h : DataW.trod enc P w base (fun _ => true) true fuel t cs = some x) :
    ∃ (a : Option Addr) (n cap : Nat) (A : Nat → Option Addr) (C : Nat → Nat) (L : List (List Nat)), cs = [.slice a n cap] ∧ Lists w a n A C L := by
  have hm0 : (maxLen : Nat) = 9223372036854775807 := by decide
  rcases Go.Deep.open_slice1 ht hc h with ⟨rfl, _⟩ | ⟨a, len, cap, m, n, V, D, Pl, rfl, _, hl, hm, hmm, _, hx⟩
  · exact ⟨none, 0, 0, fun _ => none, fun _ => 0, [], rfl, ⟨rfl, by omega, fun h => absurd rfl h, fun i hi => absurd hi (by omega)⟩⟩
  · have hmc : len ≤ m := by rw [hmm]; split <;> omega
    have each : ∀ i, i < len → ∃ (ai : Option Addr) (ci : Nat) (li : List Nat), V i = .slice ai li.length ci ∧ Bytes w ai li ∧ (ai = none → li = [] ∧ ci = 0) ∧ li.length ≤ ci := by
      intro i hi
      obtain ⟨_, ht2⟩ := hx i (by omega)
      have hrow : ∃ ai ni ci zs, V i = .slice ai ni ci ∧ IsRow .u8 w ai ni ci zs := by
        rcases open_ints he hu hcu ht2 with ⟨hcs, _⟩ | ⟨x, l, c, zs, hcs, _, h1, h2, h3, _, hcell, hwz⟩
        · simp at hcs
          exact ⟨none, 0, 0, [], hcs, .inl ⟨rfl, rfl, rfl, rfl⟩⟩
        · simp at hcs
          exact ⟨some x, l, c, zs, hcs, .inr ⟨_, rfl, h1, h2, by simpa using h3, hcell, hwz⟩⟩
      obtain ⟨ai, ni, ci, zs, hV, hr⟩ := hrow
      obtain ⟨li, rfl, hB, ha, _, hcap⟩ := hr.bytes
      exact ⟨ai, ci, li, hV, hB, ha, hcap⟩
    obtain ⟨A, hA⟩ := Go.Deep.choose_lt (α := Option Addr) (p := fun i ai => ∃ (ci : Nat) (li : List Nat), V i = .slice ai li.length ci ∧ Bytes w ai li ∧ (ai = none → li = [] ∧ ci = 0) ∧ li.length ≤ ci) each
    obtain ⟨C, hC⟩ := Go.Deep.choose_lt (α := Nat) (p := fun i ci => ∃ (li : List Nat), V i = .slice (A i) li.length ci ∧ Bytes w (A i) li ∧ (A i = none → li = [] ∧ ci = 0) ∧ li.length ≤ ci) hA
    obtain ⟨F, hF⟩ := Go.Deep.choose_lt (α := List Nat) (p := fun i li => V i = .slice (A i) li.length (C i) ∧ Bytes w (A i) li ∧ (A i = none → li = [] ∧ C i = 0) ∧ li.length ≤ C i) hC
    have hnth : ∀ i, i < len → nthL ((List.range len).map F) i = F i := by
      intro i hi
      unfold nthL
      rw [List.getD_eq_getElem?_getD, List.getElem?_map, List.getElem?_range hi]
      rfl
    refine ⟨some a, len, cap, A, C, (List.range len).map F, rfl, ⟨by simp, by omega, fun hn => ?_, fun i hi => ?_⟩⟩
    · obtain ⟨b, off, spot⟩ := a
      have hspot : spot = none := by simpa [Addr.add] using World.cell?_spot (hx 0 (by omega)).1
      subst hspot
      refine ⟨b, off, rfl, fun i hi => ?_⟩
      have := (hx i (by omega)).1
      rw [Addr.add_lit] at this
      rw [this, hnth i hi, (hF i hi).1]
    · rw [hnth i hi]
      exact (hF i hi).2
end
end Go.Proofs.Ytbacfbdeeogkgaa
