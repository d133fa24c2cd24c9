/-
  A slice of pairs of integers that came in, told by the flat list of its numbers.
-/
import Derived.Test.YtnlmpnpelnmpeaaMem
import Derived.Deep.Slices
import Derived.OpenShut
namespace Go.Proofs.Ytnlmpnpelnmpeaa
open Go.RowKit

def Pairs (w : World) (a : Option Addr) (len : Nat) (zs : List Int) : Prop :=
  len ≤ 9223372036854775807 ∧ (∀ j, -9223372036854775808 ≤ zs.getD j 0 ∧ zs.getD j 0 ≤ 9223372036854775807) ∧
  (len ≠ 0 → ∃ b o, a = some ⟨b, o, none⟩ ∧ ∀ i, i < len → w.cell? ⟨b, o + i * 2, none⟩ = some (.int .i64 (zs.getD (i * 2) 0)) ∧ w.cell? ⟨b, o + i * 2 + 1, none⟩ = some (.int .i64 (zs.getD (i * 2 + 1) 0)))
theorem wf_bounds {n : Int} (h : (Lit.int .i64 n).wf = true) : -9223372036854775808 ≤ n ∧ n ≤ 9223372036854775807 := by
  simp [Lit.wf, IntKind.min, IntKind.max, IntKind.signed, IntKind.bits] at h
  omega
section
open Go.ChangeShapes Go.WideShapes Go.Deep
theorem pairs_of_trod {H : Type} {enc : TypeId × Value → H} {P : Program} {w : World} {base : Nat} {spare : Nat → Bool} {held : Bool} {t e k : TypeId} {fuel : Nat} {cs : List Value} {x : DataW H × List MemPlace}
    (ht : P.underlying t = some (.slice e)) (he : P.underlying e = some (.array 2 k)) (hk : P.underlying k = some (.int .i64)) (hck : P.cellsOf k = 1) (hce : P.cellsOf e = 2) (h : DataW.trod enc P w base spare held fuel t cs = some x) :
    ∃ a len cap zs, cs = [.slice a len cap] ∧ Pairs w a len zs := by
  rcases open_slice ht h with ⟨rfl, _⟩ | ⟨a, len, cap, m, n, D, Pl, rfl, _, hl, hm, hmm, _, hi⟩
  · exact ⟨none, 0, 0, [], rfl, by decide, fun j => by simp, fun h => absurd rfl h⟩
  · have hlm : len ≤ m := by rw [hmm]; split <;> omega
    have key : ∀ i, i < len → ∃ p : Int × Int, w.cell? (a.add (i * 2)) = some (.int .i64 p.1) ∧ w.cell? (a.add (i * 2 + 1)) = some (.int .i64 p.2) ∧ (Lit.int .i64 p.1).wf = true ∧ (Lit.int .i64 p.2).wf = true := by
      intro i hi'
      obtain ⟨cs', hc, ht'⟩ := hi i (by omega)
      rw [hce] at hc
      obtain ⟨_, hcl, hat⟩ := World.cells?_some hc
      obtain ⟨xs, m', _, _, _, hn, hel⟩ := DataW.trod_array he ht'
      have h0 := hel 0 (by decide)
      have h1 := hel 1 (by decide)
      have a0 := hat 0 (by decide)
      have a1 := hat 1 (by decide)
      rw [hck, List.getElem?_eq_getElem (by omega)] at h0 h1
      match cs', hcl with
      | [c0, c1], _ =>
        obtain ⟨x0, e0, _, w0⟩ := DataW.trod_int hk h0
        obtain ⟨x1, e1, _, w1⟩ := DataW.trod_int hk h1
        simp at e0 e1
        subst e0 e1
        rw [Go.Deep.add_add] at a0 a1
        exact ⟨(x0, x1), by simpa using a0, by simpa using a1, w0, w1⟩
    obtain ⟨f, hf⟩ : ∃ f : Nat → Int × Int, ∀ i, i < len → w.cell? (a.add (i * 2)) = some (.int .i64 (f i).1) ∧ w.cell? (a.add (i * 2 + 1)) = some (.int .i64 (f i).2) ∧ (Lit.int .i64 (f i).1).wf = true ∧ (Lit.int .i64 (f i).2).wf = true :=
      ⟨fun i => if h : i < len then Classical.choose (key i h) else (0, 0), fun i h => by simp only [dif_pos h]; exact Classical.choose_spec (key i h)⟩
    obtain ⟨zs, hzs⟩ : ∃ zs : List Int, zs = (List.range (2 * len)).map fun j => if j % 2 = 0 then (f (j / 2)).1 else (f (j / 2)).2 := ⟨_, rfl⟩
    have hlen : zs.length = 2 * len := by rw [hzs]; simp
    have hget : ∀ j, j < 2 * len → zs.getD j 0 = if j % 2 = 0 then (f (j / 2)).1 else (f (j / 2)).2 := fun j hj => by
      rw [hzs, List.getD_eq_getElem?_getD]
      simp [hj]
    have hcell : ∀ j, j < zs.length → w.cell? (a.add j) = some (.int .i64 (zs.getD j 0)) := fun j hj => by
      rw [hlen] at hj
      rw [hget j hj]
      obtain ⟨q1, q2, _, _⟩ := hf (j / 2) (by omega)
      by_cases h2 : j % 2 = 0
      · rw [if_pos h2]
        rw [show j / 2 * 2 = j by omega] at q1
        exact q1
      · rw [if_neg h2]
        rw [show j / 2 * 2 + 1 = j by omega] at q2
        exact q2
    have hmx : (maxLen : Nat) = 9223372036854775807 := by decide
    refine ⟨some a, len, cap, zs, rfl, by omega, fun j => ?_, fun hne => ?_⟩
    · by_cases hj : j < 2 * len
      · rw [hget j hj]
        obtain ⟨_, _, q3, q4⟩ := hf (j / 2) (by omega)
        split
        · exact wf_bounds q3
        · exact wf_bounds q4
      · rw [List.getD_eq_getElem?_getD, List.getElem?_eq_none (by omega)]
        simp
    · obtain ⟨b, o, rfl, hc⟩ := Go.ints_at hcell (by omega)
      refine ⟨b, o, rfl, fun i hi' => ⟨hc (i * 2) (by omega), ?_⟩⟩
      rw [Nat.add_assoc]
      exact hc (i * 2 + 1) (by omega)
end
end Go.Proofs.Ytnlmpnpelnmpeaa
