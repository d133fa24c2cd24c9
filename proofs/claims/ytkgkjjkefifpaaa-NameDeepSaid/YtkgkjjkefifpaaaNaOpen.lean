/-
  A slice of texts that came in.
-/
import Derived.Test.YtkgkjjkefifpaaaNaStr
import Derived.SliceStrings
import Derived.OpenShut
import Derived.ChangeArms
import Derived.Deep.Slices
import Derived.ProofKit
import Derived.ChangeOld
namespace Go.Proofs.Ytkgkjjkefifpaaa
open Go.RowKit

structure StrsIn (w : World) (a : Option Addr) (n cap : Nat) (l : List ByteArray) : Prop where
  len : n = l.length
  le : n ≤ cap
  cap_le : cap ≤ 9223372036854775807
  rd : Strs w a l
  none_ : a = none → n = 0 ∧ cap = 0
  add0 : cap ≠ 0 → ∀ x, a = some x → x.add 0 = x
section
open Go.ChangeShapes Go.WideShapes Go.ChangeAt
theorem strs_of_trod {H : Type} {enc : TypeId × Value → H} {P : Program} {w : World} {base : Nat} {t e : TypeId} {fuel : Nat} {cs : List Value} {x : DataW H × List MemPlace}
    (ht : P.underlying t = some (.slice e)) (he : P.underlying e = some .string) (hc : P.cellsOf e = 1)
    (h : DataW.trod enc P w base (fun _ => true) true fuel t cs = some x) :
    ∃ (a : Option Addr) (n cap : Nat) (l : List ByteArray), cs = [.slice a n cap] ∧ StrsIn w a n cap l := by
  have hm0 : (maxLen : Nat) = 9223372036854775807 := by decide
  rcases open_strings ht he hc h with ⟨rfl, _⟩ | ⟨a, len, cap, ss, rfl, _, hl, hm, hlen, _, hcell, _⟩
  · exact ⟨none, 0, 0, [], rfl, rfl, Nat.le_refl _, by omega, Strs.nil _ _, fun _ => ⟨rfl, rfl⟩, fun h => absurd rfl h⟩
  · rw [if_pos rfl] at hlen
    obtain ⟨b, off, spot⟩ := a
    have hspot : 0 < ss.length → spot = none := fun hi => by simpa [Addr.add] using World.cell?_spot (hcell 0 hi)
    refine ⟨some ⟨b, off, spot⟩, len, cap, ss.take len, rfl, by rw [List.length_take]; omega, hl, by omega, fun hne => ?_, (fun e => by cases e), fun hcp x hx => ?_⟩
    · have hpos : 0 < ss.length := by
        rcases Nat.eq_zero_or_pos ss.length with h0 | h0
        · exact absurd (by rw [List.eq_nil_of_length_eq_zero h0]; simp) hne
        · exact h0
      obtain rfl := hspot hpos
      refine ⟨b, off, rfl, fun i hi => ?_⟩
      rw [List.length_take] at hi
      have := hcell i (by omega)
      rw [Addr.add_lit] at this
      rw [this, List.getD_eq_getElem?_getD, List.getD_eq_getElem?_getD, List.getElem?_take_of_lt (by omega)]; rfl
    · cases hx
      obtain rfl := hspot (by omega)
      rfl
end
end Go.Proofs.Ytkgkjjkefifpaaa
