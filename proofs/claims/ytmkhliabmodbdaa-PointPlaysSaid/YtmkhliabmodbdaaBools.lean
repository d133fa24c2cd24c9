/-
  A slice of bools that came in.
-/
import Derived.Test.YtmkhliabmodbdaaDkCrash
import Derived.Deep.Grids
import Derived.OpenShut
namespace Go.Proofs.Ytmkhliabmodbdaa
open Go.RowKit
def IsBools (w : World) (a : Option Addr) (len : Nat) (l : List Bool) : Prop := len = l.length ∧ len ≤ 9223372036854775807 ∧ Bools w a l
section
open Go.ChangeShapes Go.WideShapes Go.Deep
theorem bools_of_trod {H : Type} {enc : TypeId × Value → H} {P : Program} {w : World} {base : Nat} {held : Bool} {t e : TypeId} {fuel : Nat} {cs : List Value} {x : DataW H × List MemPlace}
    (ht : P.underlying t = some (.slice e)) (he : P.underlying e = some .bool) (hc : P.cellsOf e = 1) (h : DataW.trod enc P w base (fun _ => true) held fuel t cs = some x) :
    ∃ a len cap l, cs = [.slice a len cap] ∧ IsBools w a len l := by
  rcases open_bools ht he hc h with ⟨rfl, _⟩ | ⟨a, len, cap, B, rfl, _, hl, hm, _, hi⟩
  · exact ⟨none, 0, 0, [], rfl, rfl, by decide, Bools.nil _ _⟩
  · have hmx : (maxLen : Nat) = 9223372036854775807 := by decide
    refine ⟨some a, len, cap, (List.range len).map B, rfl, by simp, by omega, fun hne => ?_⟩
    have hlen : 0 < len := by
      rcases Nat.eq_zero_or_pos len with h0 | h0
      · subst h0; exact absurd rfl hne
      · exact h0
    obtain ⟨b, off, spot⟩ := a
    have hspot : spot = none := by simpa [Addr.add] using World.cell?_spot (hi 0 (by omega))
    subst hspot
    refine ⟨b, off, rfl, fun i hi' => ?_⟩
    have hi2 : i < len := by simpa using hi'
    rw [← Go.WideShapes.add_plain, hi i (by omega), List.getD_eq_getElem?_getD]
    simp [hi2]
end
end Go.Proofs.Ytmkhliabmodbdaa
