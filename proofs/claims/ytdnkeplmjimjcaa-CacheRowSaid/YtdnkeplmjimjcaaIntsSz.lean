/-
  A slice of integers that came in, with the form's reach.
-/
import Derived.Test.YtdnkeplmjimjcaaIntsIn
namespace Go.Proofs.Ytdnkeplmjimjcaa
open Go.RowKit

section
open Go.ChangeShapes Go.WideShapes Go.Deep
variable {H : Type} {enc : TypeId × Value → H} {P : Program} {w : World} {base : Nat} {held : Bool}
theorem intsSz_of_trod {t e : TypeId} {fuel : Nat} {cs : List Value} {x : DataW H × List MemPlace} (ht : P.underlying t = some (.slice e)) (he : P.underlying e = some (.int .i64)) (hc : P.cellsOf e = 1) (hb : P.bytesOf e = 8)
    (h : DataW.trod enc P w base (fun _ => true) held fuel t cs = some x) (hw : ∀ q ∈ x.1.weights P t, q ≤ reachBytes) : ∃ a n cap l, cs = [.slice a n cap] ∧ IntsIn w a n cap l ∧ n ≤ 140737488351232 := by
  have hr : reachBytes = 140737488351232 := rfl
  obtain ⟨a, n, cap, l, hcs, hl⟩ := intsIn_of_trod ht he hc h
  refine ⟨a, n, cap, l, hcs, hl, ?_⟩
  rcases open_ints ht he hc h with ⟨hcs', _⟩ | ⟨a', n', cap', zs, hcs', h0, h1, h2, h3, hx, hcell, hwz⟩
  · rw [hcs'] at hcs
    cases hcs
    omega
  · rw [hcs'] at hcs
    cases hcs
    have h3' : zs.length = cap := by simpa using h3
    have hq := hw (((lits (H := H) .i64 (zs.take n)).length + (lits (H := H) .i64 (zs.drop n)).length) * 8) (by rw [hx]; simp [DataW.weights, ht, hb])
    simp [lits] at hq
    omega
end
end Go.Proofs.Ytdnkeplmjimjcaa
