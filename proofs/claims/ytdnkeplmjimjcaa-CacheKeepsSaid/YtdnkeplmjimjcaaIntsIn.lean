/-
  A slice of integers that came in.
-/
import Derived.Test.YtdnkeplmjimjcaaMem
import Derived.Test.YtdnkeplmjimjcaaStructs
namespace Go.Proofs.Ytdnkeplmjimjcaa
open Go.RowKit

structure IntsIn (w : World) (a : Option Addr) (len cap : Nat) (l : List Int) : Prop where
  ints : Ints w a l
  leq : len = l.length
  lenm : len ≤ 9223372036854775807
  nil : a = .none → len = 0 ∧ cap = 0
  wf : ∀ n ∈ l, (Lit.int .i64 n).wf = true
section
open Go.ChangeShapes Go.WideShapes Go.Deep
variable {H : Type} {enc : TypeId × Value → H} {P : Program} {w : World} {base : Nat} {held : Bool} {spare : Nat → Bool}
theorem intsIn_of_trod {t e : TypeId} {fuel : Nat} {cs : List Value} {x : DataW H × List MemPlace} (ht : P.underlying t = some (.slice e)) (he : P.underlying e = some (.int .i64)) (hc : P.cellsOf e = 1)
    (h : DataW.trod enc P w base (fun _ => true) held fuel t cs = some x) : ∃ a n cap l, cs = [.slice a n cap] ∧ IntsIn w a n cap l := by
  have hmx : (maxLen : Nat) = 9223372036854775807 := by decide
  rcases open_ints ht he hc h with ⟨hcs, _⟩ | ⟨a, n, cap, zs, hcs, h0, h1, h2, h3, hx, hcell, hwz⟩
  · exact ⟨none, 0, 0, [], hcs, Ints.nil _ _, rfl, by decide, fun _ => ⟨rfl, rfl⟩, fun n hn => by cases hn⟩
  · have h3' : zs.length = cap := by simpa using h3
    refine ⟨some a, n, cap, zs.take n, hcs, fun hne => ?_, by rw [List.length_take]; omega, by omega, (fun h => by cases h), fun m hm => hwz m (List.mem_of_mem_take hm)⟩
    have hlen : 0 < n := by
      rcases Nat.eq_zero_or_pos n with h | h
      · subst h; simp at hne
      · exact h
    obtain ⟨b, off, rfl, hcl⟩ := Go.ints_at hcell (by omega)
    refine ⟨b, off, rfl, fun i hi => ?_⟩
    rw [List.length_take] at hi
    rw [hcl i (by omega), List.getD_eq_getElem?_getD, List.getD_eq_getElem?_getD, List.getElem?_take_of_lt (by omega)]
end
end Go.Proofs.Ytdnkeplmjimjcaa
