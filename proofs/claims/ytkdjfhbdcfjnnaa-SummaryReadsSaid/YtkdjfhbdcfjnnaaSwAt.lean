/-
  marlref06.at: the byte at a place, 0 behind the end.
-/
import Derived.Test.YtkdjfhbdcfjnnaaSwMath
import Derived.Test.YtkdjfhbdcfjnnaaSwRdM
namespace Go.Proofs.Ytkdjfhbdcfjnnaa
open Go.RowKit

theorem at_any {w : World} (a : Option Addr) (n c : Nat) (l : List Nat) (i : Nat) (hn : n = l.length) (hy : Bytes w a l) (h9 : n ≤ 1000000) (hi : i ≤ 1000000) :
    Calls Try.prog 38 #[.slice a n c, .int .i64 i] w fun e w' => e = .returned (.int .i64 (at' l i : Nat)) ∧ w = w' := by
  by_cases h : i < n
  · obtain ⟨b, o, rfl, hc⟩ := hy.2.2 (fun e => by rw [e] at hn; simp at hn; omega)
    have c0 := hc i (by omega)
    have hlt := at_lt hy.1 i
    have e1 : l.getD i 0 = at' l i := rfl
    rw [e1] at c0
    generalize at' l i = z at *
    have h1 : (i : Int) < (n : Int) := by omega
    clear hn hy hc e1
    go_enter Try.func38, Try.ntmps38
    go_wp2
    go_ret
    exact ⟨by simp, rfl⟩
  · have e1 : at' l i = 0 := by unfold at'; rw [List.getD_eq_getElem?_getD, List.getElem?_eq_none (by omega)]; rfl
    rw [e1]
    have h1 : ¬ (i : Int) < (n : Int) := by omega
    clear hn hy e1
    go_enter Try.func38, Try.ntmps38
    go_wp2
    go_ret
    exact ⟨rfl, rfl⟩
end Go.Proofs.Ytkdjfhbdcfjnnaa
