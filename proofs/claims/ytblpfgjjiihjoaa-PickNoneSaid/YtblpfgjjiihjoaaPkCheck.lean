/-
  ok, and the closure of Best.
-/
import Derived.Test.YtblpfgjjiihjoaaPkHeapPop
namespace Go.Proofs.Ytblpfgjjiihjoaa
open Go.RowKit
section
variable {w w' : World}
theorem more_any (w : World) (a : Option Addr) (n c : Nat) (p : Addr) (k : Int) (hc : w.cell? p = some (.int .i64 k)) :
    Calls Try.prog 21 #[.slice a n c, .pointer (some p)] w fun e w' => e = .returned (.bool (decide ((n : Int) < k))) ∧ w = w' := by
  go_enter Try.func21, Try.ntmps21
  go_wp2
  go_ret
  exact ⟨rfl, rfl⟩
def okB (seg live cap age : Int) : Bool := decide (1 ≤ cap ∧ cap ≤ 64 ∧ 0 ≤ live ∧ live ≤ cap ∧ 0 ≤ age ∧ age ≤ 2147483648)
theorem ok_any (seg live cap age : Int) (w : World) :
    Calls Try.prog 23 #[.agg #[.int .i64 seg, .int .i64 live, .int .i64 cap, .int .i64 age]] w fun e w' => e = .returned (.bool (okB seg live cap age)) ∧ Below w.heap.size w w' := by
  go_enter Try.func23, Try.ntmps23
  go_wp2
  all_goals go_ret
  all_goals refine ⟨?_, by first | exact ((Below.refl _ _).alloc (Nat.le_refl _) _).drew | exact (Below.refl _ _).alloc (Nat.le_refl _) _⟩
  all_goals (show Ending.returned (.bool _) = _; unfold okB)
  all_goals first | rw [decide_eq_false (by omega)] | rw [decide_eq_true (by omega)] | exact congrArg (fun b => Ending.returned (.bool b)) (decide_eq_decide.2 (by omega))
theorem okB_good (c : Cd) : okB c.seg c.live c.cap c.age = true ↔ GoodC c := by
  unfold okB GoodC
  rw [decide_eq_true_iff]
end
end Go.Proofs.Ytblpfgjjiihjoaa
