/-
  The document's pack: Plan where the place is none.
-/
import Derived.Test.YtonlhkhjdnaojaaPdPlan
namespace Go.Proofs.Ytonlhkhjdnaojaa
open Go.RowKit

section
variable {w : World} (fa : Option Addr) (fn fc : Nat) (ia : Option Addr) (inn ic : Nat) (left size : Int)
set_option maxHeartbeats 1000000 in
theorem rplan_bad (h : badP left size) : Calls Try.prog 12 #[.slice fa fn fc, .slice ia inn ic, .int .i64 left, .int .i64 size] w fun e w' => e = .returned (.tuple #[.slice none 0 0, .int .i64 22]) ∧ w = w' := by
  by_cases h1 : size < 8
  · clear h
    go_enter Try.func12, Try.ntmps12
    go_wp2
    go_ret2
    exact ⟨rfl, rfl⟩
  · by_cases h2 : 64 < size
    · clear h
      go_enter Try.func12, Try.ntmps12
      go_wp2
      go_ret2
      exact ⟨rfl, rfl⟩
    · by_cases h3 : left < 0
      · clear h
        go_enter Try.func12, Try.ntmps12
        go_wp2
        go_ret2
        exact ⟨rfl, rfl⟩
      · have h4 : size < left := by unfold badP at h; omega
        clear h
        go_enter Try.func12, Try.ntmps12
        go_wp2
        go_ret2
        exact ⟨rfl, rfl⟩
end
end Go.Proofs.Ytonlhkhjdnaojaa
