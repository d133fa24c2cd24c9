/-
  The walks of bytes.Equal.
-/
import Derived.Test.YtkdjfhbdcfjnnaaKit
import Derived.Test.YtkdjfhbdcfjnnaaRows
namespace Go.Proofs.Ytkdjfhbdcfjnnaa
open Go.RowKit

set_option maxHeartbeats 400000 in
theorem equal_same (l : List Nat) (n : Nat) (hn : n = l.length) (a1 a2 : Option Addr) (c1 c2 : Nat) (w : World) (h1 : Bytes w a1 l) (h2 : Bytes w a2 l) :
    Calls Try.prog 35 #[.slice a1 n c1, .slice a2 n c2] w fun e w' => e = .returned (.bool true) ∧ w = w' := by
  have s1 := run_str w 30 9 5 Try.underlying30 Try.underlying5 Try.underlying9 l a1 n c1 hn h1
  have s2 := run_str w 30 9 5 Try.underlying30 Try.underlying5 Try.underlying9 l a2 n c2 hn h2
  clear h1 h2 hn
  go_enter Try.func35, Try.ntmps35
  go_wp2
  go_ret
  exact ⟨rfl, rfl⟩
set_option maxHeartbeats 400000 in
theorem equal_ne (l m : List Nat) (n k : Nat) (hn : n = l.length) (hk : k = m.length) (hne : l ≠ m) (a1 a2 : Option Addr) (c1 c2 : Nat) (w : World) (h1 : Bytes w a1 l) (h2 : Bytes w a2 m) :
    Calls Try.prog 35 #[.slice a1 n c1, .slice a2 k c2] w fun e w' => e = .returned (.bool false) ∧ w = w' := by
  have s1 := run_str w 30 9 5 Try.underlying30 Try.underlying5 Try.underlying9 l a1 n c1 hn h1
  have s2 := run_str w 30 9 5 Try.underlying30 Try.underlying5 Try.underlying9 m a2 k c2 hk h2
  have hs := str_ne h1.1 h2.1 hne
  clear h1 h2 hn hk hne
  generalize strOf l = x at *
  generalize strOf m = y at *
  go_enter Try.func35, Try.ntmps35
  go_wp2
  go_ret
  exact ⟨by simp [hs], rfl⟩
end Go.Proofs.Ytkdjfhbdcfjnnaa
