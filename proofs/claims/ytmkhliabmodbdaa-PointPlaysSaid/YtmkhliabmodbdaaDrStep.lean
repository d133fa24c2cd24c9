/-
  The document's disk: a step of it, and Arm.
-/
import Derived.Test.YtmkhliabmodbdaaDkWalks
namespace Go.Proofs.Ytmkhliabmodbdaa
open Go.RowKit

abbrev RDT := 31
theorem dr_two (w : World) (o1 o2 : Obj) : Below w.heap.size w ((w.alloc o1).alloc o2) := ((Below.refl _ _).alloc (Nat.le_refl _) _).alloc (by simp) _
set_option maxHeartbeats 1000000 in
theorem rstep_dead (sa qa : Option Addr) (n sc m qc : Nat) (st : Int) (w : World) :
    Calls Try.prog 43 #[.agg #[.slice sa n sc, .slice qa m qc, .int .i64 st, .int .i64 0]] w fun e w' => e = .returned (.tuple #[.agg #[.slice sa n sc, .slice qa m qc, .int .i64 st, .int .i64 0], .bool false]) ∧ Below w.heap.size w w' := by
  go_enter Try.func43, Try.ntmps43
  go_wp2
  refine bodyPost_ret (v := .tuple #[.agg #[.slice sa n sc, .slice qa m qc, .int .i64 st, .int .i64 0], .bool false]) ?_ rfl ⟨rfl, dr_two _ _ _⟩
  simp [results, Try.results43, go_sem]
set_option maxHeartbeats 1000000 in
theorem rstep_arm (sa qa : Option Addr) (n sc m qc : Nat) (st lf : Int) (h1 : 0 ≤ st) (h2 : st < 1000000) (h3 : 0 < lf) (h4 : lf ≤ 9223372036854775807) (w : World) :
    Calls Try.prog 43 #[.agg #[.slice sa n sc, .slice qa m qc, .int .i64 st, .int .i64 lf]] w fun e w' => e = .returned (.tuple #[.agg #[.slice sa n sc, .slice qa m qc, .int .i64 (st + 1), .int .i64 (lf - 1)], .bool true]) ∧ Below w.heap.size w w' := by
  have h0 : (lf == 0) = false := by rw [beq_eq_false_iff_ne]; omega
  go_enter Try.func43, Try.ntmps43
  go_wp2
  refine bodyPost_ret (v := .tuple #[.agg #[.slice sa n sc, .slice qa m qc, .int .i64 (st + 1), .int .i64 (lf - 1)], .bool true]) ?_ rfl ⟨rfl, dr_two _ _ _⟩
  simp [results, Try.results43, go_sem]
set_option maxHeartbeats 1000000 in
theorem rstep_free (sa qa : Option Addr) (n sc m qc : Nat) (st : Int) (h1 : 0 ≤ st) (h2 : st < 1000000) (w : World) :
    Calls Try.prog 43 #[.agg #[.slice sa n sc, .slice qa m qc, .int .i64 st, .int .i64 (-1)]] w fun e w' => e = .returned (.tuple #[.agg #[.slice sa n sc, .slice qa m qc, .int .i64 (st + 1), .int .i64 (-1)], .bool true]) ∧ Below w.heap.size w w' := by
  go_enter Try.func43, Try.ntmps43
  go_wp2
  refine bodyPost_ret (v := .tuple #[.agg #[.slice sa n sc, .slice qa m qc, .int .i64 (st + 1), .int .i64 (-1)], .bool true]) ?_ rfl ⟨rfl, dr_two _ _ _⟩
  simp [results, Try.results43, go_sem]
set_option maxHeartbeats 1000000 in
theorem rarm_low (sa qa : Option Addr) (n sc m qc : Nat) (st lf k : Int) (hk : k < 0) (w : World) :
    Calls Try.prog 18 #[.agg #[.slice sa n sc, .slice qa m qc, .int .i64 st, .int .i64 lf], .int .i64 k] w fun e w' => e = .returned (.tuple #[.agg #[.slice sa n sc, .slice qa m qc, .int .i64 st, .int .i64 lf], .int .i64 22]) ∧ Below w.heap.size w w' := by
  go_enter Try.func18, Try.ntmps18
  go_wp2
  refine bodyPost_ret (v := .tuple #[.agg #[.slice sa n sc, .slice qa m qc, .int .i64 st, .int .i64 lf], .int .i64 22]) ?_ rfl ⟨rfl, dr_two _ _ _⟩
  simp [results, Try.results18, go_sem]
set_option maxHeartbeats 1000000 in
theorem rarm_dead (sa qa : Option Addr) (n sc m qc : Nat) (st k : Int) (hk : ¬ k < 0) (w : World) :
    Calls Try.prog 18 #[.agg #[.slice sa n sc, .slice qa m qc, .int .i64 st, .int .i64 0], .int .i64 k] w fun e w' => e = .returned (.tuple #[.agg #[.slice sa n sc, .slice qa m qc, .int .i64 st, .int .i64 0], .int .i64 102]) ∧ Below w.heap.size w w' := by
  go_enter Try.func18, Try.ntmps18
  go_wp2
  refine bodyPost_ret (v := .tuple #[.agg #[.slice sa n sc, .slice qa m qc, .int .i64 st, .int .i64 0], .int .i64 102]) ?_ rfl ⟨rfl, dr_two _ _ _⟩
  simp [results, Try.results18, go_sem]
set_option maxHeartbeats 1000000 in
theorem rarm_yes (sa qa : Option Addr) (n sc m qc : Nat) (st lf k : Int) (hk : ¬ k < 0) (hl : lf ≠ 0) (w : World) :
    Calls Try.prog 18 #[.agg #[.slice sa n sc, .slice qa m qc, .int .i64 st, .int .i64 lf], .int .i64 k] w fun e w' => e = .returned (.tuple #[.agg #[.slice sa n sc, .slice qa m qc, .int .i64 st, .int .i64 k], .int .i64 0]) ∧ Below w.heap.size w w' := by
  have h0 : (lf == 0) = false := by rw [beq_eq_false_iff_ne]; exact hl
  go_enter Try.func18, Try.ntmps18
  go_wp2
  refine bodyPost_ret (v := .tuple #[.agg #[.slice sa n sc, .slice qa m qc, .int .i64 st, .int .i64 k], .int .i64 0]) ?_ rfl ⟨rfl, dr_two _ _ _⟩
  simp [results, Try.results18, go_sem]
end Go.Proofs.Ytmkhliabmodbdaa
