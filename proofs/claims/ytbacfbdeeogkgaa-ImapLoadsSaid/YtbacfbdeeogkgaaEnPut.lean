/-
  Numbers as bytes, the low one first: put, get.
-/
import Derived.Test.YtbacfbdeeogkgaaMem
import Derived.Test.YtbacfbdeeogkgaaKit
import Derived.Test.YtbacfbdeeogkgaaRows
import Derived.Test.YtbacfbdeeogkgaaSumTellsMath
import Derived.Deep.QuietTactic
import Derived.BigQuiet
import Derived.Deep.RegionHeld
namespace Go.Proofs.Ytbacfbdeeogkgaa
open Go.RowKit

set_option maxHeartbeats 400000 in
theorem put2_any (v g k c : Nat) (w : World) (x0 x1 : Value) (hv : v < 65536) (c0 : w.cell? ⟨g, k, none⟩ = some x0) (c1 : w.cell? ⟨g, k + 1, none⟩ = some x1) (f0 : w.frozen? ⟨g, k, none⟩ = false) (f1 : w.frozen? ⟨g, k + 1, none⟩ = false) :
    Calls Try.prog 52 #[.slice (some ⟨g, k, none⟩) 2 c, .int .i64 v] w fun e w' => e = .returned (.tuple #[]) ∧ w' = (w.setCell ⟨g, k, none⟩ (.int .u8 (v % 256 : Nat))).setCell ⟨g, k + 1, none⟩ (.int .u8 (v / 256 % 256 : Nat)) := by
  have e3 : v / 256 % 256 = v / 256 := by omega
  rw [e3]
  clear e3
  go_enter Try.func52, Try.ntmps52
  go_wp2
  refine wp_loop_rounds 3 ?_
  rw [rounds_succ]
  go_wp2
  rw [rounds_succ]
  go_wp2
  rw [rounds_succ]
  go_wp2
  go_end0
  exact ⟨rfl, rfl⟩
set_option maxHeartbeats 400000 in
theorem put4_any (v g k c : Nat) (w : World) (x0 x1 x2 x3 : Value) (hv : v < 4294967296)
    (c0 : w.cell? ⟨g, k, none⟩ = some x0) (c1 : w.cell? ⟨g, k + 1, none⟩ = some x1) (c2 : w.cell? ⟨g, k + 2, none⟩ = some x2) (c3 : w.cell? ⟨g, k + 3, none⟩ = some x3)
    (f0 : w.frozen? ⟨g, k, none⟩ = false) (f1 : w.frozen? ⟨g, k + 1, none⟩ = false) (f2 : w.frozen? ⟨g, k + 2, none⟩ = false) (f3 : w.frozen? ⟨g, k + 3, none⟩ = false) :
    Calls Try.prog 52 #[.slice (some ⟨g, k, none⟩) 4 c, .int .i64 v] w fun e w' => e = .returned (.tuple #[]) ∧
      w' = (((w.setCell ⟨g, k, none⟩ (.int .u8 (v % 256 : Nat))).setCell ⟨g, k + 1, none⟩ (.int .u8 (v / 256 % 256 : Nat))).setCell ⟨g, k + 2, none⟩ (.int .u8 (v / 65536 % 256 : Nat))).setCell ⟨g, k + 3, none⟩ (.int .u8 (v / 16777216 % 256 : Nat)) := by
  have e3 : v / 16777216 % 256 = v / 16777216 := by omega
  rw [e3]
  clear e3
  go_enter Try.func52, Try.ntmps52
  go_wp2
  refine wp_loop_rounds 5 ?_
  rw [rounds_succ]
  go_wp2
  rw [rounds_succ]
  go_wp2
  rw [rounds_succ]
  go_wp2
  rw [rounds_succ]
  go_wp2
  rw [rounds_succ]
  go_wp2
  go_end0
  exact ⟨rfl, rfl⟩
theorem or_sum (a b k : Nat) (ha : a < 2 ^ k) : a ||| b * 2 ^ k = a + b * 2 ^ k := by
  rw [Nat.or_comm, ← Nat.shiftLeft_eq, ← Nat.shiftLeft_add_eq_or_of_lt ha, Nat.add_comm]
theorem or_i64 (a b : Nat) (ha : a < 9223372036854775808) (hb : b < 9223372036854775808) : bits .or .i64 (a : Int) (b : Int) = ((a ||| b : Nat) : Int) := by
  have hx : a ||| b < 2 ^ 63 := Nat.or_lt_two_pow (by omega) (by omega)
  show IntKind.i64.wrap ((BitVec.ofInt 64 (a : Int) ||| BitVec.ofInt 64 (b : Int)).toNat : Int) = _
  rw [BitVec.toNat_or, ofInt_u64 a (by omega), ofInt_u64 b (by omega), IntKind.wrap_i64]
  omega
theorem orl_b0 (x0 : Nat) (h : x0 < 256) : bits .or .i64 0 (x0 : Int) = (x0 : Int) := by
  have := or_i64 0 x0 (by omega) (by omega)
  rw [Nat.zero_or] at this
  exact this
theorem orl_b1 (a b : Nat) (ha : a < 256) (hb : b < 256) : bits .or .i64 (a : Int) ((b : Int) * 256) = ((a + b * 256 : Nat) : Int) := by
  have := or_i64 a (b * 256) (by omega) (by omega)
  rw [or_sum a b 8 ha] at this
  exact this
theorem orl_b2 (a b : Nat) (ha : a < 65536) (hb : b < 256) : bits .or .i64 (a : Int) ((b : Int) * 65536) = ((a + b * 65536 : Nat) : Int) := by
  have := or_i64 a (b * 65536) (by omega) (by omega)
  rw [or_sum a b 16 ha] at this
  exact this
theorem orl_b3 (a b : Nat) (ha : a < 16777216) (hb : b < 256) : bits .or .i64 (a : Int) ((b : Int) * 16777216) = ((a + b * 16777216 : Nat) : Int) := by
  have := or_i64 a (b * 16777216) (by omega) (by omega)
  rw [or_sum a b 24 ha] at this
  exact this
set_option maxHeartbeats 400000 in
theorem get2_any (x0 x1 b k c : Nat) (w : World) (h0 : x0 < 256) (h1 : x1 < 256) (c0 : w.cell? ⟨b, k, none⟩ = some (.int .u8 x0)) (c1 : w.cell? ⟨b, k + 1, none⟩ = some (.int .u8 x1)) :
    Calls Try.prog 39 #[.slice (some ⟨b, k, none⟩) 2 c] w fun e w' => e = .returned (.int .i64 (x0 + x1 * 256 : Nat)) ∧ w = w' := by
  go_enter Try.func39, Try.ntmps39
  go_wp2
  refine wp_loop_rounds 3 ?_
  rw [rounds_succ]
  go_wp2
  rw [rounds_succ]
  go_wp2
  rw [rounds_succ]
  go_wp2
  go_ret
  refine ⟨?_, rfl⟩
  have e : (bits BinOp.or IntKind.i64 (bits BinOp.or IntKind.i64 0 (x0 : Int)) ((x1 : Int) * 256)) = ((x0 + x1 * 256 : Nat) : Int) := by
    rw [orl_b0 x0 h0, orl_b1 x0 x1 h0 h1]
  show Ending.returned (Value.int .i64 (bits BinOp.or IntKind.i64 (bits BinOp.or IntKind.i64 0 (x0 : Int)) ((x1 : Int) * 256))) = _
  rw [e]
set_option maxHeartbeats 400000 in
theorem get4_any (x0 x1 x2 x3 b k c : Nat) (w : World) (h0 : x0 < 256) (h1 : x1 < 256) (h2 : x2 < 256) (h3 : x3 < 256)
    (c0 : w.cell? ⟨b, k, none⟩ = some (.int .u8 x0)) (c1 : w.cell? ⟨b, k + 1, none⟩ = some (.int .u8 x1)) (c2 : w.cell? ⟨b, k + 2, none⟩ = some (.int .u8 x2)) (c3 : w.cell? ⟨b, k + 3, none⟩ = some (.int .u8 x3)) :
    Calls Try.prog 39 #[.slice (some ⟨b, k, none⟩) 4 c] w fun e w' => e = .returned (.int .i64 (x0 + x1 * 256 + x2 * 65536 + x3 * 16777216 : Nat)) ∧ w = w' := by
  go_enter Try.func39, Try.ntmps39
  go_wp2
  refine wp_loop_rounds 5 ?_
  rw [rounds_succ]
  go_wp2
  rw [rounds_succ]
  go_wp2
  rw [rounds_succ]
  go_wp2
  rw [rounds_succ]
  go_wp2
  rw [rounds_succ]
  go_wp2
  go_ret
  refine ⟨?_, rfl⟩
  have e : (bits BinOp.or IntKind.i64 (bits BinOp.or IntKind.i64 (bits BinOp.or IntKind.i64 (bits BinOp.or IntKind.i64 0 (x0 : Int)) ((x1 : Int) * 256)) ((x2 : Int) * 65536)) ((x3 : Int) * 16777216)) = ((x0 + x1 * 256 + x2 * 65536 + x3 * 16777216 : Nat) : Int) := by
    rw [orl_b0 x0 h0, orl_b1 x0 x1 h0 h1, orl_b2 _ x2 (by omega) h2, orl_b3 _ x3 (by omega) h3]
  rw [← e]
  rfl
end Go.Proofs.Ytbacfbdeeogkgaa
