/-
  The four bytes of a number as the document has them, and two of them.
-/
import Derived.Test.YtkdjfhbdcfjnnaaSwFil
namespace Go.Proofs.Ytkdjfhbdcfjnnaa
open Go.RowKit

set_option maxHeartbeats 400000 in
theorem four_any (n : Nat) (w : World) (hn : n < 4294967296) :
    Calls Try.prog 37 #[.int .i64 n] w fun e w' => e = .returned (.slice (some ⟨w.heap.size, 0, none⟩) 4 4) ∧ w' = w.alloc (.cells (cellsB (num 4 n)).toArray U8) := by
  go_enter Try.func37, Try.ntmps37
  go_wp2
  go_ret
  refine ⟨rfl, ?_⟩
  rw [num_4]
  first
    | rfl
    | (have e3 : n / 16777216 % 256 = n / 16777216 := by omega
       rw [e3]; rfl)
theorem size_u8f (w : World) : (Go.sizeOf 5).run Try.prog w = .ok 1 w := by kernel_rfl
theorem cut_two (g : Nat) (W : World) :
    (Instr.slice 30 (.slice (some ⟨g, 0, none⟩) 4 4) none (some (.int .i64 2)) none).run Try.prog W = .ok (.slice (some ⟨g, 0, none⟩) 2 4) W := by
  have ht' : Try.prog.underlying 30 = some (.slice (Try.prog.elem 30)) := by simp [Program.elem, Try.underlying30]
  have he : Try.prog.elem 30 = 5 := by simp [Program.elem, Try.underlying30]

  rw [run_slice_h W 30 _ _ _ ht' .i64 2 (by omega) (by omega), he, size_u8f]
  simp [Result.andThen, sliced, Addr.add]
theorem num_42 (n : Nat) : (num 4 n).take 2 = num 2 n := by rw [num_4, num_2]; rfl
set_option maxHeartbeats 1000000 in
theorem two_any (n : Nat) (w : World) (hn : n < 4294967296) :
    Calls Try.prog 36 #[.int .i64 n] w fun e w' => ∃ g, e = .returned (.slice (some ⟨g, 0, none⟩) 2 4) ∧ Bytes w' (some ⟨g, 0, none⟩) (num 2 n) ∧ w.heap.size ≤ g ∧ Blo w' g U8 (cellsB (num 4 n)).toArray ∧ Below w.heap.size w w' := by
  go_enter Try.func36, Try.ntmps36
  go_wp2_with fail
  refine (four_any n _ hn).mono ?_
  rintro e w1 ⟨rfl, rfl⟩
  have hs1 := fun W => cut_two w.heap.size W
  have HBl := Lib.hid (blo_laid w U8 (cellsB (num 4 n)).toArray)
  have HB := Lib.hid (sup_pc w (.cells (cellsB (num 4 n)).toArray U8))
  go_wp2
  go_ret
  refine ⟨w.heap.size, rfl, ?_, Nat.le_refl _, HBl.out, HB.out⟩
  refine ⟨num_lt _ _, by simp [num_len], fun _ => ⟨w.heap.size, 0, rfl, fun i hi => ?_⟩⟩
  rw [num_len] at hi
  rw [HBl.out.cell, Nat.zero_add, ← Array.getElem?_toList]
  show (cellsB (num 4 n))[i]? = _
  rw [cellsB_get (num 4 n) i (by rw [num_len]; omega), ← num_42]
  simp [List.getD_eq_getElem?_getD, List.getElem?_take_of_lt hi]
end Go.Proofs.Ytkdjfhbdcfjnnaa
