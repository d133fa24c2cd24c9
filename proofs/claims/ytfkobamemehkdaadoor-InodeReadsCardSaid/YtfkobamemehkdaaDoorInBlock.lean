/-
  The walk of a block of pointers.
-/
import Derived.Test.YtfkobamemehkdaaDoorInAwake
namespace Go.Proofs.YtfkobamemehkdaaDoor
open Go.RowKit

/-- Sixteen pointers. -/
abbrev ptrs (p0 p1 p2 p3 p4 p5 p6 p7 p8 p9 p10 p11 p12 p13 p14 p15 : Nat) : Array Value := #[.int .u32 p0, .int .u32 p1, .int .u32 p2, .int .u32 p3, .int .u32 p4, .int .u32 p5, .int .u32 p6, .int .u32 p7, .int .u32 p8, .int .u32 p9, .int .u32 p10, .int .u32 p11, .int .u32 p12, .int .u32 p13, .int .u32 p14, .int .u32 p15]
def blkN (p0 p1 p2 p3 p4 p5 p6 p7 p8 p9 p10 p11 p12 p13 p14 p15 : Nat) : List Nat := le4 p0 ++ (le4 p1 ++ (le4 p2 ++ (le4 p3 ++ (le4 p4 ++ (le4 p5 ++ (le4 p6 ++ (le4 p7 ++ (le4 p8 ++ (le4 p9 ++ (le4 p10 ++ (le4 p11 ++ (le4 p12 ++ (le4 p13 ++ (le4 p14 ++ (le4 p15)))))))))))))))
theorem blkN_length (p0 p1 p2 p3 p4 p5 p6 p7 p8 p9 p10 p11 p12 p13 p14 p15 : Nat) : (blkN p0 p1 p2 p3 p4 p5 p6 p7 p8 p9 p10 p11 p12 p13 p14 p15).length = 64 := rfl
theorem blkN_lt (p0 p1 p2 p3 p4 p5 p6 p7 p8 p9 p10 p11 p12 p13 p14 p15 : Nat) : ∀ x ∈ blkN p0 p1 p2 p3 p4 p5 p6 p7 p8 p9 p10 p11 p12 p13 p14 p15, x < 256 := lt_append (le4_lt p0) (lt_append (le4_lt p1) (lt_append (le4_lt p2) (lt_append (le4_lt p3) (lt_append (le4_lt p4) (lt_append (le4_lt p5) (lt_append (le4_lt p6) (lt_append (le4_lt p7) (lt_append (le4_lt p8) (lt_append (le4_lt p9) (lt_append (le4_lt p10) (lt_append (le4_lt p11) (lt_append (le4_lt p12) (lt_append (le4_lt p13) (lt_append (le4_lt p14) (le4_lt p15)))))))))))))))
theorem blk_put (p0 p1 p2 p3 p4 p5 p6 p7 p8 p9 p10 p11 p12 p13 p14 p15 : Nat) : (set4 (set4 (set4 (set4 (set4 (set4 (set4 (set4 (set4 (set4 (set4 (set4 (set4 (set4 (set4 (set4 (List.replicate 64 0) 0 p0) 4 p1) 8 p2) 12 p3) 16 p4) 20 p5) 24 p6) 28 p7) 32 p8) 36 p9) 40 p10) 44 p11) 48 p12) 52 p13) 56 p14) 60 p15) = blkN p0 p1 p2 p3 p4 p5 p6 p7 p8 p9 p10 p11 p12 p13 p14 p15 := by kernel_rfl
def Blocked (w : World) (l : List Nat) (e : Ending) (w' : World) : Prop := ∃ g, e = .returned (.slice (some ⟨g, 0, none⟩) 64 64) ∧ Row w' g l ∧ w.heap.size ≤ g ∧ Below w.heap.size w w'
set_option maxRecDepth 20000 in
set_option maxHeartbeats 4000000 in
theorem block_any (p0 p1 p2 p3 p4 p5 p6 p7 p8 p9 p10 p11 p12 p13 p14 p15 : Nat) (w : World) (q0 : p0 < 4294967296) (q1 : p1 < 4294967296) (q2 : p2 < 4294967296) (q3 : p3 < 4294967296) (q4 : p4 < 4294967296) (q5 : p5 < 4294967296) (q6 : p6 < 4294967296) (q7 : p7 < 4294967296) (q8 : p8 < 4294967296) (q9 : p9 < 4294967296) (q10 : p10 < 4294967296) (q11 : p11 < 4294967296) (q12 : p12 < 4294967296) (q13 : p13 < 4294967296) (q14 : p14 < 4294967296) (q15 : p15 < 4294967296) :
    Calls Tryd.prog 17 #[.agg (ptrs p0 p1 p2 p3 p4 p5 p6 p7 p8 p9 p10 p11 p12 p13 p14 p15)] w (Blocked w (blkN p0 p1 p2 p3 p4 p5 p6 p7 p8 p9 p10 p11 p12 p13 p14 p15)) := by
  have HB1 := Lib.hid (sup_below w (.cells (ptrs p0 p1 p2 p3 p4 p5 p6 p7 p8 p9 p10 p11 p12 p13 p14 p15) 39))
  have hmk : ∀ W, (Instr.makeSlice 27 (.int .i64 64) (.int .i64 64)).run Tryd.prog W = .ok (.slice (some ⟨W.heap.size, 0, none⟩) 64 64) (W.alloc (.cells (zrow 64) 5)) := fun W => run_make_bytes (P := Tryd.prog) 27 5 Tryd.underlying27 info_u8 W 64 64 rfl (by omega)
  have hr0 := row_laid (w.alloc (.cells (ptrs p0 p1 p2 p3 p4 p5 p6 p7 p8 p9 p10 p11 p12 p13 p14 p15) 39)) (List.replicate 64 0)
  have HR0 : Hid (Row ((w.alloc (.cells (ptrs p0 p1 p2 p3 p4 p5 p6 p7 p8 p9 p10 p11 p12 p13 p14 p15) 39)).alloc (.cells (zrow 64) 5)) (w.heap.size + 1) (List.replicate 64 0)) := by
    rw [show (w.alloc (.cells (ptrs p0 p1 p2 p3 p4 p5 p6 p7 p8 p9 p10 p11 p12 p13 p14 p15) 39)).heap.size = w.heap.size + 1 by simp] at hr0
    exact hr0
  have HB0 : Hid (Below (w.heap.size + 1) (w.alloc (.cells (ptrs p0 p1 p2 p3 p4 p5 p6 p7 p8 p9 p10 p11 p12 p13 p14 p15) 39)) ((w.alloc (.cells (ptrs p0 p1 p2 p3 p4 p5 p6 p7 p8 p9 p10 p11 p12 p13 p14 p15) 39)).alloc (.cells (zrow 64) 5))) := (Below.refl _ _).alloc (by simp) _
  have G0 := Lib.hid ((blo_laid w 39 (ptrs p0 p1 p2 p3 p4 p5 p6 p7 p8 p9 p10 p11 p12 p13 p14 p15)).alloc (.cells (zrow 64) 5))
  clear hr0
  go_enter Tryd.func17, Tryd.ntmps17
  have x0 : ((w.alloc (.cells (ptrs p0 p1 p2 p3 p4 p5 p6 p7 p8 p9 p10 p11 p12 p13 p14 p15) 39)).alloc (.cells (zrow 64) 5)).cell? ⟨w.heap.size, 0, none⟩ = some (.int .u32 p0) := by rw [G0.out.cell 0]; rfl
  have x1 : ((w.alloc (.cells (ptrs p0 p1 p2 p3 p4 p5 p6 p7 p8 p9 p10 p11 p12 p13 p14 p15) 39)).alloc (.cells (zrow 64) 5)).cell? ⟨w.heap.size, 1, none⟩ = some (.int .u32 p1) := by rw [G0.out.cell 1]; rfl
  have x2 : ((w.alloc (.cells (ptrs p0 p1 p2 p3 p4 p5 p6 p7 p8 p9 p10 p11 p12 p13 p14 p15) 39)).alloc (.cells (zrow 64) 5)).cell? ⟨w.heap.size, 2, none⟩ = some (.int .u32 p2) := by rw [G0.out.cell 2]; rfl
  have x3 : ((w.alloc (.cells (ptrs p0 p1 p2 p3 p4 p5 p6 p7 p8 p9 p10 p11 p12 p13 p14 p15) 39)).alloc (.cells (zrow 64) 5)).cell? ⟨w.heap.size, 3, none⟩ = some (.int .u32 p3) := by rw [G0.out.cell 3]; rfl
  have x4 : ((w.alloc (.cells (ptrs p0 p1 p2 p3 p4 p5 p6 p7 p8 p9 p10 p11 p12 p13 p14 p15) 39)).alloc (.cells (zrow 64) 5)).cell? ⟨w.heap.size, 4, none⟩ = some (.int .u32 p4) := by rw [G0.out.cell 4]; rfl
  have x5 : ((w.alloc (.cells (ptrs p0 p1 p2 p3 p4 p5 p6 p7 p8 p9 p10 p11 p12 p13 p14 p15) 39)).alloc (.cells (zrow 64) 5)).cell? ⟨w.heap.size, 5, none⟩ = some (.int .u32 p5) := by rw [G0.out.cell 5]; rfl
  have x6 : ((w.alloc (.cells (ptrs p0 p1 p2 p3 p4 p5 p6 p7 p8 p9 p10 p11 p12 p13 p14 p15) 39)).alloc (.cells (zrow 64) 5)).cell? ⟨w.heap.size, 6, none⟩ = some (.int .u32 p6) := by rw [G0.out.cell 6]; rfl
  have x7 : ((w.alloc (.cells (ptrs p0 p1 p2 p3 p4 p5 p6 p7 p8 p9 p10 p11 p12 p13 p14 p15) 39)).alloc (.cells (zrow 64) 5)).cell? ⟨w.heap.size, 7, none⟩ = some (.int .u32 p7) := by rw [G0.out.cell 7]; rfl
  have x8 : ((w.alloc (.cells (ptrs p0 p1 p2 p3 p4 p5 p6 p7 p8 p9 p10 p11 p12 p13 p14 p15) 39)).alloc (.cells (zrow 64) 5)).cell? ⟨w.heap.size, 8, none⟩ = some (.int .u32 p8) := by rw [G0.out.cell 8]; rfl
  have x9 : ((w.alloc (.cells (ptrs p0 p1 p2 p3 p4 p5 p6 p7 p8 p9 p10 p11 p12 p13 p14 p15) 39)).alloc (.cells (zrow 64) 5)).cell? ⟨w.heap.size, 9, none⟩ = some (.int .u32 p9) := by rw [G0.out.cell 9]; rfl
  have x10 : ((w.alloc (.cells (ptrs p0 p1 p2 p3 p4 p5 p6 p7 p8 p9 p10 p11 p12 p13 p14 p15) 39)).alloc (.cells (zrow 64) 5)).cell? ⟨w.heap.size, 10, none⟩ = some (.int .u32 p10) := by rw [G0.out.cell 10]; rfl
  have x11 : ((w.alloc (.cells (ptrs p0 p1 p2 p3 p4 p5 p6 p7 p8 p9 p10 p11 p12 p13 p14 p15) 39)).alloc (.cells (zrow 64) 5)).cell? ⟨w.heap.size, 11, none⟩ = some (.int .u32 p11) := by rw [G0.out.cell 11]; rfl
  have x12 : ((w.alloc (.cells (ptrs p0 p1 p2 p3 p4 p5 p6 p7 p8 p9 p10 p11 p12 p13 p14 p15) 39)).alloc (.cells (zrow 64) 5)).cell? ⟨w.heap.size, 12, none⟩ = some (.int .u32 p12) := by rw [G0.out.cell 12]; rfl
  have x13 : ((w.alloc (.cells (ptrs p0 p1 p2 p3 p4 p5 p6 p7 p8 p9 p10 p11 p12 p13 p14 p15) 39)).alloc (.cells (zrow 64) 5)).cell? ⟨w.heap.size, 13, none⟩ = some (.int .u32 p13) := by rw [G0.out.cell 13]; rfl
  have x14 : ((w.alloc (.cells (ptrs p0 p1 p2 p3 p4 p5 p6 p7 p8 p9 p10 p11 p12 p13 p14 p15) 39)).alloc (.cells (zrow 64) 5)).cell? ⟨w.heap.size, 14, none⟩ = some (.int .u32 p14) := by rw [G0.out.cell 14]; rfl
  have x15 : ((w.alloc (.cells (ptrs p0 p1 p2 p3 p4 p5 p6 p7 p8 p9 p10 p11 p12 p13 p14 p15) 39)).alloc (.cells (zrow 64) 5)).cell? ⟨w.heap.size, 15, none⟩ = some (.int .u32 p15) := by rw [G0.out.cell 15]; rfl
  go_wp2_with fail
  clear hmk x0 x1 x2 x3 x4 x5 x6 x7 x8 x9 x10 x11 x12 x13 x14 x15
  generalize ((w.alloc (.cells (ptrs p0 p1 p2 p3 p4 p5 p6 p7 p8 p9 p10 p11 p12 p13 p14 p15) 39)).alloc (.cells (zrow 64) 5)) = w0 at *
  have i0 : ∀ W, (Instr.index 39 (.agg #[.int .u32 p0, .int .u32 p1, .int .u32 p2, .int .u32 p3, .int .u32 p4, .int .u32 p5, .int .u32 p6, .int .u32 p7, .int .u32 p8, .int .u32 p9, .int .u32 p10, .int .u32 p11, .int .u32 p12, .int .u32 p13, .int .u32 p14, .int .u32 p15]) (.int .i64 0)).run Tryd.prog W = .ok (.int .u32 p0) W := fun _ => by kernel_rfl
  have i1 : ∀ W, (Instr.index 39 (.agg #[.int .u32 p0, .int .u32 p1, .int .u32 p2, .int .u32 p3, .int .u32 p4, .int .u32 p5, .int .u32 p6, .int .u32 p7, .int .u32 p8, .int .u32 p9, .int .u32 p10, .int .u32 p11, .int .u32 p12, .int .u32 p13, .int .u32 p14, .int .u32 p15]) (.int .i64 1)).run Tryd.prog W = .ok (.int .u32 p1) W := fun _ => by kernel_rfl
  have i2 : ∀ W, (Instr.index 39 (.agg #[.int .u32 p0, .int .u32 p1, .int .u32 p2, .int .u32 p3, .int .u32 p4, .int .u32 p5, .int .u32 p6, .int .u32 p7, .int .u32 p8, .int .u32 p9, .int .u32 p10, .int .u32 p11, .int .u32 p12, .int .u32 p13, .int .u32 p14, .int .u32 p15]) (.int .i64 2)).run Tryd.prog W = .ok (.int .u32 p2) W := fun _ => by kernel_rfl
  have i3 : ∀ W, (Instr.index 39 (.agg #[.int .u32 p0, .int .u32 p1, .int .u32 p2, .int .u32 p3, .int .u32 p4, .int .u32 p5, .int .u32 p6, .int .u32 p7, .int .u32 p8, .int .u32 p9, .int .u32 p10, .int .u32 p11, .int .u32 p12, .int .u32 p13, .int .u32 p14, .int .u32 p15]) (.int .i64 3)).run Tryd.prog W = .ok (.int .u32 p3) W := fun _ => by kernel_rfl
  have i4 : ∀ W, (Instr.index 39 (.agg #[.int .u32 p0, .int .u32 p1, .int .u32 p2, .int .u32 p3, .int .u32 p4, .int .u32 p5, .int .u32 p6, .int .u32 p7, .int .u32 p8, .int .u32 p9, .int .u32 p10, .int .u32 p11, .int .u32 p12, .int .u32 p13, .int .u32 p14, .int .u32 p15]) (.int .i64 4)).run Tryd.prog W = .ok (.int .u32 p4) W := fun _ => by kernel_rfl
  have i5 : ∀ W, (Instr.index 39 (.agg #[.int .u32 p0, .int .u32 p1, .int .u32 p2, .int .u32 p3, .int .u32 p4, .int .u32 p5, .int .u32 p6, .int .u32 p7, .int .u32 p8, .int .u32 p9, .int .u32 p10, .int .u32 p11, .int .u32 p12, .int .u32 p13, .int .u32 p14, .int .u32 p15]) (.int .i64 5)).run Tryd.prog W = .ok (.int .u32 p5) W := fun _ => by kernel_rfl
  have i6 : ∀ W, (Instr.index 39 (.agg #[.int .u32 p0, .int .u32 p1, .int .u32 p2, .int .u32 p3, .int .u32 p4, .int .u32 p5, .int .u32 p6, .int .u32 p7, .int .u32 p8, .int .u32 p9, .int .u32 p10, .int .u32 p11, .int .u32 p12, .int .u32 p13, .int .u32 p14, .int .u32 p15]) (.int .i64 6)).run Tryd.prog W = .ok (.int .u32 p6) W := fun _ => by kernel_rfl
  have i7 : ∀ W, (Instr.index 39 (.agg #[.int .u32 p0, .int .u32 p1, .int .u32 p2, .int .u32 p3, .int .u32 p4, .int .u32 p5, .int .u32 p6, .int .u32 p7, .int .u32 p8, .int .u32 p9, .int .u32 p10, .int .u32 p11, .int .u32 p12, .int .u32 p13, .int .u32 p14, .int .u32 p15]) (.int .i64 7)).run Tryd.prog W = .ok (.int .u32 p7) W := fun _ => by kernel_rfl
  have i8 : ∀ W, (Instr.index 39 (.agg #[.int .u32 p0, .int .u32 p1, .int .u32 p2, .int .u32 p3, .int .u32 p4, .int .u32 p5, .int .u32 p6, .int .u32 p7, .int .u32 p8, .int .u32 p9, .int .u32 p10, .int .u32 p11, .int .u32 p12, .int .u32 p13, .int .u32 p14, .int .u32 p15]) (.int .i64 8)).run Tryd.prog W = .ok (.int .u32 p8) W := fun _ => by kernel_rfl
  have i9 : ∀ W, (Instr.index 39 (.agg #[.int .u32 p0, .int .u32 p1, .int .u32 p2, .int .u32 p3, .int .u32 p4, .int .u32 p5, .int .u32 p6, .int .u32 p7, .int .u32 p8, .int .u32 p9, .int .u32 p10, .int .u32 p11, .int .u32 p12, .int .u32 p13, .int .u32 p14, .int .u32 p15]) (.int .i64 9)).run Tryd.prog W = .ok (.int .u32 p9) W := fun _ => by kernel_rfl
  have i10 : ∀ W, (Instr.index 39 (.agg #[.int .u32 p0, .int .u32 p1, .int .u32 p2, .int .u32 p3, .int .u32 p4, .int .u32 p5, .int .u32 p6, .int .u32 p7, .int .u32 p8, .int .u32 p9, .int .u32 p10, .int .u32 p11, .int .u32 p12, .int .u32 p13, .int .u32 p14, .int .u32 p15]) (.int .i64 10)).run Tryd.prog W = .ok (.int .u32 p10) W := fun _ => by kernel_rfl
  have i11 : ∀ W, (Instr.index 39 (.agg #[.int .u32 p0, .int .u32 p1, .int .u32 p2, .int .u32 p3, .int .u32 p4, .int .u32 p5, .int .u32 p6, .int .u32 p7, .int .u32 p8, .int .u32 p9, .int .u32 p10, .int .u32 p11, .int .u32 p12, .int .u32 p13, .int .u32 p14, .int .u32 p15]) (.int .i64 11)).run Tryd.prog W = .ok (.int .u32 p11) W := fun _ => by kernel_rfl
  have i12 : ∀ W, (Instr.index 39 (.agg #[.int .u32 p0, .int .u32 p1, .int .u32 p2, .int .u32 p3, .int .u32 p4, .int .u32 p5, .int .u32 p6, .int .u32 p7, .int .u32 p8, .int .u32 p9, .int .u32 p10, .int .u32 p11, .int .u32 p12, .int .u32 p13, .int .u32 p14, .int .u32 p15]) (.int .i64 12)).run Tryd.prog W = .ok (.int .u32 p12) W := fun _ => by kernel_rfl
  have i13 : ∀ W, (Instr.index 39 (.agg #[.int .u32 p0, .int .u32 p1, .int .u32 p2, .int .u32 p3, .int .u32 p4, .int .u32 p5, .int .u32 p6, .int .u32 p7, .int .u32 p8, .int .u32 p9, .int .u32 p10, .int .u32 p11, .int .u32 p12, .int .u32 p13, .int .u32 p14, .int .u32 p15]) (.int .i64 13)).run Tryd.prog W = .ok (.int .u32 p13) W := fun _ => by kernel_rfl
  have i14 : ∀ W, (Instr.index 39 (.agg #[.int .u32 p0, .int .u32 p1, .int .u32 p2, .int .u32 p3, .int .u32 p4, .int .u32 p5, .int .u32 p6, .int .u32 p7, .int .u32 p8, .int .u32 p9, .int .u32 p10, .int .u32 p11, .int .u32 p12, .int .u32 p13, .int .u32 p14, .int .u32 p15]) (.int .i64 14)).run Tryd.prog W = .ok (.int .u32 p14) W := fun _ => by kernel_rfl
  have i15 : ∀ W, (Instr.index 39 (.agg #[.int .u32 p0, .int .u32 p1, .int .u32 p2, .int .u32 p3, .int .u32 p4, .int .u32 p5, .int .u32 p6, .int .u32 p7, .int .u32 p8, .int .u32 p9, .int .u32 p10, .int .u32 p11, .int .u32 p12, .int .u32 p13, .int .u32 p14, .int .u32 p15]) (.int .i64 15)).run Tryd.prog W = .ok (.int .u32 p15) W := fun _ => by kernel_rfl
  have s0 : ∀ W, (Instr.slice 27 (.slice (some ⟨w.heap.size + 1, 0, none⟩) 64 64) (some (.int .i64 0)) none none).run Tryd.prog W = .ok (.slice (some ⟨w.heap.size + 1, 0, none⟩) 64 64) W := cut_tail (w.heap.size + 1) 64 0 64 rfl (by decide) (by decide)
  have h0 : ∀ W, (Instr.slice 27 (.slice (some ⟨w.heap.size + 1, 0, none⟩) 64 64) none (some (.int .i64 4)) none).run Tryd.prog W = .ok (.slice (some ⟨w.heap.size + 1, 0, none⟩) 4 64) W := cut_four (w.heap.size + 1) 0 64 (by decide) (by decide)
  have s1 : ∀ W, (Instr.slice 27 (.slice (some ⟨w.heap.size + 1, 0, none⟩) 64 64) (some (.int .i64 4)) none none).run Tryd.prog W = .ok (.slice (some ⟨w.heap.size + 1, 4, none⟩) 60 60) W := cut_tail (w.heap.size + 1) 64 4 60 rfl (by decide) (by decide)
  have h1 : ∀ W, (Instr.slice 27 (.slice (some ⟨w.heap.size + 1, 4, none⟩) 60 60) none (some (.int .i64 4)) none).run Tryd.prog W = .ok (.slice (some ⟨w.heap.size + 1, 4, none⟩) 4 60) W := cut_four (w.heap.size + 1) 4 60 (by decide) (by decide)
  have s2 : ∀ W, (Instr.slice 27 (.slice (some ⟨w.heap.size + 1, 0, none⟩) 64 64) (some (.int .i64 8)) none none).run Tryd.prog W = .ok (.slice (some ⟨w.heap.size + 1, 8, none⟩) 56 56) W := cut_tail (w.heap.size + 1) 64 8 56 rfl (by decide) (by decide)
  have h2 : ∀ W, (Instr.slice 27 (.slice (some ⟨w.heap.size + 1, 8, none⟩) 56 56) none (some (.int .i64 4)) none).run Tryd.prog W = .ok (.slice (some ⟨w.heap.size + 1, 8, none⟩) 4 56) W := cut_four (w.heap.size + 1) 8 56 (by decide) (by decide)
  have s3 : ∀ W, (Instr.slice 27 (.slice (some ⟨w.heap.size + 1, 0, none⟩) 64 64) (some (.int .i64 12)) none none).run Tryd.prog W = .ok (.slice (some ⟨w.heap.size + 1, 12, none⟩) 52 52) W := cut_tail (w.heap.size + 1) 64 12 52 rfl (by decide) (by decide)
  have h3 : ∀ W, (Instr.slice 27 (.slice (some ⟨w.heap.size + 1, 12, none⟩) 52 52) none (some (.int .i64 4)) none).run Tryd.prog W = .ok (.slice (some ⟨w.heap.size + 1, 12, none⟩) 4 52) W := cut_four (w.heap.size + 1) 12 52 (by decide) (by decide)
  have s4 : ∀ W, (Instr.slice 27 (.slice (some ⟨w.heap.size + 1, 0, none⟩) 64 64) (some (.int .i64 16)) none none).run Tryd.prog W = .ok (.slice (some ⟨w.heap.size + 1, 16, none⟩) 48 48) W := cut_tail (w.heap.size + 1) 64 16 48 rfl (by decide) (by decide)
  have h4 : ∀ W, (Instr.slice 27 (.slice (some ⟨w.heap.size + 1, 16, none⟩) 48 48) none (some (.int .i64 4)) none).run Tryd.prog W = .ok (.slice (some ⟨w.heap.size + 1, 16, none⟩) 4 48) W := cut_four (w.heap.size + 1) 16 48 (by decide) (by decide)
  have s5 : ∀ W, (Instr.slice 27 (.slice (some ⟨w.heap.size + 1, 0, none⟩) 64 64) (some (.int .i64 20)) none none).run Tryd.prog W = .ok (.slice (some ⟨w.heap.size + 1, 20, none⟩) 44 44) W := cut_tail (w.heap.size + 1) 64 20 44 rfl (by decide) (by decide)
  have h5 : ∀ W, (Instr.slice 27 (.slice (some ⟨w.heap.size + 1, 20, none⟩) 44 44) none (some (.int .i64 4)) none).run Tryd.prog W = .ok (.slice (some ⟨w.heap.size + 1, 20, none⟩) 4 44) W := cut_four (w.heap.size + 1) 20 44 (by decide) (by decide)
  have s6 : ∀ W, (Instr.slice 27 (.slice (some ⟨w.heap.size + 1, 0, none⟩) 64 64) (some (.int .i64 24)) none none).run Tryd.prog W = .ok (.slice (some ⟨w.heap.size + 1, 24, none⟩) 40 40) W := cut_tail (w.heap.size + 1) 64 24 40 rfl (by decide) (by decide)
  have h6 : ∀ W, (Instr.slice 27 (.slice (some ⟨w.heap.size + 1, 24, none⟩) 40 40) none (some (.int .i64 4)) none).run Tryd.prog W = .ok (.slice (some ⟨w.heap.size + 1, 24, none⟩) 4 40) W := cut_four (w.heap.size + 1) 24 40 (by decide) (by decide)
  have s7 : ∀ W, (Instr.slice 27 (.slice (some ⟨w.heap.size + 1, 0, none⟩) 64 64) (some (.int .i64 28)) none none).run Tryd.prog W = .ok (.slice (some ⟨w.heap.size + 1, 28, none⟩) 36 36) W := cut_tail (w.heap.size + 1) 64 28 36 rfl (by decide) (by decide)
  have h7 : ∀ W, (Instr.slice 27 (.slice (some ⟨w.heap.size + 1, 28, none⟩) 36 36) none (some (.int .i64 4)) none).run Tryd.prog W = .ok (.slice (some ⟨w.heap.size + 1, 28, none⟩) 4 36) W := cut_four (w.heap.size + 1) 28 36 (by decide) (by decide)
  have s8 : ∀ W, (Instr.slice 27 (.slice (some ⟨w.heap.size + 1, 0, none⟩) 64 64) (some (.int .i64 32)) none none).run Tryd.prog W = .ok (.slice (some ⟨w.heap.size + 1, 32, none⟩) 32 32) W := cut_tail (w.heap.size + 1) 64 32 32 rfl (by decide) (by decide)
  have h8 : ∀ W, (Instr.slice 27 (.slice (some ⟨w.heap.size + 1, 32, none⟩) 32 32) none (some (.int .i64 4)) none).run Tryd.prog W = .ok (.slice (some ⟨w.heap.size + 1, 32, none⟩) 4 32) W := cut_four (w.heap.size + 1) 32 32 (by decide) (by decide)
  have s9 : ∀ W, (Instr.slice 27 (.slice (some ⟨w.heap.size + 1, 0, none⟩) 64 64) (some (.int .i64 36)) none none).run Tryd.prog W = .ok (.slice (some ⟨w.heap.size + 1, 36, none⟩) 28 28) W := cut_tail (w.heap.size + 1) 64 36 28 rfl (by decide) (by decide)
  have h9 : ∀ W, (Instr.slice 27 (.slice (some ⟨w.heap.size + 1, 36, none⟩) 28 28) none (some (.int .i64 4)) none).run Tryd.prog W = .ok (.slice (some ⟨w.heap.size + 1, 36, none⟩) 4 28) W := cut_four (w.heap.size + 1) 36 28 (by decide) (by decide)
  have s10 : ∀ W, (Instr.slice 27 (.slice (some ⟨w.heap.size + 1, 0, none⟩) 64 64) (some (.int .i64 40)) none none).run Tryd.prog W = .ok (.slice (some ⟨w.heap.size + 1, 40, none⟩) 24 24) W := cut_tail (w.heap.size + 1) 64 40 24 rfl (by decide) (by decide)
  have h10 : ∀ W, (Instr.slice 27 (.slice (some ⟨w.heap.size + 1, 40, none⟩) 24 24) none (some (.int .i64 4)) none).run Tryd.prog W = .ok (.slice (some ⟨w.heap.size + 1, 40, none⟩) 4 24) W := cut_four (w.heap.size + 1) 40 24 (by decide) (by decide)
  have s11 : ∀ W, (Instr.slice 27 (.slice (some ⟨w.heap.size + 1, 0, none⟩) 64 64) (some (.int .i64 44)) none none).run Tryd.prog W = .ok (.slice (some ⟨w.heap.size + 1, 44, none⟩) 20 20) W := cut_tail (w.heap.size + 1) 64 44 20 rfl (by decide) (by decide)
  have h11 : ∀ W, (Instr.slice 27 (.slice (some ⟨w.heap.size + 1, 44, none⟩) 20 20) none (some (.int .i64 4)) none).run Tryd.prog W = .ok (.slice (some ⟨w.heap.size + 1, 44, none⟩) 4 20) W := cut_four (w.heap.size + 1) 44 20 (by decide) (by decide)
  have s12 : ∀ W, (Instr.slice 27 (.slice (some ⟨w.heap.size + 1, 0, none⟩) 64 64) (some (.int .i64 48)) none none).run Tryd.prog W = .ok (.slice (some ⟨w.heap.size + 1, 48, none⟩) 16 16) W := cut_tail (w.heap.size + 1) 64 48 16 rfl (by decide) (by decide)
  have h12 : ∀ W, (Instr.slice 27 (.slice (some ⟨w.heap.size + 1, 48, none⟩) 16 16) none (some (.int .i64 4)) none).run Tryd.prog W = .ok (.slice (some ⟨w.heap.size + 1, 48, none⟩) 4 16) W := cut_four (w.heap.size + 1) 48 16 (by decide) (by decide)
  have s13 : ∀ W, (Instr.slice 27 (.slice (some ⟨w.heap.size + 1, 0, none⟩) 64 64) (some (.int .i64 52)) none none).run Tryd.prog W = .ok (.slice (some ⟨w.heap.size + 1, 52, none⟩) 12 12) W := cut_tail (w.heap.size + 1) 64 52 12 rfl (by decide) (by decide)
  have h13 : ∀ W, (Instr.slice 27 (.slice (some ⟨w.heap.size + 1, 52, none⟩) 12 12) none (some (.int .i64 4)) none).run Tryd.prog W = .ok (.slice (some ⟨w.heap.size + 1, 52, none⟩) 4 12) W := cut_four (w.heap.size + 1) 52 12 (by decide) (by decide)
  have s14 : ∀ W, (Instr.slice 27 (.slice (some ⟨w.heap.size + 1, 0, none⟩) 64 64) (some (.int .i64 56)) none none).run Tryd.prog W = .ok (.slice (some ⟨w.heap.size + 1, 56, none⟩) 8 8) W := cut_tail (w.heap.size + 1) 64 56 8 rfl (by decide) (by decide)
  have h14 : ∀ W, (Instr.slice 27 (.slice (some ⟨w.heap.size + 1, 56, none⟩) 8 8) none (some (.int .i64 4)) none).run Tryd.prog W = .ok (.slice (some ⟨w.heap.size + 1, 56, none⟩) 4 8) W := cut_four (w.heap.size + 1) 56 8 (by decide) (by decide)
  have s15 : ∀ W, (Instr.slice 27 (.slice (some ⟨w.heap.size + 1, 0, none⟩) 64 64) (some (.int .i64 60)) none none).run Tryd.prog W = .ok (.slice (some ⟨w.heap.size + 1, 60, none⟩) 4 4) W := cut_tail (w.heap.size + 1) 64 60 4 rfl (by decide) (by decide)
  have h15 : ∀ W, (Instr.slice 27 (.slice (some ⟨w.heap.size + 1, 60, none⟩) 4 4) none (some (.int .i64 4)) none).run Tryd.prog W = .ok (.slice (some ⟨w.heap.size + 1, 60, none⟩) 4 4) W := cut_four (w.heap.size + 1) 60 4 (by decide) (by decide)
  refine wp_loop_rounds 17 ?_
  rw [rounds_succ]
  go_wp2_with fail
  refine (put4_row p0 _ (w.heap.size + 1) 0 _ _ q0 HR0.out (by simp [set4_length])).mono ?_
  rintro e w1 ⟨rfl, hr, hbx⟩
  have HB1x : Hid (Below (w.heap.size + 1) w0 w1) := hbx
  have HR1 := Lib.hid hr
  clear hr hbx HR0
  go_wp2_with fail
  rw [rounds_succ]
  go_wp2_with fail
  refine (put4_row p1 _ (w.heap.size + 1) 4 _ _ q1 HR1.out (by simp [set4_length])).mono ?_
  rintro e w2 ⟨rfl, hr, hbx⟩
  have HB2x : Hid (Below (w.heap.size + 1) w0 w2) := HB1x.out.trans hbx
  have HR2 := Lib.hid hr
  clear hr hbx HR1 HB1x
  go_wp2_with fail
  rw [rounds_succ]
  go_wp2_with fail
  refine (put4_row p2 _ (w.heap.size + 1) 8 _ _ q2 HR2.out (by simp [set4_length])).mono ?_
  rintro e w3 ⟨rfl, hr, hbx⟩
  have HB3x : Hid (Below (w.heap.size + 1) w0 w3) := HB2x.out.trans hbx
  have HR3 := Lib.hid hr
  clear hr hbx HR2 HB2x
  go_wp2_with fail
  rw [rounds_succ]
  go_wp2_with fail
  refine (put4_row p3 _ (w.heap.size + 1) 12 _ _ q3 HR3.out (by simp [set4_length])).mono ?_
  rintro e w4 ⟨rfl, hr, hbx⟩
  have HB4x : Hid (Below (w.heap.size + 1) w0 w4) := HB3x.out.trans hbx
  have HR4 := Lib.hid hr
  clear hr hbx HR3 HB3x
  go_wp2_with fail
  rw [rounds_succ]
  go_wp2_with fail
  refine (put4_row p4 _ (w.heap.size + 1) 16 _ _ q4 HR4.out (by simp [set4_length])).mono ?_
  rintro e w5 ⟨rfl, hr, hbx⟩
  have HB5x : Hid (Below (w.heap.size + 1) w0 w5) := HB4x.out.trans hbx
  have HR5 := Lib.hid hr
  clear hr hbx HR4 HB4x
  go_wp2_with fail
  rw [rounds_succ]
  go_wp2_with fail
  refine (put4_row p5 _ (w.heap.size + 1) 20 _ _ q5 HR5.out (by simp [set4_length])).mono ?_
  rintro e w6 ⟨rfl, hr, hbx⟩
  have HB6x : Hid (Below (w.heap.size + 1) w0 w6) := HB5x.out.trans hbx
  have HR6 := Lib.hid hr
  clear hr hbx HR5 HB5x
  go_wp2_with fail
  rw [rounds_succ]
  go_wp2_with fail
  refine (put4_row p6 _ (w.heap.size + 1) 24 _ _ q6 HR6.out (by simp [set4_length])).mono ?_
  rintro e w7 ⟨rfl, hr, hbx⟩
  have HB7x : Hid (Below (w.heap.size + 1) w0 w7) := HB6x.out.trans hbx
  have HR7 := Lib.hid hr
  clear hr hbx HR6 HB6x
  go_wp2_with fail
  rw [rounds_succ]
  go_wp2_with fail
  refine (put4_row p7 _ (w.heap.size + 1) 28 _ _ q7 HR7.out (by simp [set4_length])).mono ?_
  rintro e w8 ⟨rfl, hr, hbx⟩
  have HB8x : Hid (Below (w.heap.size + 1) w0 w8) := HB7x.out.trans hbx
  have HR8 := Lib.hid hr
  clear hr hbx HR7 HB7x
  go_wp2_with fail
  rw [rounds_succ]
  go_wp2_with fail
  refine (put4_row p8 _ (w.heap.size + 1) 32 _ _ q8 HR8.out (by simp [set4_length])).mono ?_
  rintro e w9 ⟨rfl, hr, hbx⟩
  have HB9x : Hid (Below (w.heap.size + 1) w0 w9) := HB8x.out.trans hbx
  have HR9 := Lib.hid hr
  clear hr hbx HR8 HB8x
  go_wp2_with fail
  rw [rounds_succ]
  go_wp2_with fail
  refine (put4_row p9 _ (w.heap.size + 1) 36 _ _ q9 HR9.out (by simp [set4_length])).mono ?_
  rintro e w10 ⟨rfl, hr, hbx⟩
  have HB10x : Hid (Below (w.heap.size + 1) w0 w10) := HB9x.out.trans hbx
  have HR10 := Lib.hid hr
  clear hr hbx HR9 HB9x
  go_wp2_with fail
  rw [rounds_succ]
  go_wp2_with fail
  refine (put4_row p10 _ (w.heap.size + 1) 40 _ _ q10 HR10.out (by simp [set4_length])).mono ?_
  rintro e w11 ⟨rfl, hr, hbx⟩
  have HB11x : Hid (Below (w.heap.size + 1) w0 w11) := HB10x.out.trans hbx
  have HR11 := Lib.hid hr
  clear hr hbx HR10 HB10x
  go_wp2_with fail
  rw [rounds_succ]
  go_wp2_with fail
  refine (put4_row p11 _ (w.heap.size + 1) 44 _ _ q11 HR11.out (by simp [set4_length])).mono ?_
  rintro e w12 ⟨rfl, hr, hbx⟩
  have HB12x : Hid (Below (w.heap.size + 1) w0 w12) := HB11x.out.trans hbx
  have HR12 := Lib.hid hr
  clear hr hbx HR11 HB11x
  go_wp2_with fail
  rw [rounds_succ]
  go_wp2_with fail
  refine (put4_row p12 _ (w.heap.size + 1) 48 _ _ q12 HR12.out (by simp [set4_length])).mono ?_
  rintro e w13 ⟨rfl, hr, hbx⟩
  have HB13x : Hid (Below (w.heap.size + 1) w0 w13) := HB12x.out.trans hbx
  have HR13 := Lib.hid hr
  clear hr hbx HR12 HB12x
  go_wp2_with fail
  rw [rounds_succ]
  go_wp2_with fail
  refine (put4_row p13 _ (w.heap.size + 1) 52 _ _ q13 HR13.out (by simp [set4_length])).mono ?_
  rintro e w14 ⟨rfl, hr, hbx⟩
  have HB14x : Hid (Below (w.heap.size + 1) w0 w14) := HB13x.out.trans hbx
  have HR14 := Lib.hid hr
  clear hr hbx HR13 HB13x
  go_wp2_with fail
  rw [rounds_succ]
  go_wp2_with fail
  refine (put4_row p14 _ (w.heap.size + 1) 56 _ _ q14 HR14.out (by simp [set4_length])).mono ?_
  rintro e w15 ⟨rfl, hr, hbx⟩
  have HB15x : Hid (Below (w.heap.size + 1) w0 w15) := HB14x.out.trans hbx
  have HR15 := Lib.hid hr
  clear hr hbx HR14 HB14x
  go_wp2_with fail
  rw [rounds_succ]
  go_wp2_with fail
  refine (put4_row p15 _ (w.heap.size + 1) 60 _ _ q15 HR15.out (by simp [set4_length])).mono ?_
  rintro e w16 ⟨rfl, hr, hbx⟩
  have HB16x : Hid (Below (w.heap.size + 1) w0 w16) := HB15x.out.trans hbx
  have HR16 := Lib.hid hr
  clear hr hbx HR15 HB15x
  go_wp2_with fail
  rw [rounds_succ]
  go_wp2_with fail
  have hbody := HR16.out
  rw [blk_put] at hbody
  have hx : Below w.heap.size w w16 := HB1.out.trans ((HB0.out.trans HB16x.out).mono (by omega))
  clear i0 s0 h0 i1 s1 h1 i2 s2 h2 i3 s3 h3 i4 s4 h4 i5 s5 h5 i6 s6 h6 i7 s7 h7 i8 s8 h8 i9 s9 h9 i10 s10 h10 i11 s11 h11 i12 s12 h12 i13 s13 h13 i14 s14 h14 i15 s15 h15
  go_ret
  exact ⟨w.heap.size + 1, rfl, hbody, by omega, hx⟩
end Go.Proofs.YtfkobamemehkdaaDoor
