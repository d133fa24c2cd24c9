/-
  Two inodes held against each other: the same just if all numbers are.
-/
import Derived.Test.YtfkobamemehkdaaDoorInWalks
import Derived.DeepKeys
namespace Go.Proofs.YtfkobamemehkdaaDoor
open Go.RowKit

theorem wf_i64 (a : Int) (h : -9223372036854775808 ≤ a ∧ a ≤ 9223372036854775807) : (Lit.int .i64 a).wf = true := by
  simp [Lit.wf, IntKind.min, IntKind.max, IntKind.signed, IntKind.bits]; omega
theorem wf_u32 (a : Nat) (h : a < 4294967296) : (Lit.int .u32 (a : Int)).wf = true := by
  simp [Lit.wf, IntKind.min, IntKind.max, IntKind.signed, IntKind.bits]; omega
theorem cells_int : Tryd.prog.cellsOf 3 = 1 := by kernel_rfl
theorem cells_u32 : Tryd.prog.cellsOf 22 = 1 := by kernel_rfl
theorem cells_arr : Tryd.prog.cellsOf 23 = 9 := by kernel_rfl
theorem cells_ino : Tryd.prog.cellsOf 25 = 14 := by kernel_rfl
theorem key_ino : Tryd.prog.keyTypeAt 4 25 = true := by kernel_rfl
set_option maxHeartbeats 2000000 in
theorem ino_lits (a b c d s : Int) (p0 p1 p2 p3 p4 p5 p6 p7 p8 : Nat) (ha : -9223372036854775808 ≤ a ∧ a ≤ 9223372036854775807) (hb : -9223372036854775808 ≤ b ∧ b ≤ 9223372036854775807) (hc : -9223372036854775808 ≤ c ∧ c ≤ 9223372036854775807) (hd : -9223372036854775808 ≤ d ∧ d ≤ 9223372036854775807) (hs : -9223372036854775808 ≤ s ∧ s ≤ 9223372036854775807)
    (q0 : p0 < 4294967296) (q1 : p1 < 4294967296) (q2 : p2 < 4294967296) (q3 : p3 < 4294967296) (q4 : p4 < 4294967296) (q5 : p5 < 4294967296) (q6 : p6 < 4294967296) (q7 : p7 < 4294967296) (q8 : p8 < 4294967296) :
    Tryd.prog.keyLits 4 25 (ino a b c d s p0 p1 p2 p3 p4 p5 p6 p7 p8).toList = some [.int .i64 a, .int .i64 b, .int .i64 c, .int .i64 d, .int .i64 s, .int .u32 p0, .int .u32 p1, .int .u32 p2, .int .u32 p3, .int .u32 p4, .int .u32 p5, .int .u32 p6, .int .u32 p7, .int .u32 p8] := by
  have wa := wf_i64 a ha
  have wb := wf_i64 b hb
  have wc := wf_i64 c hc
  have wd := wf_i64 d hd
  have ws := wf_i64 s hs
  have w0 := wf_u32 p0 q0
  have w1 := wf_u32 p1 q1
  have w2 := wf_u32 p2 q2
  have w3 := wf_u32 p3 q3
  have w4 := wf_u32 p4 q4
  have w5 := wf_u32 p5 q5
  have w6 := wf_u32 p6 q6
  have w7 := wf_u32 p7 q7
  have w8 := wf_u32 p8 q8
  simp [Program.keyLits, Tryd.underlying25, Tryd.underlying3, Tryd.underlying22, Tryd.underlying23, cells_int, cells_u32, cells_arr, cells_ino, List.range, List.range.loop, wa, wb, wc, wd, ws, w0, w1, w2, w3, w4, w5, w6, w7, w8]
/-- Numbers of an inode that fit their kinds. -/
def FitI (a b c d s : Int) (p0 p1 p2 p3 p4 p5 p6 p7 p8 : Nat) : Prop :=
  (-9223372036854775808 ≤ a ∧ a ≤ 9223372036854775807) ∧ (-9223372036854775808 ≤ b ∧ b ≤ 9223372036854775807) ∧ (-9223372036854775808 ≤ c ∧ c ≤ 9223372036854775807) ∧ (-9223372036854775808 ≤ d ∧ d ≤ 9223372036854775807) ∧ (-9223372036854775808 ≤ s ∧ s ≤ 9223372036854775807) ∧
    p0 < 4294967296 ∧ p1 < 4294967296 ∧ p2 < 4294967296 ∧ p3 < 4294967296 ∧ p4 < 4294967296 ∧ p5 < 4294967296 ∧ p6 < 4294967296 ∧ p7 < 4294967296 ∧ p8 < 4294967296
theorem eql_ino (a b c d s a' b' c' d' s' : Int) (p0 p1 p2 p3 p4 p5 p6 p7 p8 r0 r1 r2 r3 r4 r5 r6 r7 r8 : Nat) (h : FitI a b c d s p0 p1 p2 p3 p4 p5 p6 p7 p8) (h' : FitI a' b' c' d' s' r0 r1 r2 r3 r4 r5 r6 r7 r8) (W : World) :
    ∃ r : Bool, (binOp .eql 25 (.agg (ino a b c d s p0 p1 p2 p3 p4 p5 p6 p7 p8)) (.agg (ino a' b' c' d' s' r0 r1 r2 r3 r4 r5 r6 r7 r8))).run Tryd.prog W = .ok (.bool r) W ∧ (r = true ↔ a = a' ∧ b = b' ∧ c = c' ∧ d = d' ∧ s = s' ∧ p0 = r0 ∧ p1 = r1 ∧ p2 = r2 ∧ p3 = r3 ∧ p4 = r4 ∧ p5 = r5 ∧ p6 = r6 ∧ p7 = r7 ∧ p8 = r8) := by
  obtain ⟨ha, hb, hc, hd, hs, q0, q1, q2, q3, q4, q5, q6, q7, q8⟩ := h
  obtain ⟨ha', hb', hc', hd', hs', u0, u1, u2, u3, u4, u5, u6, u7, u8⟩ := h'
  have l1 := ino_lits a b c d s p0 p1 p2 p3 p4 p5 p6 p7 p8 ha hb hc hd hs q0 q1 q2 q3 q4 q5 q6 q7 q8
  have l2 := ino_lits a' b' c' d' s' r0 r1 r2 r3 r4 r5 r6 r7 r8 ha' hb' hc' hd' hs' u0 u1 u2 u3 u4 u5 u6 u7 u8
  obtain ⟨r, hr, hiff⟩ := run_equalIn_deep (P := Tryd.prog) 9996 4 25 key_ino W 4 4 (.agg (ino a b c d s p0 p1 p2 p3 p4 p5 p6 p7 p8)) (.agg (ino a' b' c' d' s' r0 r1 r2 r3 r4 r5 r6 r7 r8)) _ _ (by simp [Value.formed, Tryd.underlying25, cells_ino]) (by simp [Value.formed, Tryd.underlying25, cells_ino]) l1 l2
  refine ⟨r, ?_, ?_⟩
  · rw [run_eql_struct, hr]
    rfl
  · rw [hiff]
    simp
    omega
end Go.Proofs.YtfkobamemehkdaaDoor
