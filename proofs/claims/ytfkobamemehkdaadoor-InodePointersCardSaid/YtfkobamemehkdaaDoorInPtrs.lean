/-
  Sixteen pointers held against sixteen others; opened where they came in by value; their block tells them.
-/
import Derived.Test.YtfkobamemehkdaaDoorInBlock
import Derived.Test.YtfkobamemehkdaaDoorInOpen
import Derived.Test.YtfkobamemehkdaaDoorInOne
namespace Go.Proofs.YtfkobamemehkdaaDoor
open Go.RowKit

theorem cells_arr16 : Tryd.prog.cellsOf 39 = 16 := by kernel_rfl
theorem key_arr16 : Tryd.prog.keyTypeAt 3 39 = true := by kernel_rfl
set_option maxHeartbeats 2000000 in
theorem ptrs_lits (p0 p1 p2 p3 p4 p5 p6 p7 p8 p9 p10 p11 p12 p13 p14 p15 : Nat) (q0 : p0 < 4294967296) (q1 : p1 < 4294967296) (q2 : p2 < 4294967296) (q3 : p3 < 4294967296) (q4 : p4 < 4294967296) (q5 : p5 < 4294967296) (q6 : p6 < 4294967296) (q7 : p7 < 4294967296) (q8 : p8 < 4294967296) (q9 : p9 < 4294967296) (q10 : p10 < 4294967296) (q11 : p11 < 4294967296) (q12 : p12 < 4294967296) (q13 : p13 < 4294967296) (q14 : p14 < 4294967296) (q15 : p15 < 4294967296) :
    Tryd.prog.keyLits 3 39 (ptrs p0 p1 p2 p3 p4 p5 p6 p7 p8 p9 p10 p11 p12 p13 p14 p15).toList = some [.int .u32 p0, .int .u32 p1, .int .u32 p2, .int .u32 p3, .int .u32 p4, .int .u32 p5, .int .u32 p6, .int .u32 p7, .int .u32 p8, .int .u32 p9, .int .u32 p10, .int .u32 p11, .int .u32 p12, .int .u32 p13, .int .u32 p14, .int .u32 p15] := by
  have w0 := wf_u32 p0 q0
  have w1 := wf_u32 p1 q1
  have w2 := wf_u32 p2 q2
  have w3 := wf_u32 p3 q3
  have w4 := wf_u32 p4 q4
  have w5 := wf_u32 p5 q5
  have w6 := wf_u32 p6 q6
  have w7 := wf_u32 p7 q7
  have w8 := wf_u32 p8 q8
  have w9 := wf_u32 p9 q9
  have w10 := wf_u32 p10 q10
  have w11 := wf_u32 p11 q11
  have w12 := wf_u32 p12 q12
  have w13 := wf_u32 p13 q13
  have w14 := wf_u32 p14 q14
  have w15 := wf_u32 p15 q15
  simp [Program.keyLits, Tryd.underlying22, Tryd.underlying39, cells_u32, cells_arr16, List.range, List.range.loop, w0, w1, w2, w3, w4, w5, w6, w7, w8, w9, w10, w11, w12, w13, w14, w15]
theorem eql_ptrs (p0 p1 p2 p3 p4 p5 p6 p7 p8 p9 p10 p11 p12 p13 p14 p15 r0 r1 r2 r3 r4 r5 r6 r7 r8 r9 r10 r11 r12 r13 r14 r15 : Nat) (q0 : p0 < 4294967296) (q1 : p1 < 4294967296) (q2 : p2 < 4294967296) (q3 : p3 < 4294967296) (q4 : p4 < 4294967296) (q5 : p5 < 4294967296) (q6 : p6 < 4294967296) (q7 : p7 < 4294967296) (q8 : p8 < 4294967296) (q9 : p9 < 4294967296) (q10 : p10 < 4294967296) (q11 : p11 < 4294967296) (q12 : p12 < 4294967296) (q13 : p13 < 4294967296) (q14 : p14 < 4294967296) (q15 : p15 < 4294967296) (u0 : r0 < 4294967296) (u1 : r1 < 4294967296) (u2 : r2 < 4294967296) (u3 : r3 < 4294967296) (u4 : r4 < 4294967296) (u5 : r5 < 4294967296) (u6 : r6 < 4294967296) (u7 : r7 < 4294967296) (u8 : r8 < 4294967296) (u9 : r9 < 4294967296) (u10 : r10 < 4294967296) (u11 : r11 < 4294967296) (u12 : r12 < 4294967296) (u13 : r13 < 4294967296) (u14 : r14 < 4294967296) (u15 : r15 < 4294967296) (W : World) :
    ∃ r : Bool, (binOp .eql 39 (.agg (ptrs p0 p1 p2 p3 p4 p5 p6 p7 p8 p9 p10 p11 p12 p13 p14 p15)) (.agg (ptrs r0 r1 r2 r3 r4 r5 r6 r7 r8 r9 r10 r11 r12 r13 r14 r15))).run Tryd.prog W = .ok (.bool r) W ∧ (r = true ↔ p0 = r0 ∧ p1 = r1 ∧ p2 = r2 ∧ p3 = r3 ∧ p4 = r4 ∧ p5 = r5 ∧ p6 = r6 ∧ p7 = r7 ∧ p8 = r8 ∧ p9 = r9 ∧ p10 = r10 ∧ p11 = r11 ∧ p12 = r12 ∧ p13 = r13 ∧ p14 = r14 ∧ p15 = r15) := by
  obtain ⟨r, hr, hiff⟩ := run_equalIn_deep (P := Tryd.prog) 9997 3 39 key_arr16 W 3 3 (.agg (ptrs p0 p1 p2 p3 p4 p5 p6 p7 p8 p9 p10 p11 p12 p13 p14 p15)) (.agg (ptrs r0 r1 r2 r3 r4 r5 r6 r7 r8 r9 r10 r11 r12 r13 r14 r15)) _ _ (by simp [Value.formed, Tryd.underlying39, cells_arr16]) (by simp [Value.formed, Tryd.underlying39, cells_arr16]) (ptrs_lits p0 p1 p2 p3 p4 p5 p6 p7 p8 p9 p10 p11 p12 p13 p14 p15 q0 q1 q2 q3 q4 q5 q6 q7 q8 q9 q10 q11 q12 q13 q14 q15) (ptrs_lits r0 r1 r2 r3 r4 r5 r6 r7 r8 r9 r10 r11 r12 r13 r14 r15 u0 u1 u2 u3 u4 u5 u6 u7 u8 u9 u10 u11 u12 u13 u14 u15)
  refine ⟨r, ?_, ?_⟩
  · rw [run_eql_struct, hr]
    rfl
  · rw [hiff]
    simp
    omega
theorem blkN_inj (p0 p1 p2 p3 p4 p5 p6 p7 p8 p9 p10 p11 p12 p13 p14 p15 r0 r1 r2 r3 r4 r5 r6 r7 r8 r9 r10 r11 r12 r13 r14 r15 : Nat) (e : blkN p0 p1 p2 p3 p4 p5 p6 p7 p8 p9 p10 p11 p12 p13 p14 p15 = blkN r0 r1 r2 r3 r4 r5 r6 r7 r8 r9 r10 r11 r12 r13 r14 r15) (q0 : p0 < 4294967296) (q1 : p1 < 4294967296) (q2 : p2 < 4294967296) (q3 : p3 < 4294967296) (q4 : p4 < 4294967296) (q5 : p5 < 4294967296) (q6 : p6 < 4294967296) (q7 : p7 < 4294967296) (q8 : p8 < 4294967296) (q9 : p9 < 4294967296) (q10 : p10 < 4294967296) (q11 : p11 < 4294967296) (q12 : p12 < 4294967296) (q13 : p13 < 4294967296) (q14 : p14 < 4294967296) (q15 : p15 < 4294967296) (u0 : r0 < 4294967296) (u1 : r1 < 4294967296) (u2 : r2 < 4294967296) (u3 : r3 < 4294967296) (u4 : r4 < 4294967296) (u5 : r5 < 4294967296) (u6 : r6 < 4294967296) (u7 : r7 < 4294967296) (u8 : r8 < 4294967296) (u9 : r9 < 4294967296) (u10 : r10 < 4294967296) (u11 : r11 < 4294967296) (u12 : r12 < 4294967296) (u13 : r13 < 4294967296) (u14 : r14 < 4294967296) (u15 : r15 < 4294967296) : p0 = r0 ∧ p1 = r1 ∧ p2 = r2 ∧ p3 = r3 ∧ p4 = r4 ∧ p5 = r5 ∧ p6 = r6 ∧ p7 = r7 ∧ p8 = r8 ∧ p9 = r9 ∧ p10 = r10 ∧ p11 = r11 ∧ p12 = r12 ∧ p13 = r13 ∧ p14 = r14 ∧ p15 = r15 := by
  have e0 : p0 % 256 = r0 % 256 := congrArg (fun l => l.getD 0 0) e
  have e1 : p0 / 256 % 256 = r0 / 256 % 256 := congrArg (fun l => l.getD 1 0) e
  have e2 : p0 / 65536 % 256 = r0 / 65536 % 256 := congrArg (fun l => l.getD 2 0) e
  have e3 : p0 / 16777216 % 256 = r0 / 16777216 % 256 := congrArg (fun l => l.getD 3 0) e
  have e4 : p1 % 256 = r1 % 256 := congrArg (fun l => l.getD 4 0) e
  have e5 : p1 / 256 % 256 = r1 / 256 % 256 := congrArg (fun l => l.getD 5 0) e
  have e6 : p1 / 65536 % 256 = r1 / 65536 % 256 := congrArg (fun l => l.getD 6 0) e
  have e7 : p1 / 16777216 % 256 = r1 / 16777216 % 256 := congrArg (fun l => l.getD 7 0) e
  have e8 : p2 % 256 = r2 % 256 := congrArg (fun l => l.getD 8 0) e
  have e9 : p2 / 256 % 256 = r2 / 256 % 256 := congrArg (fun l => l.getD 9 0) e
  have e10 : p2 / 65536 % 256 = r2 / 65536 % 256 := congrArg (fun l => l.getD 10 0) e
  have e11 : p2 / 16777216 % 256 = r2 / 16777216 % 256 := congrArg (fun l => l.getD 11 0) e
  have e12 : p3 % 256 = r3 % 256 := congrArg (fun l => l.getD 12 0) e
  have e13 : p3 / 256 % 256 = r3 / 256 % 256 := congrArg (fun l => l.getD 13 0) e
  have e14 : p3 / 65536 % 256 = r3 / 65536 % 256 := congrArg (fun l => l.getD 14 0) e
  have e15 : p3 / 16777216 % 256 = r3 / 16777216 % 256 := congrArg (fun l => l.getD 15 0) e
  have e16 : p4 % 256 = r4 % 256 := congrArg (fun l => l.getD 16 0) e
  have e17 : p4 / 256 % 256 = r4 / 256 % 256 := congrArg (fun l => l.getD 17 0) e
  have e18 : p4 / 65536 % 256 = r4 / 65536 % 256 := congrArg (fun l => l.getD 18 0) e
  have e19 : p4 / 16777216 % 256 = r4 / 16777216 % 256 := congrArg (fun l => l.getD 19 0) e
  have e20 : p5 % 256 = r5 % 256 := congrArg (fun l => l.getD 20 0) e
  have e21 : p5 / 256 % 256 = r5 / 256 % 256 := congrArg (fun l => l.getD 21 0) e
  have e22 : p5 / 65536 % 256 = r5 / 65536 % 256 := congrArg (fun l => l.getD 22 0) e
  have e23 : p5 / 16777216 % 256 = r5 / 16777216 % 256 := congrArg (fun l => l.getD 23 0) e
  have e24 : p6 % 256 = r6 % 256 := congrArg (fun l => l.getD 24 0) e
  have e25 : p6 / 256 % 256 = r6 / 256 % 256 := congrArg (fun l => l.getD 25 0) e
  have e26 : p6 / 65536 % 256 = r6 / 65536 % 256 := congrArg (fun l => l.getD 26 0) e
  have e27 : p6 / 16777216 % 256 = r6 / 16777216 % 256 := congrArg (fun l => l.getD 27 0) e
  have e28 : p7 % 256 = r7 % 256 := congrArg (fun l => l.getD 28 0) e
  have e29 : p7 / 256 % 256 = r7 / 256 % 256 := congrArg (fun l => l.getD 29 0) e
  have e30 : p7 / 65536 % 256 = r7 / 65536 % 256 := congrArg (fun l => l.getD 30 0) e
  have e31 : p7 / 16777216 % 256 = r7 / 16777216 % 256 := congrArg (fun l => l.getD 31 0) e
  have e32 : p8 % 256 = r8 % 256 := congrArg (fun l => l.getD 32 0) e
  have e33 : p8 / 256 % 256 = r8 / 256 % 256 := congrArg (fun l => l.getD 33 0) e
  have e34 : p8 / 65536 % 256 = r8 / 65536 % 256 := congrArg (fun l => l.getD 34 0) e
  have e35 : p8 / 16777216 % 256 = r8 / 16777216 % 256 := congrArg (fun l => l.getD 35 0) e
  have e36 : p9 % 256 = r9 % 256 := congrArg (fun l => l.getD 36 0) e
  have e37 : p9 / 256 % 256 = r9 / 256 % 256 := congrArg (fun l => l.getD 37 0) e
  have e38 : p9 / 65536 % 256 = r9 / 65536 % 256 := congrArg (fun l => l.getD 38 0) e
  have e39 : p9 / 16777216 % 256 = r9 / 16777216 % 256 := congrArg (fun l => l.getD 39 0) e
  have e40 : p10 % 256 = r10 % 256 := congrArg (fun l => l.getD 40 0) e
  have e41 : p10 / 256 % 256 = r10 / 256 % 256 := congrArg (fun l => l.getD 41 0) e
  have e42 : p10 / 65536 % 256 = r10 / 65536 % 256 := congrArg (fun l => l.getD 42 0) e
  have e43 : p10 / 16777216 % 256 = r10 / 16777216 % 256 := congrArg (fun l => l.getD 43 0) e
  have e44 : p11 % 256 = r11 % 256 := congrArg (fun l => l.getD 44 0) e
  have e45 : p11 / 256 % 256 = r11 / 256 % 256 := congrArg (fun l => l.getD 45 0) e
  have e46 : p11 / 65536 % 256 = r11 / 65536 % 256 := congrArg (fun l => l.getD 46 0) e
  have e47 : p11 / 16777216 % 256 = r11 / 16777216 % 256 := congrArg (fun l => l.getD 47 0) e
  have e48 : p12 % 256 = r12 % 256 := congrArg (fun l => l.getD 48 0) e
  have e49 : p12 / 256 % 256 = r12 / 256 % 256 := congrArg (fun l => l.getD 49 0) e
  have e50 : p12 / 65536 % 256 = r12 / 65536 % 256 := congrArg (fun l => l.getD 50 0) e
  have e51 : p12 / 16777216 % 256 = r12 / 16777216 % 256 := congrArg (fun l => l.getD 51 0) e
  have e52 : p13 % 256 = r13 % 256 := congrArg (fun l => l.getD 52 0) e
  have e53 : p13 / 256 % 256 = r13 / 256 % 256 := congrArg (fun l => l.getD 53 0) e
  have e54 : p13 / 65536 % 256 = r13 / 65536 % 256 := congrArg (fun l => l.getD 54 0) e
  have e55 : p13 / 16777216 % 256 = r13 / 16777216 % 256 := congrArg (fun l => l.getD 55 0) e
  have e56 : p14 % 256 = r14 % 256 := congrArg (fun l => l.getD 56 0) e
  have e57 : p14 / 256 % 256 = r14 / 256 % 256 := congrArg (fun l => l.getD 57 0) e
  have e58 : p14 / 65536 % 256 = r14 / 65536 % 256 := congrArg (fun l => l.getD 58 0) e
  have e59 : p14 / 16777216 % 256 = r14 / 16777216 % 256 := congrArg (fun l => l.getD 59 0) e
  have e60 : p15 % 256 = r15 % 256 := congrArg (fun l => l.getD 60 0) e
  have e61 : p15 / 256 % 256 = r15 / 256 % 256 := congrArg (fun l => l.getD 61 0) e
  have e62 : p15 / 65536 % 256 = r15 / 65536 % 256 := congrArg (fun l => l.getD 62 0) e
  have e63 : p15 / 16777216 % 256 = r15 / 16777216 % 256 := congrArg (fun l => l.getD 63 0) e
  clear e
  exact ⟨le4_of_eq q0 u0 e0 e1 e2 e3, le4_of_eq q1 u1 e4 e5 e6 e7, le4_of_eq q2 u2 e8 e9 e10 e11, le4_of_eq q3 u3 e12 e13 e14 e15, le4_of_eq q4 u4 e16 e17 e18 e19, le4_of_eq q5 u5 e20 e21 e22 e23, le4_of_eq q6 u6 e24 e25 e26 e27, le4_of_eq q7 u7 e28 e29 e30 e31, le4_of_eq q8 u8 e32 e33 e34 e35, le4_of_eq q9 u9 e36 e37 e38 e39, le4_of_eq q10 u10 e40 e41 e42 e43, le4_of_eq q11 u11 e44 e45 e46 e47, le4_of_eq q12 u12 e48 e49 e50 e51, le4_of_eq q13 u13 e52 e53 e54 e55, le4_of_eq q14 u14 e56 e57 e58 e59, le4_of_eq q15 u15 e60 e61 e62 e63⟩
section
open Go.ChangeShapes Go.WideShapes Go.ChangeAt
theorem open_ptrs {H : Type} {enc : TypeId × Value → H} {w : World} {base : Nat} {spare : Nat → Bool} {held : Bool} {r : Reach} {b0 : Nat} {v : Value} {d : DataW H} {p : List MemPlace}
    (hv : Value.okWide Tryd.prog w r b0 39 v) (h : DataW.Trod enc Tryd.prog w base spare held 39 v d p) :
    ∃ (p0 p1 p2 p3 p4 p5 p6 p7 p8 p9 p10 p11 p12 p13 p14 p15 : Nat), v = .agg (ptrs p0 p1 p2 p3 p4 p5 p6 p7 p8 p9 p10 p11 p12 p13 p14 p15) ∧ p0 < 4294967296 ∧ p1 < 4294967296 ∧ p2 < 4294967296 ∧ p3 < 4294967296 ∧ p4 < 4294967296 ∧ p5 < 4294967296 ∧ p6 < 4294967296 ∧ p7 < 4294967296 ∧ p8 < 4294967296 ∧ p9 < 4294967296 ∧ p10 < 4294967296 ∧ p11 < 4294967296 ∧ p12 < 4294967296 ∧ p13 < 4294967296 ∧ p14 < 4294967296 ∧ p15 < 4294967296 := by
  simp only [Value.okWide, Tryd.underlying39] at hv
  obtain ⟨cs, rfl, hsz, _⟩ := hv
  obtain ⟨l⟩ := cs
  match l, hsz.trans cells_arr16 with
  | [c0, c1, c2, c3, c4, c5, c6, c7, c8, c9, c10, c11, c12, c13, c14, c15], _ =>
    obtain ⟨fuel, hf⟩ := h
    obtain ⟨xs, m, _, _, _, hl9, hel⟩ := DataW.trod_array Tryd.underlying39 hf
    have k0 := hel 0 (by decide)
    rw [cells_u32, List.getElem?_eq_getElem (by omega)] at k0
    obtain ⟨y0, f0, _, u0⟩ := DataW.trod_int Tryd.underlying22 k0
    simp [Value.cells] at f0
    subst f0
    have b0 := bounds_u32' u0
    obtain ⟨z0, rfl⟩ := Int.eq_ofNat_of_zero_le b0.1
    have k1 := hel 1 (by decide)
    rw [cells_u32, List.getElem?_eq_getElem (by omega)] at k1
    obtain ⟨y1, f1, _, u1⟩ := DataW.trod_int Tryd.underlying22 k1
    simp [Value.cells] at f1
    subst f1
    have b1 := bounds_u32' u1
    obtain ⟨z1, rfl⟩ := Int.eq_ofNat_of_zero_le b1.1
    have k2 := hel 2 (by decide)
    rw [cells_u32, List.getElem?_eq_getElem (by omega)] at k2
    obtain ⟨y2, f2, _, u2⟩ := DataW.trod_int Tryd.underlying22 k2
    simp [Value.cells] at f2
    subst f2
    have b2 := bounds_u32' u2
    obtain ⟨z2, rfl⟩ := Int.eq_ofNat_of_zero_le b2.1
    have k3 := hel 3 (by decide)
    rw [cells_u32, List.getElem?_eq_getElem (by omega)] at k3
    obtain ⟨y3, f3, _, u3⟩ := DataW.trod_int Tryd.underlying22 k3
    simp [Value.cells] at f3
    subst f3
    have b3 := bounds_u32' u3
    obtain ⟨z3, rfl⟩ := Int.eq_ofNat_of_zero_le b3.1
    have k4 := hel 4 (by decide)
    rw [cells_u32, List.getElem?_eq_getElem (by omega)] at k4
    obtain ⟨y4, f4, _, u4⟩ := DataW.trod_int Tryd.underlying22 k4
    simp [Value.cells] at f4
    subst f4
    have b4 := bounds_u32' u4
    obtain ⟨z4, rfl⟩ := Int.eq_ofNat_of_zero_le b4.1
    have k5 := hel 5 (by decide)
    rw [cells_u32, List.getElem?_eq_getElem (by omega)] at k5
    obtain ⟨y5, f5, _, u5⟩ := DataW.trod_int Tryd.underlying22 k5
    simp [Value.cells] at f5
    subst f5
    have b5 := bounds_u32' u5
    obtain ⟨z5, rfl⟩ := Int.eq_ofNat_of_zero_le b5.1
    have k6 := hel 6 (by decide)
    rw [cells_u32, List.getElem?_eq_getElem (by omega)] at k6
    obtain ⟨y6, f6, _, u6⟩ := DataW.trod_int Tryd.underlying22 k6
    simp [Value.cells] at f6
    subst f6
    have b6 := bounds_u32' u6
    obtain ⟨z6, rfl⟩ := Int.eq_ofNat_of_zero_le b6.1
    have k7 := hel 7 (by decide)
    rw [cells_u32, List.getElem?_eq_getElem (by omega)] at k7
    obtain ⟨y7, f7, _, u7⟩ := DataW.trod_int Tryd.underlying22 k7
    simp [Value.cells] at f7
    subst f7
    have b7 := bounds_u32' u7
    obtain ⟨z7, rfl⟩ := Int.eq_ofNat_of_zero_le b7.1
    have k8 := hel 8 (by decide)
    rw [cells_u32, List.getElem?_eq_getElem (by omega)] at k8
    obtain ⟨y8, f8, _, u8⟩ := DataW.trod_int Tryd.underlying22 k8
    simp [Value.cells] at f8
    subst f8
    have b8 := bounds_u32' u8
    obtain ⟨z8, rfl⟩ := Int.eq_ofNat_of_zero_le b8.1
    have k9 := hel 9 (by decide)
    rw [cells_u32, List.getElem?_eq_getElem (by omega)] at k9
    obtain ⟨y9, f9, _, u9⟩ := DataW.trod_int Tryd.underlying22 k9
    simp [Value.cells] at f9
    subst f9
    have b9 := bounds_u32' u9
    obtain ⟨z9, rfl⟩ := Int.eq_ofNat_of_zero_le b9.1
    have k10 := hel 10 (by decide)
    rw [cells_u32, List.getElem?_eq_getElem (by omega)] at k10
    obtain ⟨y10, f10, _, u10⟩ := DataW.trod_int Tryd.underlying22 k10
    simp [Value.cells] at f10
    subst f10
    have b10 := bounds_u32' u10
    obtain ⟨z10, rfl⟩ := Int.eq_ofNat_of_zero_le b10.1
    have k11 := hel 11 (by decide)
    rw [cells_u32, List.getElem?_eq_getElem (by omega)] at k11
    obtain ⟨y11, f11, _, u11⟩ := DataW.trod_int Tryd.underlying22 k11
    simp [Value.cells] at f11
    subst f11
    have b11 := bounds_u32' u11
    obtain ⟨z11, rfl⟩ := Int.eq_ofNat_of_zero_le b11.1
    have k12 := hel 12 (by decide)
    rw [cells_u32, List.getElem?_eq_getElem (by omega)] at k12
    obtain ⟨y12, f12, _, u12⟩ := DataW.trod_int Tryd.underlying22 k12
    simp [Value.cells] at f12
    subst f12
    have b12 := bounds_u32' u12
    obtain ⟨z12, rfl⟩ := Int.eq_ofNat_of_zero_le b12.1
    have k13 := hel 13 (by decide)
    rw [cells_u32, List.getElem?_eq_getElem (by omega)] at k13
    obtain ⟨y13, f13, _, u13⟩ := DataW.trod_int Tryd.underlying22 k13
    simp [Value.cells] at f13
    subst f13
    have b13 := bounds_u32' u13
    obtain ⟨z13, rfl⟩ := Int.eq_ofNat_of_zero_le b13.1
    have k14 := hel 14 (by decide)
    rw [cells_u32, List.getElem?_eq_getElem (by omega)] at k14
    obtain ⟨y14, f14, _, u14⟩ := DataW.trod_int Tryd.underlying22 k14
    simp [Value.cells] at f14
    subst f14
    have b14 := bounds_u32' u14
    obtain ⟨z14, rfl⟩ := Int.eq_ofNat_of_zero_le b14.1
    have k15 := hel 15 (by decide)
    rw [cells_u32, List.getElem?_eq_getElem (by omega)] at k15
    obtain ⟨y15, f15, _, u15⟩ := DataW.trod_int Tryd.underlying22 k15
    simp [Value.cells] at f15
    subst f15
    have b15 := bounds_u32' u15
    obtain ⟨z15, rfl⟩ := Int.eq_ofNat_of_zero_le b15.1
    exact ⟨z0, z1, z2, z3, z4, z5, z6, z7, z8, z9, z10, z11, z12, z13, z14, z15, rfl, by omega, by omega, by omega, by omega, by omega, by omega, by omega, by omega, by omega, by omega, by omega, by omega, by omega, by omega, by omega, by omega⟩
end
end Go.Proofs.YtfkobamemehkdaaDoor
