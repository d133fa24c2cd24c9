/-
  Plain facts of a block of pointers: read and written it is the same; other lengths are refused.
-/
import Derived.Test.YtfkobamemehkdaaDoorInPointers
import Derived.Test.YtfkobamemehkdaaDoorInPtrs
import Derived.Test.YtfkobamemehkdaaDoorInRefBlock
import Derived.Test.YtfkobamemehkdaaDoorCopied
namespace Go.Proofs.YtfkobamemehkdaaDoor
open Go.RowKit

theorem self_range (l : List Nat) : l = (List.range l.length).map fun i => l.getD i 0 := by
  apply List.ext_getElem (by simp)
  intro i h1 h2
  simp [List.getD_eq_getElem?_getD, List.getElem?_eq_getElem h1]
theorem le4_ptV {l : List Nat} (h8 : ∀ x ∈ l, x < 256) (k : Nat) : le4 (ptV l k) = [l.getD (4 * k) 0, l.getD (4 * k + 1) 0, l.getD (4 * k + 2) 0, l.getD (4 * k + 3) 0] :=
  le4_of _ _ _ _ (getD_byte h8 _) (getD_byte h8 _) (getD_byte h8 _) (getD_byte h8 _)
theorem blk_ptV (l : List Nat) (hl : l.length = 64) (h8 : ∀ x ∈ l, x < 256) : blkN (ptV l 0) (ptV l 1) (ptV l 2) (ptV l 3) (ptV l 4) (ptV l 5) (ptV l 6) (ptV l 7) (ptV l 8) (ptV l 9) (ptV l 10) (ptV l 11) (ptV l 12) (ptV l 13) (ptV l 14) (ptV l 15) = l := by
  have e := self_range l
  rw [hl] at e
  unfold blkN
  rw [le4_ptV h8 0, le4_ptV h8 1, le4_ptV h8 2, le4_ptV h8 3, le4_ptV h8 4, le4_ptV h8 5, le4_ptV h8 6, le4_ptV h8 7, le4_ptV h8 8, le4_ptV h8 9, le4_ptV h8 10, le4_ptV h8 11, le4_ptV h8 12, le4_ptV h8 13, le4_ptV h8 14, le4_ptV h8 15]
  rw [e]
  simp only [List.range, List.range.loop]
  rfl
theorem ptV_blk (p0 p1 p2 p3 p4 p5 p6 p7 p8 p9 p10 p11 p12 p13 p14 p15 : Nat) (q0 : p0 < 4294967296) (q1 : p1 < 4294967296) (q2 : p2 < 4294967296) (q3 : p3 < 4294967296) (q4 : p4 < 4294967296) (q5 : p5 < 4294967296) (q6 : p6 < 4294967296) (q7 : p7 < 4294967296) (q8 : p8 < 4294967296) (q9 : p9 < 4294967296) (q10 : p10 < 4294967296) (q11 : p11 < 4294967296) (q12 : p12 < 4294967296) (q13 : p13 < 4294967296) (q14 : p14 < 4294967296) (q15 : p15 < 4294967296) :
    (pcells (blkN p0 p1 p2 p3 p4 p5 p6 p7 p8 p9 p10 p11 p12 p13 p14 p15) 16).toArray = ptrs p0 p1 p2 p3 p4 p5 p6 p7 p8 p9 p10 p11 p12 p13 p14 p15 := by
  rw [pcells_all]
  have e0 : ptV (blkN p0 p1 p2 p3 p4 p5 p6 p7 p8 p9 p10 p11 p12 p13 p14 p15) 0 = p0 := by show p0 % 256 + p0 / 256 % 256 * 256 + p0 / 65536 % 256 * 65536 + p0 / 16777216 % 256 * 16777216 = p0; omega
  have e1 : ptV (blkN p0 p1 p2 p3 p4 p5 p6 p7 p8 p9 p10 p11 p12 p13 p14 p15) 1 = p1 := by show p1 % 256 + p1 / 256 % 256 * 256 + p1 / 65536 % 256 * 65536 + p1 / 16777216 % 256 * 16777216 = p1; omega
  have e2 : ptV (blkN p0 p1 p2 p3 p4 p5 p6 p7 p8 p9 p10 p11 p12 p13 p14 p15) 2 = p2 := by show p2 % 256 + p2 / 256 % 256 * 256 + p2 / 65536 % 256 * 65536 + p2 / 16777216 % 256 * 16777216 = p2; omega
  have e3 : ptV (blkN p0 p1 p2 p3 p4 p5 p6 p7 p8 p9 p10 p11 p12 p13 p14 p15) 3 = p3 := by show p3 % 256 + p3 / 256 % 256 * 256 + p3 / 65536 % 256 * 65536 + p3 / 16777216 % 256 * 16777216 = p3; omega
  have e4 : ptV (blkN p0 p1 p2 p3 p4 p5 p6 p7 p8 p9 p10 p11 p12 p13 p14 p15) 4 = p4 := by show p4 % 256 + p4 / 256 % 256 * 256 + p4 / 65536 % 256 * 65536 + p4 / 16777216 % 256 * 16777216 = p4; omega
  have e5 : ptV (blkN p0 p1 p2 p3 p4 p5 p6 p7 p8 p9 p10 p11 p12 p13 p14 p15) 5 = p5 := by show p5 % 256 + p5 / 256 % 256 * 256 + p5 / 65536 % 256 * 65536 + p5 / 16777216 % 256 * 16777216 = p5; omega
  have e6 : ptV (blkN p0 p1 p2 p3 p4 p5 p6 p7 p8 p9 p10 p11 p12 p13 p14 p15) 6 = p6 := by show p6 % 256 + p6 / 256 % 256 * 256 + p6 / 65536 % 256 * 65536 + p6 / 16777216 % 256 * 16777216 = p6; omega
  have e7 : ptV (blkN p0 p1 p2 p3 p4 p5 p6 p7 p8 p9 p10 p11 p12 p13 p14 p15) 7 = p7 := by show p7 % 256 + p7 / 256 % 256 * 256 + p7 / 65536 % 256 * 65536 + p7 / 16777216 % 256 * 16777216 = p7; omega
  have e8 : ptV (blkN p0 p1 p2 p3 p4 p5 p6 p7 p8 p9 p10 p11 p12 p13 p14 p15) 8 = p8 := by show p8 % 256 + p8 / 256 % 256 * 256 + p8 / 65536 % 256 * 65536 + p8 / 16777216 % 256 * 16777216 = p8; omega
  have e9 : ptV (blkN p0 p1 p2 p3 p4 p5 p6 p7 p8 p9 p10 p11 p12 p13 p14 p15) 9 = p9 := by show p9 % 256 + p9 / 256 % 256 * 256 + p9 / 65536 % 256 * 65536 + p9 / 16777216 % 256 * 16777216 = p9; omega
  have e10 : ptV (blkN p0 p1 p2 p3 p4 p5 p6 p7 p8 p9 p10 p11 p12 p13 p14 p15) 10 = p10 := by show p10 % 256 + p10 / 256 % 256 * 256 + p10 / 65536 % 256 * 65536 + p10 / 16777216 % 256 * 16777216 = p10; omega
  have e11 : ptV (blkN p0 p1 p2 p3 p4 p5 p6 p7 p8 p9 p10 p11 p12 p13 p14 p15) 11 = p11 := by show p11 % 256 + p11 / 256 % 256 * 256 + p11 / 65536 % 256 * 65536 + p11 / 16777216 % 256 * 16777216 = p11; omega
  have e12 : ptV (blkN p0 p1 p2 p3 p4 p5 p6 p7 p8 p9 p10 p11 p12 p13 p14 p15) 12 = p12 := by show p12 % 256 + p12 / 256 % 256 * 256 + p12 / 65536 % 256 * 65536 + p12 / 16777216 % 256 * 16777216 = p12; omega
  have e13 : ptV (blkN p0 p1 p2 p3 p4 p5 p6 p7 p8 p9 p10 p11 p12 p13 p14 p15) 13 = p13 := by show p13 % 256 + p13 / 256 % 256 * 256 + p13 / 65536 % 256 * 65536 + p13 / 16777216 % 256 * 16777216 = p13; omega
  have e14 : ptV (blkN p0 p1 p2 p3 p4 p5 p6 p7 p8 p9 p10 p11 p12 p13 p14 p15) 14 = p14 := by show p14 % 256 + p14 / 256 % 256 * 256 + p14 / 65536 % 256 * 65536 + p14 / 16777216 % 256 * 16777216 = p14; omega
  have e15 : ptV (blkN p0 p1 p2 p3 p4 p5 p6 p7 p8 p9 p10 p11 p12 p13 p14 p15) 15 = p15 := by show p15 % 256 + p15 / 256 % 256 * 256 + p15 / 65536 % 256 * 65536 + p15 / 16777216 % 256 * 16777216 = p15; omega
  rw [e0, e1, e2, e3, e4, e5, e6, e7, e8, e9, e10, e11, e12, e13, e14, e15]
theorem Blo.range {w : World} {g : Nat} {t : TypeId} {cs : Array Value} (h : Blo w g t cs) (l : List Value) (hl : cs.toList = l) : w.rangeAt g 0 l := fun j v hv => by
  rw [Nat.zero_add, h.cell j, ← Array.getElem?_toList, hl]
  exact hv
theorem info16 : (Tryd.prog.info? 39).map (·.size) = some 16 := by kernel_rfl
theorem neq_ptrs (p0 p1 p2 p3 p4 p5 p6 p7 p8 p9 p10 p11 p12 p13 p14 p15 : Nat) (q0 : p0 < 4294967296) (q1 : p1 < 4294967296) (q2 : p2 < 4294967296) (q3 : p3 < 4294967296) (q4 : p4 < 4294967296) (q5 : p5 < 4294967296) (q6 : p6 < 4294967296) (q7 : p7 < 4294967296) (q8 : p8 < 4294967296) (q9 : p9 < 4294967296) (q10 : p10 < 4294967296) (q11 : p11 < 4294967296) (q12 : p12 < 4294967296) (q13 : p13 < 4294967296) (q14 : p14 < 4294967296) (q15 : p15 < 4294967296) (W : World) : (binOp .neq 39 (.agg (ptrs p0 p1 p2 p3 p4 p5 p6 p7 p8 p9 p10 p11 p12 p13 p14 p15)) (.agg (ptrs p0 p1 p2 p3 p4 p5 p6 p7 p8 p9 p10 p11 p12 p13 p14 p15))).run Tryd.prog W = .ok (.bool false) W := by
  obtain ⟨r, h1, h2⟩ := eql_ptrs p0 p1 p2 p3 p4 p5 p6 p7 p8 p9 p10 p11 p12 p13 p14 p15 p0 p1 p2 p3 p4 p5 p6 p7 p8 p9 p10 p11 p12 p13 p14 p15 q0 q1 q2 q3 q4 q5 q6 q7 q8 q9 q10 q11 q12 q13 q14 q15 q0 q1 q2 q3 q4 q5 q6 q7 q8 q9 q10 q11 q12 q13 q14 q15 W
  have hr : r = true := h2.2 (by simp)
  subst hr
  rw [run_eql_struct] at h1
  rw [run_neq_struct]
  cases hq : (Op.equalIn 10000 39 (.agg (ptrs p0 p1 p2 p3 p4 p5 p6 p7 p8 p9 p10 p11 p12 p13 p14 p15)) (.agg (ptrs p0 p1 p2 p3 p4 p5 p6 p7 p8 p9 p10 p11 p12 p13 p14 p15))).run Tryd.prog W with
  | ok b w' =>
    rw [hq] at h1
    simp [Result.andThen] at h1
    simp [Result.andThen, h1]
  | halt x w' =>
    rw [hq] at h1
    simp [Result.andThen] at h1
theorem eql_zptrs (W : World) : (binOp .eql 39 (.agg #[Value.int .u32 0, Value.int .u32 0, Value.int .u32 0, Value.int .u32 0, Value.int .u32 0, Value.int .u32 0, Value.int .u32 0, Value.int .u32 0, Value.int .u32 0, Value.int .u32 0, Value.int .u32 0, Value.int .u32 0, Value.int .u32 0, Value.int .u32 0, Value.int .u32 0, Value.int .u32 0]) (.agg #[Value.int .u32 0, Value.int .u32 0, Value.int .u32 0, Value.int .u32 0, Value.int .u32 0, Value.int .u32 0, Value.int .u32 0, Value.int .u32 0, Value.int .u32 0, Value.int .u32 0, Value.int .u32 0, Value.int .u32 0, Value.int .u32 0, Value.int .u32 0, Value.int .u32 0, Value.int .u32 0])).run Tryd.prog W = .ok (.bool true) W := by
  obtain ⟨r, h1, h2⟩ := eql_ptrs 0 0 0 0 0 0 0 0 0 0 0 0 0 0 0 0 0 0 0 0 0 0 0 0 0 0 0 0 0 0 0 0 (by decide) (by decide) (by decide) (by decide) (by decide) (by decide) (by decide) (by decide) (by decide) (by decide) (by decide) (by decide) (by decide) (by decide) (by decide) (by decide) (by decide) (by decide) (by decide) (by decide) (by decide) (by decide) (by decide) (by decide) (by decide) (by decide) (by decide) (by decide) (by decide) (by decide) (by decide) (by decide) W
  rw [show r = true from h2.2 (by simp)] at h1
  exact h1
theorem pointers_eq (l : List Nat) (hl : 64 = l.length) (a : Option Addr) (cap : Nat) (hc : 64 ≤ cap) (w : World) (h : Bytes w a l) (cs : Array Value) (hcs : (pcells l 16).toArray = cs) :
    Calls Tryd.prog 18 #[.slice a 64 cap] w fun e w' => e = .returned (.tuple #[.agg cs, .int .i64 0]) ∧ Below w.heap.size w w' := by
  subst hcs
  exact pointers_good l hl a cap hc w h
set_option maxHeartbeats 400000 in
theorem pointers_bad (n : Nat) (hn : n ≠ 64) (hmax : n ≤ 1000) (a : Option Addr) (cap : Nat) (w : World) :
    Calls Tryd.prog 18 #[.slice a n cap] w fun e w' => e = .returned (.tuple #[.agg (ptrs 0 0 0 0 0 0 0 0 0 0 0 0 0 0 0 0), .int .i64 100]) ∧ Below w.heap.size w w' := by
  have hne : ((n : Int) != 64) = true := by simpa using (by omega : ¬ (n : Int) = 64)
  have hne2 : (n != 64) = true := by simpa using hn
  have HN := Lib.hid hn
  clear hn
  go_enter Tryd.func18, Tryd.ntmps18
  go_wp2_with fail
  refine bodyPost_ret (v := .tuple #[.agg (ptrs 0 0 0 0 0 0 0 0 0 0 0 0 0 0 0 0), .int .i64 100]) ?_ rfl ⟨rfl, ?_⟩
  · simp [results, Tryd.results18, go_sem]
  · exact ((Below.refl _ _).alloc (Nat.le_refl _) _).alloc (by simp) _
end Go.Proofs.YtfkobamemehkdaaDoor
