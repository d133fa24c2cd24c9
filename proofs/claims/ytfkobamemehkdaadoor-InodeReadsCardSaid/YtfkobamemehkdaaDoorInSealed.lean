/-
  The walk of InodeSealed: a block with one bit turned is no inode's.
-/
import Derived.Test.YtfkobamemehkdaaDoorInAwake
import Derived.Test.YtfkobamemehkdaaDoorInOpen
import Derived.Test.YtfkobamemehkdaaDoorSealMath
import Derived.Test.YtfkobamemehkdaaDoorQuiet
import Derived.StillTailTactics
import Derived.Lib.SmallJoins
import Derived.ProofKit
namespace Go.Proofs.YtfkobamemehkdaaDoor
open Go.RowKit

/-- The zero inode's cells. -/
abbrev zino : Array Value := #[.int .i64 0, .int .i64 0, .int .i64 0, .int .i64 0, .int .i64 0, .int .u32 0, .int .u32 0, .int .u32 0, .int .u32 0, .int .u32 0, .int .u32 0, .int .u32 0, .int .u32 0, .int .u32 0]
theorem blo14 {w : World} {g : Nat} {t : TypeId} (h : Blo w g t zino) :
    (w.cell? ⟨g, 0, none⟩ = some (.int .i64 0) ∧ w.cell? ⟨g, 1, none⟩ = some (.int .i64 0) ∧ w.cell? ⟨g, 2, none⟩ = some (.int .i64 0) ∧ w.cell? ⟨g, 3, none⟩ = some (.int .i64 0) ∧ w.cell? ⟨g, 4, none⟩ = some (.int .i64 0)) ∧
    (w.cell? ⟨g, 5, none⟩ = some (.int .u32 0) ∧ w.cell? ⟨g, 6, none⟩ = some (.int .u32 0) ∧ w.cell? ⟨g, 7, none⟩ = some (.int .u32 0) ∧ w.cell? ⟨g, 8, none⟩ = some (.int .u32 0) ∧ w.cell? ⟨g, 9, none⟩ = some (.int .u32 0) ∧ w.cell? ⟨g, 10, none⟩ = some (.int .u32 0) ∧ w.cell? ⟨g, 11, none⟩ = some (.int .u32 0) ∧ w.cell? ⟨g, 12, none⟩ = some (.int .u32 0) ∧ w.cell? ⟨g, 13, none⟩ = some (.int .u32 0)) :=
  ⟨⟨by simpa using h.cell 0, by simpa using h.cell 1, by simpa using h.cell 2, by simpa using h.cell 3, by simpa using h.cell 4⟩, by simpa using h.cell 5, by simpa using h.cell 6, by simpa using h.cell 7, by simpa using h.cell 8, by simpa using h.cell 9, by simpa using h.cell 10, by simpa using h.cell 11, by simpa using h.cell 12, by simpa using h.cell 13⟩
set_option maxHeartbeats 1000000 in
theorem inDecode_badsum (l : List Nat) (hl : 64 = l.length) (a : Option Addr) (cap : Nat) (hc : 64 ≤ cap) (w : World) (ht : Tab w) (hz : 0 < w.heap.size) (h : Bytes w a l) (ha : a = none → l = [] ∧ cap = 0) (hs : sealN (l.take 60) ≠ l) :
    Calls Tryd.prog 14 #[.slice a 64 cap] w fun e w' => e = .returned (.tuple #[.agg zino, .int .i64 101]) ∧ Below w.heap.size w w' := by
  have HT := Lib.hid ht
  have H := Lib.hid h
  have HA := Lib.hid ha
  have HS := Lib.hid hs
  have HL := Lib.hid hl
  clear ht h ha hs hl
  go_enter Tryd.func14, Tryd.ntmps14
  go_wp2_with fail
  have HB0 : Hid (Below w.heap.size w (w.alloc (.cells zino 25))) := sup_below w _
  have HG0 := Lib.hid (blo_laid w 25 zino)
  refine (open_bad l 64 60 HL.out rfl (by decide) a cap hc _ (HT.out.below HB0.out hz) (H.out.below HB0.out) HA.out HS.out).mono ?_
  rintro e w1 ⟨rfl, hb1⟩
  have HB1 : Hid (Below w.heap.size w w1) := HB0.out.trans (hb1.mono (by simp))
  have HG1 := Lib.hid (HG0.out.later hb1)
  clear hb1 HG0 HB0
  obtain ⟨⟨c0, c1, c2, c3, c4⟩, c5, c6, c7, c8, c9, c10, c11, c12, c13⟩ := blo14 HG1.out
  have f0 := HG1.out.frozen 0
  have f1 := HG1.out.frozen 1
  have f2 := HG1.out.frozen 2
  have f3 := HG1.out.frozen 3
  have f4 := HG1.out.frozen 4
  have f5 := HG1.out.frozen 5
  have f6 := HG1.out.frozen 6
  have f7 := HG1.out.frozen 7
  have f8 := HG1.out.frozen 8
  have f9 := HG1.out.frozen 9
  have f10 := HG1.out.frozen 10
  have f11 := HG1.out.frozen 11
  have f12 := HG1.out.frozen 12
  have f13 := HG1.out.frozen 13
  go_wp2
  refine bodyPost_ret (v := .tuple #[.agg zino, .int .i64 101]) ?_ rfl ⟨rfl, ?_⟩
  · simp [results, Tryd.results14, go_sem, c0, c1, c2, c3, c4, c5, c6, c7, c8, c9, c10, c11, c12, c13]
  · exact (((((((((((((HB1.out.setCell (p := ⟨w.heap.size, 0, none⟩) (Nat.le_refl _) _).setCell (p := ⟨w.heap.size, 1, none⟩) (Nat.le_refl _) _).setCell (p := ⟨w.heap.size, 2, none⟩) (Nat.le_refl _) _).setCell (p := ⟨w.heap.size, 3, none⟩) (Nat.le_refl _) _).setCell (p := ⟨w.heap.size, 4, none⟩) (Nat.le_refl _) _).setCell (p := ⟨w.heap.size, 5, none⟩) (Nat.le_refl _) _).setCell (p := ⟨w.heap.size, 6, none⟩) (Nat.le_refl _) _).setCell (p := ⟨w.heap.size, 7, none⟩) (Nat.le_refl _) _).setCell (p := ⟨w.heap.size, 8, none⟩) (Nat.le_refl _) _).setCell (p := ⟨w.heap.size, 9, none⟩) (Nat.le_refl _) _).setCell (p := ⟨w.heap.size, 10, none⟩) (Nat.le_refl _) _).setCell (p := ⟨w.heap.size, 11, none⟩) (Nat.le_refl _) _).setCell (p := ⟨w.heap.size, 12, none⟩) (Nat.le_refl _) _).setCell (p := ⟨w.heap.size, 13, none⟩) (Nat.le_refl _) _
theorem inodeSealed_bad (a b c d s : Int) (p0 p1 p2 p3 p4 p5 p6 p7 p8 : Nat) (at0 : Int) (w : World) (ht : Tab w) (hz : 0 < w.heap.size) (h : ¬ GoodI a b c d s) :
    Calls Tryd.prog 7 #[.agg (ino a b c d s p0 p1 p2 p3 p4 p5 p6 p7 p8), .int .i64 at0] w fun e w' => e = .returned (.bool true) ∧ Below w.heap.size w w' := by
  have hb0 := sup_below w (.cells (ino a b c d s p0 p1 p2 p3 p4 p5 p6 p7 p8) 25)
  have HB0 := Lib.hid hb0
  have HG0 := Lib.hid (blo_laid w 25 (ino a b c d s p0 p1 p2 p3 p4 p5 p6 p7 p8))
  have HAw := Lib.hid (awake_any (w.alloc (.cells (ino a b c d s p0 p1 p2 p3 p4 p5 p6 p7 p8) 25)) (ht.below hb0 hz) (Nat.lt_of_lt_of_le hz hb0.size))
  have HE := Lib.hid (fun W => encode_bad a b c d s p0 p1 p2 p3 p4 p5 p6 p7 p8 W h)
  clear h ht hb0
  go_enter Tryd.func7, Tryd.ntmps7
  go_wp2_with fail
  refine HAw.out.mono ?_
  rintro e w1 ⟨rfl, hb1⟩
  have HB1 : Hid (Below w.heap.size w w1) := HB0.out.trans (hb1.mono HB0.out.size)
  have HG1 := Lib.hid (HG0.out.later hb1)
  clear hb1 HG0
  have c0 : w1.cell? ⟨w.heap.size, 0, none⟩ = some (.int .i64 a) := by simpa using HG1.out.cell 0
  have c1 : w1.cell? ⟨w.heap.size, 1, none⟩ = some (.int .i64 b) := by simpa using HG1.out.cell 1
  have c2 : w1.cell? ⟨w.heap.size, 2, none⟩ = some (.int .i64 c) := by simpa using HG1.out.cell 2
  have c3 : w1.cell? ⟨w.heap.size, 3, none⟩ = some (.int .i64 d) := by simpa using HG1.out.cell 3
  have c4 : w1.cell? ⟨w.heap.size, 4, none⟩ = some (.int .i64 s) := by simpa using HG1.out.cell 4
  have c5 : w1.cell? ⟨w.heap.size, 5, none⟩ = some (.int .u32 p0) := by simpa using HG1.out.cell 5
  have c6 : w1.cell? ⟨w.heap.size, 6, none⟩ = some (.int .u32 p1) := by simpa using HG1.out.cell 6
  have c7 : w1.cell? ⟨w.heap.size, 7, none⟩ = some (.int .u32 p2) := by simpa using HG1.out.cell 7
  have c8 : w1.cell? ⟨w.heap.size, 8, none⟩ = some (.int .u32 p3) := by simpa using HG1.out.cell 8
  have c9 : w1.cell? ⟨w.heap.size, 9, none⟩ = some (.int .u32 p4) := by simpa using HG1.out.cell 9
  have c10 : w1.cell? ⟨w.heap.size, 10, none⟩ = some (.int .u32 p5) := by simpa using HG1.out.cell 10
  have c11 : w1.cell? ⟨w.heap.size, 11, none⟩ = some (.int .u32 p6) := by simpa using HG1.out.cell 11
  have c12 : w1.cell? ⟨w.heap.size, 12, none⟩ = some (.int .u32 p7) := by simpa using HG1.out.cell 12
  have c13 : w1.cell? ⟨w.heap.size, 13, none⟩ = some (.int .u32 p8) := by simpa using HG1.out.cell 13
  go_wp2_with fail
  refine (HE.out _).mono ?_
  rintro e w2 ⟨rfl, hb2⟩
  have HB2 : Hid (Below w.heap.size w w2) := HB1.out.trans (hb2.mono HB1.out.size)
  clear hb2 c0 c1 c2 c3 c4 c5 c6 c7 c8 c9 c10 c11 c12 c13
  go_wp2
  go_ret
  exact ⟨rfl, HB2.out⟩
theorem p8_u8 : ∀ r, r < 8 → IntKind.u8.wrap (1 * 2 ^ r) = ((2 ^ r : Nat) : Int) := by decide
theorem shl_u8 (p : Nat) : Op.shift .shl .u8 1 .i64 ((p : Int).tmod 8) = pure (.int .u8 ((2 ^ (p % 8) : Nat) : Int)) := by
  have e : (p : Int).tmod 8 = ((p % 8 : Nat) : Int) := rfl
  rw [e, shift_shl .u8 .i64 1 _ (by omega) (by show ((p % 8 : Nat) : Int) ≤ 8; omega), Int.toNat_natCast, p8_u8 _ (Nat.mod_lt _ (by decide))]
theorem cut_mod512 (x : Int) : ∃ k : Nat, k < 512 ∧ wrap64 ((IntKind.u64.wrap x).tmod 512) = (k : Int) := by
  obtain ⟨k, hk, e⟩ := cut_mod x 511 (by decide)
  exact ⟨k, by omega, e⟩
theorem eql_zino (W : World) : (binOp .eql 25 (.agg zino) (.agg zino)).run Tryd.prog W = .ok (.bool true) W := by
  obtain ⟨r, h1, h2⟩ := eql_ino 0 0 0 0 0 0 0 0 0 0 0 0 0 0 0 0 0 0 0 0 0 0 0 0 0 0 0 0 (by unfold FitI; decide) (by unfold FitI; decide) W
  rw [show r = true from h2.2 (by simp)] at h1
  exact h1
set_option maxHeartbeats 2000000 in
theorem inodeSealed_good (a b c d s p0 p1 p2 p3 p4 p5 p6 p7 p8 : Nat) (at0 : Int) (w : World) (ht : Tab w) (hz : 0 < w.heap.size) (h : GoodI a b c d s)
    (q0 : p0 < 4294967296) (q1 : p1 < 4294967296) (q2 : p2 < 4294967296) (q3 : p3 < 4294967296) (q4 : p4 < 4294967296) (q5 : p5 < 4294967296) (q6 : p6 < 4294967296) (q7 : p7 < 4294967296) (q8 : p8 < 4294967296) :
    Calls Tryd.prog 7 #[.agg (ino a b c d s p0 p1 p2 p3 p4 p5 p6 p7 p8), .int .i64 at0] w fun e w' => e = .returned (.bool true) ∧ Below w.heap.size w w' := by
  have hb0 := sup_below w (.cells (ino a b c d s p0 p1 p2 p3 p4 p5 p6 p7 p8) 25)
  have HB0 := Lib.hid hb0
  have HT := Lib.hid ht
  have HG0 := Lib.hid (blo_laid w 25 (ino a b c d s p0 p1 p2 p3 p4 p5 p6 p7 p8))
  have HAw := Lib.hid (awake_any (w.alloc (.cells (ino a b c d s p0 p1 p2 p3 p4 p5 p6 p7 p8) 25)) (ht.below hb0 hz) (Nat.lt_of_lt_of_le hz hb0.size))
  have HE := Lib.hid (fun W ht hz => encode_good a b c d s p0 p1 p2 p3 p4 p5 p6 p7 p8 W ht hz h q0 q1 q2 q3 q4 q5 q6 q7 q8)
  obtain ⟨k, hk, hke⟩ := cut_mod512 at0
  have HM : Hid ((inoN a b c d s p0 p1 p2 p3 p4 p5 p6 p7 p8).length = 60) := inoN_length _ _ _ _ _ _ _ _ _ _ _ _ _ _
  have HM8 : Hid (∀ x ∈ inoN a b c d s p0 p1 p2 p3 p4 p5 p6 p7 p8, x < 256) := inoN_lt _ _ _ _ _ _ _ _ _ _ _ _ _ _
  clear h ht hb0
  generalize inoN a b c d s p0 p1 p2 p3 p4 p5 p6 p7 p8 = M at *
  have HLn : Hid ((sealN M).length = 64) := by show _ = _; rw [len4, HM.out]
  have HLt : Hid (∀ x ∈ sealN M, x < 256) := sealN_lt HM8.out
  have hy : (sealN M).getD (k / 8) 0 < 256 := getD_byte HLt.out _
  have hpw := pow8_lt k
  have HSet : Hid (sealN (((sealN M).set (k / 8) ((sealN M).getD (k / 8) 0 ^^^ 2 ^ (k % 8))).take 60) ≠ (sealN M).set (k / 8) ((sealN M).getD (k / 8) 0 ^^^ 2 ^ (k % 8))) :=
    sealed_set M HM.out HM8.out (k / 8) _ (by omega) (Nat.xor_lt_two_pow (n := 8) hy hpw) (xor_pow_ne _ _)
  have hshl := shl_u8 k
  go_enter Tryd.func7, Tryd.ntmps7
  go_wp2_with fail
  refine HAw.out.mono ?_
  rintro e w1 ⟨rfl, hb1⟩
  have HB1 : Hid (Below w.heap.size w w1) := HB0.out.trans (hb1.mono HB0.out.size)
  have HG1 := Lib.hid (HG0.out.later hb1)
  clear hb1 HG0 HAw
  have c0 : w1.cell? ⟨w.heap.size, 0, none⟩ = some (.int .i64 a) := by simpa using HG1.out.cell 0
  have c1 : w1.cell? ⟨w.heap.size, 1, none⟩ = some (.int .i64 b) := by simpa using HG1.out.cell 1
  have c2 : w1.cell? ⟨w.heap.size, 2, none⟩ = some (.int .i64 c) := by simpa using HG1.out.cell 2
  have c3 : w1.cell? ⟨w.heap.size, 3, none⟩ = some (.int .i64 d) := by simpa using HG1.out.cell 3
  have c4 : w1.cell? ⟨w.heap.size, 4, none⟩ = some (.int .i64 s) := by simpa using HG1.out.cell 4
  have c5 : w1.cell? ⟨w.heap.size, 5, none⟩ = some (.int .u32 p0) := by simpa using HG1.out.cell 5
  have c6 : w1.cell? ⟨w.heap.size, 6, none⟩ = some (.int .u32 p1) := by simpa using HG1.out.cell 6
  have c7 : w1.cell? ⟨w.heap.size, 7, none⟩ = some (.int .u32 p2) := by simpa using HG1.out.cell 7
  have c8 : w1.cell? ⟨w.heap.size, 8, none⟩ = some (.int .u32 p3) := by simpa using HG1.out.cell 8
  have c9 : w1.cell? ⟨w.heap.size, 9, none⟩ = some (.int .u32 p4) := by simpa using HG1.out.cell 9
  have c10 : w1.cell? ⟨w.heap.size, 10, none⟩ = some (.int .u32 p5) := by simpa using HG1.out.cell 10
  have c11 : w1.cell? ⟨w.heap.size, 11, none⟩ = some (.int .u32 p6) := by simpa using HG1.out.cell 11
  have c12 : w1.cell? ⟨w.heap.size, 12, none⟩ = some (.int .u32 p7) := by simpa using HG1.out.cell 12
  have c13 : w1.cell? ⟨w.heap.size, 13, none⟩ = some (.int .u32 p8) := by simpa using HG1.out.cell 13
  go_wp2_with fail
  refine (HE.out _ (HT.out.below HB1.out hz) (by have := HB1.out.size; omega)).mono ?_
  rintro e w2 ⟨g, rfl, hr2, hg2, hb2⟩
  have HB2 : Hid (Below w.heap.size w w2) := HB1.out.trans (hb2.mono HB1.out.size)
  have HR2 := Lib.hid hr2
  have hgw : w.heap.size ≤ g := Nat.le_trans HB1.out.size hg2
  clear hb2 hr2 c0 c1 c2 c3 c4 c5 c6 c7 c8 c9 c10 c11 c12 c13
  have hcell := HR2.out.cell (k / 8) (by rw [HLn.out]; omega)
  have hfrz := HR2.out.frozen (k / 8)
  have HV8 : Hid ((sealN M).getD (k / 8) 0 ^^^ 2 ^ (k % 8) < 256) := Nat.xor_lt_two_pow (n := 8) hy hpw
  obtain ⟨y, hyy⟩ : ∃ y, (sealN M).getD (k / 8) 0 = y := ⟨_, rfl⟩
  rw [hyy] at hcell hy HSet HV8
  obtain ⟨v, hvv⟩ : ∃ v, 2 ^ (k % 8) = v := ⟨_, rfl⟩
  rw [hvv] at hshl hpw HSet HV8
  clear hyy hvv
  have hxx := u8_xor_nat y v hy hpw
  have e1 : IntKind.i64.wrap ((k : Int) / 8) = (k : Int) / 8 := IntWalk.i64_in _ (by omega)
  have hb1 : (0 : Int) ≤ (k : Int) / 8 := by omega
  have hb2 : (k : Int) / 8 < 64 := by omega
  have hb3 : ((k : Int) / 8).toNat = k / 8 := by omega
  go_wp2_with fail
  go_still_tail 10, (by kernel_rfl)
  have HB3 : Hid (Below w.heap.size w w2.drew) := HB2.out.drew
  have HR3 : Hid (Row w2.drew g (sealN M)) := HR2.out
  have hc3 : w2.drew.cell? ⟨g, k / 8, none⟩ = some (.int .u8 y) := hcell
  have hf3 : w2.drew.frozen? ⟨g, k / 8, none⟩ = false := hfrz
  clear hcell hfrz hshl hxx e1
  change wpList _ _ _ _ _ w2.drew
  generalize w2.drew = wq at HB3 HR3 hc3 hf3 ⊢
  have HB4 : Hid (Below w.heap.size w (wq.setCell ⟨g, k / 8, none⟩ (.int .u8 ((y ^^^ v : Nat) : Int)))) := HB3.out.setCell hgw _
  have HR4 := Lib.hid (HR3.out.set (k / 8) (y ^^^ v))
  have HL4 : Hid (64 = ((sealN M).set (k / 8) (y ^^^ v)).length) := by show _ = _; rw [List.length_set, HLn.out]
  have HY4 := Lib.hid (HR4.out.bytes (fun x hx => by rcases List.mem_or_eq_of_mem_set hx with h1 | h1; exact HLt.out x h1; exact h1 ▸ HV8.out) (by rw [← HL4.out]; decide))
  have HZ := Lib.hid eql_zino
  go_wp2_with fail
  refine (inDecode_badsum _ HL4.out (some ⟨g, 0, none⟩) 64 (Nat.le_refl _) _ (HT.out.below HB4.out hz) (by have := HB4.out.size; omega) HY4.out (fun e => by cases e) HSet.out).mono ?_
  rintro e w5 ⟨rfl, hb5⟩
  have HB5 : Hid (Below w.heap.size w w5) := HB4.out.trans (hb5.mono HB4.out.size)
  clear hb5 hc3 hf3
  have hz5 := HZ.out
  go_wp2_with fail
  go_ret
  exact ⟨rfl, HB5.out.alloc HB5.out.size _⟩
theorem inodeSealed_walk (a b c d s : Int) (p0 p1 p2 p3 p4 p5 p6 p7 p8 : Nat) (at0 : Int) (w : World) (hL : Tab w ∧ 0 < w.heap.size) (h1 : FitI a b c d s p0 p1 p2 p3 p4 p5 p6 p7 p8) (_ : (Lit.int .i64 at0).wf = true) :
    Calls Tryd.prog 7 #[.agg (ino a b c d s p0 p1 p2 p3 p4 p5 p6 p7 p8), .int .i64 at0] w fun e w' => e = .returned (.bool true) ∧ Below w.heap.size w w' := by
  obtain ⟨_, _, _, _, _, q0, q1, q2, q3, q4, q5, q6, q7, q8⟩ := h1
  by_cases hg : GoodI a b c d s
  · have hg0 := hg
    obtain ⟨e1, e2, e3, e4, e5, e6, e7, e8, e9, e10⟩ := hg
    obtain ⟨A, rfl⟩ := Int.eq_ofNat_of_zero_le (show 0 ≤ a by omega)
    obtain ⟨B, rfl⟩ := Int.eq_ofNat_of_zero_le (show 0 ≤ b by omega)
    obtain ⟨C, rfl⟩ := Int.eq_ofNat_of_zero_le (show 0 ≤ c by omega)
    obtain ⟨D, rfl⟩ := Int.eq_ofNat_of_zero_le (show 0 ≤ d by omega)
    obtain ⟨S, rfl⟩ := Int.eq_ofNat_of_zero_le (show 0 ≤ s by omega)
    exact inodeSealed_good A B C D S p0 p1 p2 p3 p4 p5 p6 p7 p8 at0 w hL.1 hL.2 hg0 q0 q1 q2 q3 q4 q5 q6 q7 q8
  · exact inodeSealed_bad a b c d s p0 p1 p2 p3 p4 p5 p6 p7 p8 at0 w hL.1 hL.2 hg
end Go.Proofs.YtfkobamemehkdaaDoor
