/-
  The walks of a path as the document has it, and of two of them held against each other.
-/
import Derived.Test.YtcekejaefbdhfaaIxMath
import Derived.Test.YtcekejaefbdhfaaIxAwake
import Derived.OpenShut
namespace Go.Proofs.Ytcekejaefbdhfaa
open Go.RowKit

set_option maxHeartbeats 400000 in
theorem lawRef_any (R : Int) (a b : Option Addr) (n c m d : Nat) (w : World) :
    Calls Try.prog 16 #[.agg #[.int .i64 R, .slice a n c, .slice b m d]] w fun e w' => e = .returned (.agg #[.int .i64 R, .slice a n c, .slice b m d]) ∧ Below w.heap.size w w' := by
  go_enter Try.func16, Try.ntmps16
  go_wp2
  exact bodyPost_ret (v := .agg #[.int .i64 R, .slice a n c, .slice b m d]) (by simp [results, Try.results16, go_sem]) rfl ⟨rfl, ((Below.refl _ _).alloc (Nat.le_refl _) _).alloc (by simp) _⟩
def SameB (R1 R2 : Int) (l1 l2 s1 s2 : List Int) : Bool := decide (R1 = R2 ∧ l1 = l2 ∧ s1 = s2)
set_option maxHeartbeats 1000000 in
theorem same_any (R1 R2 : Int) (l1 l2 s1 s2 : List Int) (a1 a2 b1 b2 : Option Addr) (n1 n2 c1 c2 d1 d2 : Nat) (w : World)
    (h1 : n1 = l1.length) (h2 : n1 = s1.length) (h3 : n2 = l2.length) (h4 : n2 = s2.length) (hn : n1 < 1000000000) (i1 : Ints w a1 l1) (i2 : Ints w b1 s1) (i3 : Ints w a2 l2) (i4 : Ints w b2 s2) :
    Calls Try.prog 15 #[.agg #[.int .i64 R1, .slice a1 n1 c1, .slice b1 n1 d1], .agg #[.int .i64 R2, .slice a2 n2 c2, .slice b2 n2 d2]] w fun e w' => e = .returned (.bool (SameB R1 R2 l1 l2 s1 s2)) ∧ Below w.heap.size w w' := by
  have HL := Lib.hid (fun W hb => ints_any l1 l2 a1 a2 n1 n2 c1 c2 W h1 h3 hn (i1.below (w := w) hb) (i3.below hb))
  have HS := Lib.hid (fun W hb => ints_any s1 s2 b1 b2 n1 n2 d1 d2 W h2 h4 hn (i2.below (w := w) hb) (i4.below hb))
  have hb2 : Below w.heap.size w ((w.alloc (.cells #[.int .i64 R1, .slice a1 n1 c1, .slice b1 n1 d1] 33)).alloc (.cells #[.int .i64 R2, .slice a2 n2 c2, .slice b2 n2 d2] 33)) := ((Below.refl _ _).alloc (Nat.le_refl _) _).alloc (by simp) _
  have HB2 := Lib.hid hb2
  have G1 := Lib.hid ((blo_laid w 33 #[.int .i64 R1, .slice a1 n1 c1, .slice b1 n1 d1]).alloc (.cells #[.int .i64 R2, .slice a2 n2 c2, .slice b2 n2 d2] 33))
  have g2 := blo_laid (w.alloc (.cells #[.int .i64 R1, .slice a1 n1 c1, .slice b1 n1 d1] 33)) 33 #[.int .i64 R2, .slice a2 n2 c2, .slice b2 n2 d2]
  simp at g2
  have G2 := Lib.hid g2
  clear h1 h2 h3 h4 i1 i2 i3 i4 hb2 g2
  by_cases hR : R1 = R2
  · subst hR
    have hRR : (R1 == R1) = true := by simp
    have HE : Hid (SameB R1 R1 l1 l2 s1 s2 = (decide (l1 = l2) && decide (s1 = s2))) := by show _ = _; unfold SameB; simp
    generalize hd1 : decide (l1 = l2) = x1 at *
    generalize hd2 : decide (s1 = s2) = x2 at *
    clear hd1 hd2
    go_enter Try.func15, Try.ntmps15
    go_wp2_with fail
    refine (HL.out _ HB2.out).mono ?_
    rintro e w1 ⟨rfl, hb1⟩
    have HB1 : Hid (Below w.heap.size w w1) := HB2.out.trans (hb1.mono HB2.out.size)
    have G1' := Lib.hid (G1.out.later hb1)
    have G2' := Lib.hid (G2.out.later hb1)
    clear hb1 HB2 G1 G2
    cases x1
    · go_wp2_with fail
      go_ret
      rw [HE.out]
      exact ⟨rfl, HB1.out⟩
    · have p2 := G1'.out.cell 2
      have q2 := G2'.out.cell 2
      simp at p2 q2
      go_wp2_with fail
      refine (HS.out _ HB1.out).mono ?_
      rintro e w2 ⟨rfl, hb2⟩
      have HB2 : Hid (Below w.heap.size w w2) := HB1.out.trans (hb2.mono HB1.out.size)
      clear hb2 HB1 p2 q2
      go_wp2_with fail
      go_ret
      rw [HE.out]
      exact ⟨by simp, HB2.out⟩
  · have hRR : (R1 == R2) = false := by simpa using hR
    have HE : Hid (SameB R1 R2 l1 l2 s1 s2 = false) := by show _ = _; unfold SameB; simp [hR]
    go_enter Try.func15, Try.ntmps15
    go_wp2_with fail
    go_ret
    rw [HE.out]
    exact ⟨rfl, HB2.out⟩
/-- The same path, the same block. -/
theorem same_iff (a b : Int) (ha : isB a = true) (hb : isB b = true) :
    SameB (rPtr (fOf a)) (rPtr (fOf b)) (metasM (fOf a) (lvOf a)) (metasM (fOf b) (lvOf b)) (slotsM (fOf a) (lvOf a)) (slotsM (fOf b) (lvOf b)) = decide (a = b) := by
  unfold SameB
  rw [decide_eq_decide]
  constructor
  · rintro ⟨h1, h2, h3⟩
    have hp : parM (fOf a) (lvOf a) = parM (fOf b) (lvOf b) := by unfold parM; rw [h2]
    have hl : (pathM (fOf a) (lvOf a)).length = (pathM (fOf b) (lvOf b)).length := by rw [← metas_len, ← metas_len, h2]
    have hs : slotM (fOf a) (lvOf a) = slotM (fOf b) (lvOf b) := by
      unfold slotM
      rw [h1, h3]
      have : (pathM (fOf a) (lvOf a) = []) = (pathM (fOf b) (lvOf b) = []) := by
        rw [← List.length_eq_zero_iff, ← List.length_eq_zero_iff, hl]
      simp only [this]
    have fa := facts a ha
    have fb := facts b hb
    rw [← hp] at fb
    exact (falls_facts a b _ _ _ _ _ _ _ _ _ fa fb).2.1 hs
  · rintro rfl
    exact ⟨rfl, rfl, rfl⟩
/-- What stands on the way to a block. -/
def chkWay (n : Int) : Bool :=
  let ms := metasM (fOf n) (lvOf n)
  let ss := slotsM (fOf n) (lvOf n)
  (List.range ms.length).all fun i =>
    let m := ms.getD i 0
    isB m && decide (fOf m ≤ fOf n ∧ fOf n < fOf m + manyM (fOf m) (lvOf m)) && decide (0 ≤ ss.getD i 0 ∧ ss.getD i 0 ≤ 15) && decide (lvOf m = ms.length - i + lvOf n)
theorem chkWay_all : ((List.range 1300).all fun i => !isB ((i : Int) - 700) || chkWay ((i : Int) - 700)) = true := by kernel_rfl
theorem way (n : Int) (h : isB n = true) (i : Nat) (hi : i < (metasM (fOf n) (lvOf n)).length) (m s : Int) (hm : m = (metasM (fOf n) (lvOf n)).getD i 0) (hs : s = (slotsM (fOf n) (lvOf n)).getD i 0) :
    isB m = true ∧ fOf m ≤ fOf n ∧ fOf n < fOf m + manyM (fOf m) (lvOf m) ∧ 0 ≤ s ∧ s ≤ 15 ∧ lvOf m = (metasM (fOf n) (lvOf n)).length - i + lvOf n := by
  have hc := List.all_eq_true.1 (of_all chkWay chkWay_all n h) i (List.mem_range.2 hi)
  simp only [Bool.and_eq_true, decide_eq_true_eq] at hc
  rw [← hm, ← hs] at hc
  obtain ⟨⟨⟨h1, h2⟩, h3⟩, h4⟩ := hc
  exact ⟨h1, h2.1, h2.2, h3.1, h3.2, h4⟩
end Go.Proofs.Ytcekejaefbdhfaa
