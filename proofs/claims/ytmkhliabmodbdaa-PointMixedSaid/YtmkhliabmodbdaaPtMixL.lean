/-
  PointMixed: points of one Epoch and Count, and what is no point.
-/
import Derived.Test.YtmkhliabmodbdaaPtMixed
namespace Go.Proofs.Ytmkhliabmodbdaa
open Go.RowKit

set_option maxHeartbeats 4000000 in
theorem mixed_same (pe pc pn pf qe qc qn qf : Int) (x : Nat) (he : pe = qe) (hc : pc = qc) (W : World) :
    Calls Try.prog 8 #[.agg #[.int .i64 pe, .int .i64 pc, .int .i64 pn, .int .i64 pf], .agg #[.int .i64 qe, .int .i64 qc, .int .i64 qn, .int .i64 qf], .int .u8 (x : Int)] W fun e w' => e = .returned (.bool true) ∧ Below W.heap.size W w' := by
  have t1 : (pe == qe) = true := by simp [he]
  have t2 : (pc == qc) = true := by simp [hc]
  clear he hc
  have hb2 : Below W.heap.size W ((W.alloc (.cells #[.int .i64 pe, .int .i64 pc, .int .i64 pn, .int .i64 pf] PNT)).alloc (.cells #[.int .i64 qe, .int .i64 qc, .int .i64 qn, .int .i64 qf] PNT)) := ((Below.refl _ _).alloc (Nat.le_refl _) _).alloc (by simp) _
  have HB2 := Lib.hid hb2
  have HGa := Lib.hid ((blo_laid W PNT #[.int .i64 pe, .int .i64 pc, .int .i64 pn, .int .i64 pf]).alloc (.cells #[.int .i64 qe, .int .i64 qc, .int .i64 qn, .int .i64 qf] PNT))
  have HGb : Hid (Blo ((W.alloc (.cells #[.int .i64 pe, .int .i64 pc, .int .i64 pn, .int .i64 pf] PNT)).alloc (.cells #[.int .i64 qe, .int .i64 qc, .int .i64 qn, .int .i64 qf] PNT)) (W.heap.size + 1) PNT #[.int .i64 qe, .int .i64 qc, .int .i64 qn, .int .i64 qf]) := by
    have := blo_laid (W.alloc (.cells #[.int .i64 pe, .int .i64 pc, .int .i64 pn, .int .i64 pf] PNT)) PNT #[.int .i64 qe, .int .i64 qc, .int .i64 qn, .int .i64 qf]
    rw [show (W.alloc (.cells #[.int .i64 pe, .int .i64 pc, .int .i64 pn, .int .i64 pf] PNT)).heap.size = W.heap.size + 1 by simp] at this
    exact this
  clear hb2
  go_enter Try.func8, Try.ntmps8
  go_wp2_with fail
  refine (awake_any _).mono ?_
  rintro e w1 ⟨rfl, hb1⟩
  have HB1 := Lib.hid (HB2.out.trans (hb1.mono HB2.out.size))
  have HA1 := Lib.hid (HGa.out.later hb1)
  have HC1 := Lib.hid (HGb.out.later hb1)
  clear hb1 HB2 HGa HGb
  have a0 := HA1.out.cell 0
  have a1 := HA1.out.cell 1
  have a2 := HA1.out.cell 2
  have a3 := HA1.out.cell 3
  have c0 := HC1.out.cell 0
  have c1 := HC1.out.cell 1
  have c2 := HC1.out.cell 2
  have c3 := HC1.out.cell 3
  simp at a0 a1 a2 a3 c0 c1 c2 c3
  go_wp2_with fail
  refine (awake_any _).mono ?_
  rintro e w2 ⟨rfl, hb2⟩
  have HB3 := Lib.hid (HB1.out.trans (hb2.mono HB1.out.size))
  clear hb2
  go_wp2
  go_ret
  exact ⟨rfl, HB3.out⟩
/-- What Encode answers, whatever it is given. -/
def EncA (w : World) (ok : Bool) (e : Ending) (w' : World) : Prop := ∃ v c, e = .returned (.tuple #[v, .int .i64 c]) ∧ (c != 0) = !ok ∧ Below w.heap.size w w'
theorem encode_all (e c n f : Int) (w : World) : Calls Try.prog 29 #[.agg #[.int .i64 e, .int .i64 c, .int .i64 n, .int .i64 f]] w (EncA w (decide (Good4 ⟨e, c, n, f⟩))) := by
  by_cases h : Good4 ⟨e, c, n, f⟩
  · refine (encode_good ⟨e, c, n, f⟩ w h).mono ?_
    rintro e' w' ⟨g, rfl, _, _, hb⟩
    exact ⟨_, 0, rfl, by rw [decide_eq_true h]; rfl, hb⟩
  · refine (encode_bad e c n f w h).mono ?_
    rintro e' w' ⟨rfl, hb⟩
    exact ⟨_, 22, rfl, by rw [decide_eq_false h]; rfl, hb⟩
set_option maxRecDepth 100000 in
set_option maxHeartbeats 4000000 in
theorem mixed_bad (pe pc pn pf qe qc qn qf : Int) (x : Nat) (hne : ¬ (pe = qe ∧ pc = qc)) (hbad : ¬ (Good4 ⟨pe, pc, pn, pf⟩ ∧ Good4 ⟨qe, qc, qn, qf⟩)) (W : World) :
    Calls Try.prog 8 #[.agg #[.int .i64 pe, .int .i64 pc, .int .i64 pn, .int .i64 pf], .agg #[.int .i64 qe, .int .i64 qc, .int .i64 qn, .int .i64 qf], .int .u8 (x : Int)] W fun e w' => e = .returned (.bool true) ∧ Below W.heap.size W w' := by
  have hcase : ((pe == qe) = false) ∨ ((pe == qe) = true ∧ (pc == qc) = false) := by
    by_cases h1 : pe = qe
    · right
      exact ⟨by simp [h1], by rw [beq_eq_false_iff_ne]; intro h2; exact hne ⟨h1, h2⟩⟩
    · left; rw [beq_eq_false_iff_ne]; exact h1
  have HE1 := Lib.hid (fun w => encode_all pe pc pn pf w)
  have HE2 := Lib.hid (fun w => encode_all qe qc qn qf w)
  have hbb : (!decide (Good4 ⟨pe, pc, pn, pf⟩)) = true ∨ ((!decide (Good4 ⟨pe, pc, pn, pf⟩)) = false ∧ (!decide (Good4 ⟨qe, qc, qn, qf⟩)) = true) := by
    by_cases h1 : Good4 ⟨pe, pc, pn, pf⟩
    · right
      exact ⟨by rw [decide_eq_true h1]; rfl, by rw [decide_eq_false (fun h2 => hbad ⟨h1, h2⟩)]; rfl⟩
    · left; rw [decide_eq_false h1]; rfl
  generalize decide (Good4 ⟨pe, pc, pn, pf⟩) = b1 at *
  generalize decide (Good4 ⟨qe, qc, qn, qf⟩) = b2 at *
  have HBB := Lib.hid hbb
  clear hne hbad hbb
  have hb2 : Below W.heap.size W ((W.alloc (.cells #[.int .i64 pe, .int .i64 pc, .int .i64 pn, .int .i64 pf] PNT)).alloc (.cells #[.int .i64 qe, .int .i64 qc, .int .i64 qn, .int .i64 qf] PNT)) := ((Below.refl _ _).alloc (Nat.le_refl _) _).alloc (by simp) _
  have HB2 := Lib.hid hb2
  have HGa := Lib.hid ((blo_laid W PNT #[.int .i64 pe, .int .i64 pc, .int .i64 pn, .int .i64 pf]).alloc (.cells #[.int .i64 qe, .int .i64 qc, .int .i64 qn, .int .i64 qf] PNT))
  have HGb : Hid (Blo ((W.alloc (.cells #[.int .i64 pe, .int .i64 pc, .int .i64 pn, .int .i64 pf] PNT)).alloc (.cells #[.int .i64 qe, .int .i64 qc, .int .i64 qn, .int .i64 qf] PNT)) (W.heap.size + 1) PNT #[.int .i64 qe, .int .i64 qc, .int .i64 qn, .int .i64 qf]) := by
    have := blo_laid (W.alloc (.cells #[.int .i64 pe, .int .i64 pc, .int .i64 pn, .int .i64 pf] PNT)) PNT #[.int .i64 qe, .int .i64 qc, .int .i64 qn, .int .i64 qf]
    rw [show (W.alloc (.cells #[.int .i64 pe, .int .i64 pc, .int .i64 pn, .int .i64 pf] PNT)).heap.size = W.heap.size + 1 by simp] at this
    exact this
  clear hb2
  go_enter Try.func8, Try.ntmps8
  go_wp2_with fail
  refine (awake_any _).mono ?_
  rintro e w1 ⟨rfl, hb1⟩
  have HB1 := Lib.hid (HB2.out.trans (hb1.mono HB2.out.size))
  have HA1 := Lib.hid (HGa.out.later hb1)
  have HC1 := Lib.hid (HGb.out.later hb1)
  clear hb1 HB2 HGa HGb
  have a0 := HA1.out.cell 0
  have a1 := HA1.out.cell 1
  have a2 := HA1.out.cell 2
  have a3 := HA1.out.cell 3
  have c0 := HC1.out.cell 0
  have c1 := HC1.out.cell 1
  have c2 := HC1.out.cell 2
  have c3 := HC1.out.cell 3
  simp at a0 a1 a2 a3 c0 c1 c2 c3
  rcases hcase with ht | ⟨ht, ht2⟩
  all_goals
    go_wp2_with fail
    clear ht
    try clear ht2
    refine (HE1.out _).mono ?_
    rintro e w2 ⟨v1, k1, rfl, hk1, hb2⟩
    have HB2 := Lib.hid (HB1.out.trans (hb2.mono HB1.out.size))
    have HC2 := Lib.hid (HC1.out.later hb2)
    have HK1 := Lib.hid hk1
    clear a0 a1 a2 a3 c0 c1 c2 c3 hb2 hk1 HB1 HA1 HC1 HE1
    have c0 := HC2.out.cell 0
    have c1 := HC2.out.cell 1
    have c2 := HC2.out.cell 2
    have c3 := HC2.out.cell 3
    simp at c0 c1 c2 c3
    go_wp2_with fail
    refine (HE2.out _).mono ?_
    rintro e w3 ⟨v2, k2, rfl, hk2, hb3⟩
    have HB3 := Lib.hid (HB2.out.trans (hb3.mono HB2.out.size))
    have HK2 := Lib.hid hk2
    clear c0 c1 c2 c3 hb3 hk2 HB2 HC2 HE2
    rcases HBB.out with h | ⟨h, h'⟩
    · have q1 : (k1 != 0) = true := by rw [HK1.out, h]
      clear h
      go_wp2
      go_ret
      exact ⟨rfl, HB3.out⟩
    · have q1 : (k1 != 0) = false := by rw [HK1.out, h]
      have q2 : (k2 != 0) = true := by rw [HK2.out, h']
      clear h h'
      go_wp2
      go_ret
      exact ⟨rfl, HB3.out⟩
theorem pointMixed_walk (pe pc pn pf qe qc qn qf y : Int) (W : World) (_ : (Lit.int .i64 pe).wf = true) (_ : (Lit.int .i64 pc).wf = true) (_ : (Lit.int .i64 pn).wf = true) (_ : (Lit.int .i64 pf).wf = true) (_ : (Lit.int .i64 qe).wf = true) (_ : (Lit.int .i64 qc).wf = true) (_ : (Lit.int .i64 qn).wf = true) (_ : (Lit.int .i64 qf).wf = true) (hy : (Lit.int .u8 y).wf = true) :
    Calls Try.prog 8 #[.agg #[.int .i64 pe, .int .i64 pc, .int .i64 pn, .int .i64 pf], .agg #[.int .i64 qe, .int .i64 qc, .int .i64 qn, .int .i64 qf], .int .u8 y] W fun e w' => e = .returned (.bool true) ∧ Below W.heap.size W w' := by
  have hb := Go.bounds_u8 hy
  obtain ⟨x, rfl⟩ := Int.eq_ofNat_of_zero_le (show 0 ≤ y by omega)
  by_cases hs : pe = qe ∧ pc = qc
  · exact mixed_same pe pc pn pf qe qc qn qf x hs.1 hs.2 W
  · by_cases hg : Good4 ⟨pe, pc, pn, pf⟩ ∧ Good4 ⟨qe, qc, qn, qf⟩
    · exact mixed_good ⟨pe, pc, pn, pf⟩ ⟨qe, qc, qn, qf⟩ x (by omega) hg.1 hg.2 hs W
    · exact mixed_bad pe pc pn pf qe qc qn qf x hs hg W
end Go.Proofs.Ytmkhliabmodbdaa
