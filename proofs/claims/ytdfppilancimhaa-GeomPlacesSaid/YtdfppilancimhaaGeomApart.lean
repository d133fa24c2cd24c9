/-
  The walk of GeomApart: segments don't overlap, and all blocks of one are told to be in it, in a row.
-/
import Derived.Test.YtdfppilancimhaaGeomLeft
namespace Go.Proofs.Ytdfppilancimhaa
open Go.RowKit

theorem place_math (s j k : Int) (hs : 0 < s) (hk0 : 0 ≤ k) (hk : k < s) : (3 + j * s + k - 3) / s = j ∧ (3 + j * s + k - 3) % s = k := by
  have e : 3 + j * s + k - 3 = k + j * s := by omega
  rw [e, Int.add_mul_ediv_right k j (by omega), Int.add_mul_emod_self_right, Int.ediv_eq_zero_of_lt hk0 hk, Int.emod_eq_of_lt hk0 hk]
  exact ⟨by omega, rfl⟩
theorem place_in (b s i j k : Int) (hG : Good b s i) (hj0 : 0 ≤ j) (hj : j < nsegs b s i) (hk0 : 0 ≤ k) (hk : k < s) : InSeg b s i (3 + j * s + k) := by
  have hs := hG.2.2.1
  have h1 : (j + 1) * s ≤ nsegs b s i * s := Int.mul_le_mul_of_nonneg_right (by omega) (by omega)
  rw [Int.add_mul, Int.one_mul] at h1
  have h2 : 0 ≤ j * s := Int.mul_nonneg hj0 (by omega)
  exact ⟨by omega, by omega⟩
theorem of_at (b s i j k : Int) (w : World) (hG : Good b s i) (hj0 : 0 ≤ j) (hj : j < nsegs b s i) (hk0 : 0 ≤ k) (hk : k < s) :
    Calls Try.prog 9 #[.agg #[.int .i64 b, .int .i64 s, .int .i64 i], .int .i64 (3 + j * s + k)] w fun e w' => e = .returned (.tuple #[.int .i64 j, .int .i64 k, .int .i64 0]) ∧ Below w.heap.size w w' := by
  have h := of_in b s i _ w (place_in b s i j k hG hj0 hj hk0 hk)
  obtain ⟨e1, e2⟩ := place_math s j k (by have := hG.2.2.1; omega) hk0 hk
  rw [e1, e2] at h
  exact h
theorem left_at (b s i j k : Int) (w : World) (hG : Good b s i) (hj0 : 0 ≤ j) (hj : j < nsegs b s i) (hk0 : 0 ≤ k) (hk : k < s) :
    Calls Try.prog 11 #[.agg #[.int .i64 b, .int .i64 s, .int .i64 i], .int .i64 (3 + j * s + k)] w fun e w' => e = .returned (.tuple #[.int .i64 (s - k), .int .i64 0]) ∧ Below w.heap.size w w' := by
  have h := left_in b s i _ w (place_in b s i j k hG hj0 hj hk0 hk)
  obtain ⟨_, e2⟩ := place_math s j k (by have := hG.2.2.1; omega) hk0 hk
  rw [e2] at h
  exact h
theorem Cells3.later {w w' : World} {g : Nat} {b s i : Int} (h : Cells3 w g b s i) (hb : Below w.heap.size w w') : Cells3 w' g b s i :=
  ⟨cell_later hb h.1, cell_later hb h.2.1, cell_later hb h.2.2⟩
/-- What stands at the head of each round of the segments. -/
def ApRel (w : World) (b s i : Int) (last seg : Value) (wr : World) : Prop :=
  ∃ j : Nat, seg = .int .i64 j ∧ last = .int .i64 (3 + (j : Int) * s) ∧ (j : Int) ≤ nsegs b s i ∧ Cells3 wr w.heap.size b s i ∧ Below w.heap.size w wr
def ApIn (w : World) (b s i : Int) (at_ : Value) (wr : World) : Prop :=
  ∃ k : Nat, at_ = .int .i64 k ∧ (k : Int) ≤ s ∧ Cells3 wr w.heap.size b s i ∧ Below w.heap.size w wr
theorem ap_next {w wr : World} {b s i : Int} {j : Nat} (hj : (j : Int) < nsegs b s i) (hc : Cells3 wr w.heap.size b s i) (hb : Below w.heap.size w wr) :
    ApRel w b s i (.int .i64 (3 + (j : Int) * s + s)) (.int .i64 ((j : Int) + 1)) wr := by
  refine ⟨j + 1, by go_num, ?_, by omega, hc, hb⟩
  rw [show ((j + 1 : Nat) : Int) = (j : Int) + 1 from rfl, Int.add_mul, Int.one_mul, Int.add_assoc]
theorem ap_end (b s i : Int) (hG : Good b s i) : 3 + nsegs b s i * s ≤ b ∧ b < 3 + nsegs b s i * s + s := by
  rw [nsegs_good hG]
  have hs := hG.2.2.1
  have a1 := Int.ediv_mul_le (b - 3) (show s ≠ 0 by omega)
  have a2 := Int.lt_ediv_add_one_mul_self (b - 3) (show 0 < s by omega)
  rw [Int.add_mul, Int.one_mul] at a2
  omega
set_option maxRecDepth 20000 in
set_option maxHeartbeats 1000000 in
theorem geomApart_any (b s i : Int) (w : World) :
    Calls Try.prog 4 #[.agg #[.int .i64 b, .int .i64 s, .int .i64 i]] w fun e w' => e = .returned (.bool true) ∧ Below w.heap.size w w' := by
  have HB := Lib.hid (sup_below w)
  have HC0 := Lib.hid (cells3_laid w b s i 23)
  have hn := nsegs_bd b s i
  have KS := Lib.hid fun W => Segs_any b s i W
  go_enter Try.func4, Try.ntmps4
  go_wp2_with fail
  refine (awake_any _).mono ?_
  rintro e w1 ⟨rfl, hb1⟩
  have HB1 : Hid (Below w.heap.size w w1) := (HB.out _).trans (hb1.mono (by simp))
  have HC1 := Lib.hid (HC0.out.below hb1 (by simp))
  clear hb1
  go_wp2_with fail
  go_loopw [3, 4] (fun t u wr => ApRel w b s i t u wr) (fun _ u _ => 512 - (intOf u).toNat)
  case atStart => exact ⟨0, rfl, by simp, by omega, HC1.out, HB1.out⟩
  case round =>
    obtain ⟨j, rfl, rfl, hj, hcr, hbr⟩ := hrel
    have HCr := Lib.hid hcr
    have HBr := Lib.hid hbr
    obtain ⟨c0, c1, c2⟩ := hcr
    clear hbr
    go_wp2_with fail
    refine (KS.out _).mono ?_
    rintro e wa ⟨rfl, hba⟩
    have HCa := Lib.hid (HCr.out.later hba)
    have HBa : Hid (Below w.heap.size w wa) := HBr.out.trans (hba.mono HBr.out.size)
    clear hba c0 c1 c2
    by_cases hjn : (j : Int) < nsegs b s i
    · have hG : Good b s i := by
        by_cases hg : Good b s i
        · exact hg
        · rw [nsegs_bad hg] at hjn; omega
      have HG := Lib.hid hG
      have hs8 := hG.2.2.1
      have hs64 := hG.2.2.2.1
      have hm := mul_bd (j : Int) s (by omega) (by omega) (by omega) hs64
      clear hG
      obtain ⟨c0, c1, c2⟩ := HCa.out
      go_wp2_with fail
      refine (first_ok b s i j _ (by omega) hjn).mono ?_
      rintro e wb ⟨rfl, hbb⟩
      have HCb := Lib.hid (HCa.out.later hbb)
      have HBb : Hid (Below w.heap.size w wb) := HBa.out.trans (hbb.mono HBa.out.size)
      clear hbb c0 c1 c2
      go_wp2_with fail
      obtain ⟨wo, rfl⟩ : ∃ wo : World, wo = wr := ⟨_, rfl⟩
      go_loopw [7] (fun u wq => ApIn w b s i u wq) (fun u _ => 64 - (intOf u).toNat)
      case atStart => exact ⟨0, rfl, by omega, HCb.out, HBb.out⟩
      case round =>
        obtain ⟨k, rfl, hk, hcr, hbr⟩ := hrel
        have HCk := Lib.hid hcr
        have HBk := Lib.hid hbr
        obtain ⟨c0, c1, c2⟩ := hcr
        clear hbr
        by_cases hks : (k : Int) < s
        · go_wp2_with fail
          refine (of_at b s i j k _ HG.out (by omega) hjn (by omega) hks).mono ?_
          rintro e wc ⟨rfl, hbc⟩
          have HCc := Lib.hid (HCk.out.later hbc)
          have HBc : Hid (Below w.heap.size w wc) := HBk.out.trans (hbc.mono HBk.out.size)
          clear hbc c0 c1 c2
          obtain ⟨c0, c1, c2⟩ := HCc.out
          go_wp2_with fail
          refine (left_at b s i j k _ HG.out (by omega) hjn (by omega) hks).mono ?_
          rintro e wd ⟨rfl, hbd⟩
          have HCd := Lib.hid (HCc.out.later hbd)
          have HBd : Hid (Below w.heap.size w wd) := HBc.out.trans (hbd.mono HBc.out.size)
          clear hbd c0 c1 c2
          obtain ⟨c0, c1, c2⟩ := HCd.out
          have e1 : s - (k : Int) + (k : Int) = s := by omega
          go_wp2
          go_roundw
          case rel => exact ⟨k + 1, by go_num, by omega, HCd.out, HBd.out⟩
          case measure => simp [intOf]; omega
        · have hge : decide ((k : Int) < s) = false := by simpa using hks
          clear hks hk c0 c2
          go_wp2_with fail
          go_roundw
          case rel => exact ap_next hjn HCk.out HBk.out
          case measure => simp [intOf]; omega
    · obtain ⟨c0, c1, c2⟩ := HCa.out
      go_wp2_with fail
      refine (KS.out _).mono ?_
      rintro e wb ⟨rfl, hbb⟩
      have HCb := Lib.hid (HCa.out.later hbb)
      have HBb : Hid (Below w.heap.size w wb) := HBa.out.trans (hbb.mono HBa.out.size)
      clear hbb c0 c1 c2
      obtain ⟨c0, c1, c2⟩ := HCb.out
      by_cases hG : Good b s i
      · have he := ap_end b s i hG
        have hjj : (j : Int) = nsegs b s i := by omega
        have hs8 := hG.2.2.1
        have hs64 := hG.2.2.2.1
        have hb1 := hG.1
        have hb2 := hG.2.1
        have hn0 : (nsegs b s i == 0) = false := by
          have := hG.2.2.2.2.2.2
          rw [nsegs_good hG]
          exact beq_false_of_ne (by omega)
        go_wp2
        go_ret
        exact ⟨rfl, HBb.out⟩
      · have hn0 : nsegs b s i = 0 := nsegs_bad hG
        go_wp2
        go_ret
        exact ⟨rfl, HBb.out⟩
theorem geomApart_walk (b s i : Int) (w : World) (_ : (Lit.int .i64 b).wf = true) (_ : (Lit.int .i64 s).wf = true) (_ : (Lit.int .i64 i).wf = true) :
    Calls Try.prog 4 #[.agg #[.int .i64 b, .int .i64 s, .int .i64 i]] w fun e w' => e = .returned (.bool true) ∧ Below w.heap.size w w' :=
  geomApart_any b s i w
end Go.Proofs.Ytdfppilancimhaa
