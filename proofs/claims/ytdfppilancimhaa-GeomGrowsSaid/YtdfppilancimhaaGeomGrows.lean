/-
  The walk of GeomGrows: with more blocks there are as many segments, or more, each where it was.
-/
import Derived.Test.YtdfppilancimhaaGeomLeft
import Derived.Test.YtdfppilancimhaaKit
namespace Go.Proofs.Ytdfppilancimhaa
open Go.RowKit

set_option maxHeartbeats 400000 in
theorem geomGrows_bad (b s i more : Int) (w : World) (h : ¬ Good b s i) :
    Calls Try.prog 5 #[.agg #[.int .i64 b, .int .i64 s, .int .i64 i], .int .i64 more] w fun e w' => e = .returned (.bool true) ∧ Below w.heap.size w w' := by
  have HB := Lib.hid (sup_below w)
  have HG := Lib.hid h
  have HC0 := Lib.hid (cells3_laid w b s i 23)
  clear h
  go_enter Try.func5, Try.ntmps5
  go_wp2_with fail
  refine (awake_any _).mono ?_
  rintro e w1 ⟨rfl, hb1⟩
  have HB1 : Hid (Below w.heap.size w w1) := (HB.out _).trans (hb1.mono (by simp))
  have hc0 := HC0.out.below hb1 (by simp)
  obtain ⟨c0, c1, c2⟩ := hc0
  clear hb1
  go_wp2_with fail
  refine (check_bad b s i _ HG.out).mono ?_
  rintro e w2 ⟨rfl, hb2⟩
  have HB2 : Hid (Below w.heap.size w w2) := HB1.out.trans (hb2.mono HB1.out.size)
  clear hb2 c0 c1 c2
  go_wp2_with fail
  refine (awake_any _).mono ?_
  rintro e w3 ⟨rfl, hb3⟩
  have HB3 : Hid (Below w.heap.size w w3) := HB2.out.trans (hb3.mono HB2.out.size)
  clear hb3
  go_wp2
  go_ret
  exact ⟨rfl, HB3.out⟩
/-- Two geometries' cells. -/
def Six (w : World) (g t : Nat) (b b2 s i : Int) : Prop :=
  w.cell? ⟨g, 0, none⟩ = some (.int .i64 b) ∧ w.cell? ⟨g, 1, none⟩ = some (.int .i64 s) ∧ w.cell? ⟨g, 2, none⟩ = some (.int .i64 i) ∧
  w.cell? ⟨t, 0, none⟩ = some (.int .i64 b2) ∧ w.cell? ⟨t, 1, none⟩ = some (.int .i64 s) ∧ w.cell? ⟨t, 2, none⟩ = some (.int .i64 i)
theorem Six.below {w w' : World} {g t : Nat} {b b2 s i : Int} (h : Six w g t b b2 s i) (hb : Below w.heap.size w w') : Six w' g t b b2 s i :=
  ⟨cell_later hb h.1, cell_later hb h.2.1, cell_later hb h.2.2.1, cell_later hb h.2.2.2.1, cell_later hb h.2.2.2.2.1, cell_later hb h.2.2.2.2.2⟩
theorem Six.set {w : World} {g t : Nat} {b b1 s i : Int} (h : Six w g t b b1 s i) (hgt : g < t) (b2 : Int) (hc : w.cell? ⟨t, 0, none⟩ = some (.int .i64 b1)) : Six (w.setCell ⟨t, 0, none⟩ (.int .i64 b2)) g t b b2 s i := by
  obtain ⟨h1, h2, h3, h4, h5, h6⟩ := h
  have o : ∀ x y : Nat, ¬ (t = x ∧ 0 = y) → (w.setCell ⟨t, 0, none⟩ (.int .i64 b2)).cell? ⟨x, y, none⟩ = w.cell? ⟨x, y, none⟩ := fun x y hxy => World.cell?_setCell_other _ _ _ _ (fun e => hxy (by cases e; exact ⟨rfl, rfl⟩))
  refine ⟨?_, ?_, ?_, ?_, ?_, ?_⟩
  · rw [o g 0 (by omega)]; exact h1
  · rw [o g 1 (by omega)]; exact h2
  · rw [o g 2 (by omega)]; exact h3
  · exact World.cell?_setCell_same _ _ _ hc
  · rw [o t 1 (by omega)]; exact h5
  · rw [o t 2 (by omega)]; exact h6
theorem six_in {w w' : World} {g t : Nat} {b b2 s i : Int} (h : Six w' g t b b2 s i) (hb : Below w.heap.size w w') :
    Six w' g t b b2 s i ∧ w'.cell? ⟨g, 0, none⟩ = some (.int .i64 b) ∧ w'.cell? ⟨g, 1, none⟩ = some (.int .i64 s) ∧ w'.cell? ⟨g, 2, none⟩ = some (.int .i64 i) ∧
      w'.cell? ⟨t, 0, none⟩ = some (.int .i64 b2) ∧ w'.cell? ⟨t, 1, none⟩ = some (.int .i64 s) ∧ w'.cell? ⟨t, 2, none⟩ = some (.int .i64 i) ∧ Below w.heap.size w w' :=
  ⟨h, h.1, h.2.1, h.2.2.1, h.2.2.2.1, h.2.2.2.2.1, h.2.2.2.2.2, hb⟩
theorem grows_math (b s i k : Int) (h : Good b s i) (hk : 0 ≤ k) (hk2 : k ≤ 4096 - b) :
    Good (b + k) s i ∧ nsegs b s i ≤ nsegs (b + k) s i ∧ 0 ≤ (nsegs (b + k) s i - nsegs b s i) * s ∧ (nsegs (b + k) s i - nsegs b s i) * s ≤ k + s := by
  obtain ⟨h1, h2, h3, h4, h5, h6, h7⟩ := h
  have hle : (b - 3) / s ≤ (b + k - 3) / s := Int.ediv_le_ediv (by omega) (by omega)
  have hg : Good (b + k) s i := ⟨by omega, by omega, h3, h4, h5, h6, by omega⟩
  rw [nsegs_good ⟨h1, h2, h3, h4, h5, h6, h7⟩, nsegs_good hg]
  have a1 := Int.ediv_mul_le (b + k - 3) (show s ≠ 0 by omega)
  have a2 := Int.lt_ediv_add_one_mul_self (b - 3) (show 0 < s by omega)
  rw [Int.sub_mul]
  rw [Int.add_mul, Int.one_mul] at a2
  have a3 : (b - 3) / s * s ≤ (b + k - 3) / s * s := Int.mul_le_mul_of_nonneg_right hle (by omega)
  exact ⟨hg, hle, by omega, by omega⟩
set_option maxHeartbeats 1000000 in
theorem geomGrows_good (b s i more : Int) (w : World) (h : Good b s i) :
    Calls Try.prog 5 #[.agg #[.int .i64 b, .int .i64 s, .int .i64 i], .int .i64 more] w fun e w' => e = .returned (.bool true) ∧ Below w.heap.size w w' := by
  have HB := Lib.hid (sup_below w)
  have HG := Lib.hid h
  have HC0 := Lib.hid (cells3_laid w b s i 23)
  have hb1 := h.1
  have hb2 := h.2.1
  obtain ⟨k, hk, hke⟩ := cut_mod more (4096 - b).toNat (by omega)
  rw [show (((4096 - b).toNat : Nat) : Int) + 1 = 4097 - b by omega] at hke
  have hk2 : (k : Int) ≤ 4096 - b := by omega
  clear h hk
  go_enter Try.func5, Try.ntmps5
  go_wp2_with fail
  refine (awake_any _).mono ?_
  rintro e w1 ⟨rfl, hq1⟩
  have HB1 : Hid (Below w.heap.size w w1) := (HB.out _).trans (hq1.mono (by simp))
  have HC1 := Lib.hid (HC0.out.below hq1 (by simp))
  have hz1 : w.heap.size < w1.heap.size := by have := hq1.size; simp at this; omega
  obtain ⟨c0, c1, c2⟩ := HC1.out
  clear hq1
  go_wp2_with fail
  refine (check_good b s i _ HG.out).mono ?_
  rintro e w2 ⟨rfl, hq2⟩
  have HB2 : Hid (Below w.heap.size w w2) := HB1.out.trans (hq2.mono HB1.out.size)
  have HC2 := Lib.hid (HC1.out.below hq2 hz1)
  have hz2 : w.heap.size < w2.heap.size := by have := hq2.size; omega
  clear hq2 c0 c1 c2
  obtain ⟨c0, c1, c2⟩ := HC2.out
  go_wp2_with fail
  have HC3 := Lib.hid (cells3_laid w2 b s i 23)
  have HC4 : Hid (Cells3 (w2.alloc (.cells #[.int .i64 b, .int .i64 s, .int .i64 i] 23)) w.heap.size b s i) := HC2.out.below (sup_below w2 _) hz2
  have HB4 : Hid (Below w.heap.size w (w2.alloc (.cells #[.int .i64 b, .int .i64 s, .int .i64 i] 23))) := HB2.out.trans ((sup_below w2 _).mono HB2.out.size)
  have hz4 : w2.heap.size < (w2.alloc (.cells #[.int .i64 b, .int .i64 s, .int .i64 i] 23)).heap.size := by simp
  have HF4 : Hid ((w2.alloc (.cells #[.int .i64 b, .int .i64 s, .int .i64 i] 23)).frozen? ⟨w2.heap.size, 0, none⟩ = false) := by show _ = _; simp
  generalize w2.alloc (.cells #[.int .i64 b, .int .i64 s, .int .i64 i] 23) = w4 at HC3 HC4 HB4 hz4 HF4 ⊢
  clear c0 c1 c2
  obtain ⟨c0, c1, c2⟩ := HC4.out
  have e1 : IntKind.i64.wrap (4097 - b) = 4097 - b := IntWalk.i64_in _ (by omega)
  have e2 : IntKind.u64.wrap (4097 - b) = 4097 - b := by rw [IntKind.wrap_u64]; omega
  have e3 : IntKind.i64.wrap ((IntKind.u64.wrap more).tmod (4097 - b)) = (k : Int) := by rw [← hke]; unfold wrap64; rw [IntKind.wrap_i64]
  have e4 : IntKind.i64.wrap (b + (k : Int)) = b + (k : Int) := IntWalk.i64_in _ (by omega)
  have e5 : (4097 - b == 0) = false := beq_false_of_ne (by omega)
  have e6 : ¬ (4097 - b = 0) := by omega
  have e7 : ¬ (4097 = b) := by omega
  go_still_tail 12, (by kernel_rfl)
  have HX5 : Hid (Six w4.drew w.heap.size w2.heap.size b b s i) := ⟨HC4.out.1, HC4.out.2.1, HC4.out.2.2, HC3.out.1, HC3.out.2.1, HC3.out.2.2⟩
  have HB5 : Hid (Below w.heap.size w w4.drew) := HB4.out.drew
  have hc5 : w4.drew.cell? ⟨w2.heap.size, 0, none⟩ = some (.int .i64 b) := HC3.out.1
  have hf5 : w4.drew.frozen? ⟨w2.heap.size, 0, none⟩ = false := HF4.out
  have hz5 : w2.heap.size < w4.drew.heap.size := hz4
  clear e1 e2 e3 e4 e5 e6 e7 hke c0 c1 c2
  change wpList _ _ _ _ _ w4.drew
  generalize w4.drew = w5 at HX5 HB5 hc5 hf5 hz5 ⊢
  go_wp2_with fail
  have HX6 : Hid (Six (w5.setCell ⟨w2.heap.size, 0, none⟩ (.int .i64 (b + k))) w.heap.size w2.heap.size b (b + k) s i) := HX5.out.set hz2 _ hc5
  have HB6 : Hid (Below w.heap.size w (w5.setCell ⟨w2.heap.size, 0, none⟩ (.int .i64 (b + k)))) := HB5.out.setCell (Nat.le_of_lt hz2) _
  clear hc5 hf5
  generalize w5.setCell ⟨w2.heap.size, 0, none⟩ (.int .i64 (b + k)) = w6 at HX6 HB6 ⊢
  obtain ⟨HGB, HNN, HM1, HM2⟩ := grows_math b s i k HG.out (by omega) hk2
  have HGB := Lib.hid HGB
  have hnb := nsegs_bd b s i
  have hnt := nsegs_bd (b + k) s i
  obtain ⟨B, hB⟩ : ∃ B, B = b + (k : Int) := ⟨_, rfl⟩
  rw [← hB] at HX6 HGB HNN HM1 HM2 hnt
  have KS := Lib.hid fun W => Segs_any b s i W
  have KT := Lib.hid fun W => Segs_any B s i W
  obtain ⟨nb, hnbe⟩ : ∃ nb, nb = nsegs b s i := ⟨_, rfl⟩
  obtain ⟨nt, hnte⟩ : ∃ nt, nt = nsegs B s i := ⟨_, rfl⟩
  rw [← hnbe, ← hnte] at HNN HM1 HM2
  rw [← hnbe] at hnb KS
  rw [← hnte] at hnt KT
  have HNB := Lib.hid hnbe
  have HNT := Lib.hid hnte
  have HBe := Lib.hid hB
  clear hnbe hnte hB
  have hlt : ¬ (nt < nb) := by omega
  go_region_held (fun W => Six W w.heap.size w2.heap.size b B s i ∧ W.cell? ⟨w.heap.size, 0, none⟩ = some (.int .i64 b) ∧ W.cell? ⟨w.heap.size, 1, none⟩ = some (.int .i64 s) ∧ W.cell? ⟨w.heap.size, 2, none⟩ = some (.int .i64 i) ∧ W.cell? ⟨w2.heap.size, 0, none⟩ = some (.int .i64 B) ∧ W.cell? ⟨w2.heap.size, 1, none⟩ = some (.int .i64 s) ∧ W.cell? ⟨w2.heap.size, 2, none⟩ = some (.int .i64 i) ∧ Below w.heap.size w W)
    (first | exact six_in (w' := World.drew _) HX6.out HB6.out.drew | (go_split_ands; exact six_in (Six.below (by assumption) hbx) (Below.trans (by assumption) (hbx.mono (Below.size (by assumption))))))
    (first | (go_at_call 14; refine (check_good B s i _ HGB.out).mono ?_; rintro e wx ⟨rfl, hbx⟩) | (go_at_call 13; (first | (with_reducible refine (KT.out _).mono ?_) | (with_reducible refine (KS.out _).mono ?_)); rintro e wx ⟨rfl, hbx⟩))
  go_split_ands
  obtain ⟨wy, HX7, HB7, hwy⟩ : ∃ wy : World, Hid (Six wy w.heap.size w2.heap.size b B s i) ∧ Hid (Below w.heap.size w wy) ∧ wy = wx := ⟨wx, by assumption, by assumption, rfl⟩
  subst hwy
  clear hlt
  have hlt2 : ¬ (nt < nb) := by omega
  go_wp2_with fail
  go_loopw [6] (fun u wr => ∃ j : Nat, u = .int .i64 j ∧ (j : Int) ≤ nb ∧ Six wr w.heap.size w2.heap.size b B s i ∧ Below w.heap.size w wr) (fun u _ => 512 - (intOf u).toNat)
  case atStart => exact ⟨0, rfl, by omega, HX7.out, HB7.out⟩
  case round =>
    obtain ⟨j, rfl, hj, hsix, hbr⟩ := hrel
    have HS := Lib.hid hsix
    have HBr := Lib.hid hbr
    obtain ⟨c0, c1, c2, c3, c4, c5⟩ := hsix
    clear hbr
    go_wp2_with fail
    refine (KS.out _).mono ?_
    rintro e wa ⟨rfl, hba⟩
    have HSa := Lib.hid (HS.out.below hba)
    have HBa : Hid (Below w.heap.size w wa) := HBr.out.trans (hba.mono HBr.out.size)
    clear hba c0 c1 c2 c3 c4 c5
    by_cases hjn : (j : Int) < nb
    · obtain ⟨c0, c1, c2, c3, c4, c5⟩ := HSa.out
      go_wp2_with fail
      refine (first_ok b s i j _ (by omega) (by rw [← HNB.out]; exact hjn)).mono ?_
      rintro e wb ⟨rfl, hbb⟩
      have HSb := Lib.hid (HSa.out.below hbb)
      have HBb : Hid (Below w.heap.size w wb) := HBa.out.trans (hbb.mono HBa.out.size)
      clear hbb c0 c1 c2 c3 c4 c5
      obtain ⟨c0, c1, c2, c3, c4, c5⟩ := HSb.out
      go_wp2_with fail
      refine (first_ok B s i j _ (by omega) (by rw [← HNT.out]; omega)).mono ?_
      rintro e wc ⟨rfl, hbc⟩
      have HSc := Lib.hid (HSb.out.below hbc)
      have HBc : Hid (Below w.heap.size w wc) := HBb.out.trans (hbc.mono HBb.out.size)
      clear hbc c0 c1 c2 c3 c4 c5
      go_wp2
      go_roundw
      case rel => exact ⟨j + 1, by go_num, by omega, HSc.out, HBc.out⟩
      case measure => simp [intOf]; omega
    · have HM3 : (nt - nb) * s ≤ B - b + s := by have := HBe.out; omega
      have hs := HG.out.2.2.1
      have hs2 := HG.out.2.2.2.1
      have hBb : 0 ≤ B - b ∧ B - b ≤ 4096 := by have := HBe.out; omega
      have e1 : IntKind.i64.wrap (nt - nb) = nt - nb := IntWalk.i64_in _ (by omega)
      have e2 : IntKind.i64.wrap ((nt - nb) * s) = (nt - nb) * s := IntWalk.i64_in _ (by omega)
      have e3 : IntKind.i64.wrap (B - b) = B - b := IntWalk.i64_in _ (by omega)
      have e4 : IntKind.i64.wrap (B - b + s) = B - b + s := IntWalk.i64_in _ (by omega)
      go_wp2_with fail
      go_region_held (fun W => Six W w.heap.size w2.heap.size b B s i ∧ W.cell? ⟨w.heap.size, 0, none⟩ = some (.int .i64 b) ∧ W.cell? ⟨w.heap.size, 1, none⟩ = some (.int .i64 s) ∧ W.cell? ⟨w.heap.size, 2, none⟩ = some (.int .i64 i) ∧ W.cell? ⟨w2.heap.size, 0, none⟩ = some (.int .i64 B) ∧ W.cell? ⟨w2.heap.size, 1, none⟩ = some (.int .i64 s) ∧ W.cell? ⟨w2.heap.size, 2, none⟩ = some (.int .i64 i) ∧ Below w.heap.size w W)
        (first | exact six_in (w' := World.drew _) HSa.out HBa.out.drew | (go_split_ands; exact six_in (Six.below (by assumption) hbx) (Below.trans (by assumption) (hbx.mono (Below.size (by assumption))))))
        (first | (go_at_call 13; (first | (with_reducible refine (KT.out _).mono ?_) | (with_reducible refine (KS.out _).mono ?_)); rintro e wx ⟨rfl, hbx⟩))
      all_goals
        go_split_ands
        go_wp2
        go_ret
        exact ⟨rfl, by assumption⟩
theorem geomGrows_walk (b s i more : Int) (w : World) (_ : (Lit.int .i64 b).wf = true) (_ : (Lit.int .i64 s).wf = true) (_ : (Lit.int .i64 i).wf = true) (_ : (Lit.int .i64 more).wf = true) :
    Calls Try.prog 5 #[.agg #[.int .i64 b, .int .i64 s, .int .i64 i], .int .i64 more] w fun e w' => e = .returned (.bool true) ∧ Below w.heap.size w w' := by
  by_cases h : Good b s i
  · exact geomGrows_good b s i more w h
  · exact geomGrows_bad b s i more w h
end Go.Proofs.Ytdfppilancimhaa
