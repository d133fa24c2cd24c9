/-
  The walk of GeomChecks: of any numbers it is told whether they are a geometry, and its block is the document's; else all is refused.
-/
import Derived.Test.YtdfppilancimhaaDoorGdRef
namespace Go.Proofs.YtdfppilancimhaaDoor
open Go.RowKit

theorem Cells3.later {w w' : World} {g : Nat} {b s i : Int} (h : Cells3 w g b s i) (hb : Below w.heap.size w w') : Cells3 w' g b s i :=
  ⟨cell_later hb h.1, cell_later hb h.2.1, cell_later hb h.2.2⟩
set_option maxRecDepth 20000 in
set_option maxHeartbeats 1000000 in
theorem geomChecks_bad (b s i : Int) (w : World) (h : ¬ Good b s i) :
    Calls Tryd.prog 3 #[.agg #[.int .i64 b, .int .i64 s, .int .i64 i]] w fun e w' => e = .returned (.bool true) ∧ Below w.heap.size w w' := by
  have HB := Lib.hid (sup_below w)
  have HC0 := Lib.hid (cells3_laid w b s i 23)
  have hn := nsegs_bad h
  have K1 := Lib.hid fun W => refSegs_any b s i W
  have K2 := Lib.hid fun W => Segs_any b s i W
  rw [hn] at K1 K2
  have K3 := Lib.hid fun W => first_over b s i 0 W (by omega) (by rw [hn]; omega)
  have K4 := Lib.hid fun W => of_out b s i 3 W (fun e => by have := e.2; rw [hn] at this; omega)
  have K5 := Lib.hid fun W => left_out b s i 3 W (fun e => by have := e.2; rw [hn] at this; omega)
  have HG := Lib.hid h
  clear h hn
  go_enter Tryd.func3, Tryd.ntmps3
  go_wp2_with fail
  refine (awake_any _).mono ?_
  rintro e w1 ⟨rfl, hb1⟩
  have HB1 : Hid (Below w.heap.size w w1) := (HB.out _).trans (hb1.mono (by simp))
  have HC1 := Lib.hid (HC0.out.below hb1 (by simp))
  clear hb1
  obtain ⟨c0, c1, c2⟩ := HC1.out
  go_wp2_with fail
  refine (ref_any b s i _).mono ?_
  rintro e w2 ⟨rfl, hb2⟩
  have HB2 : Hid (Below w.heap.size w w2) := HB1.out.trans (hb2.mono HB1.out.size)
  have HC2 := Lib.hid (HC1.out.later hb2)
  clear hb2 c0 c1 c2
  obtain ⟨c0, c1, c2⟩ := HC2.out
  go_wp2_with fail
  refine (K1.out _).mono ?_
  rintro e w3 ⟨rfl, hb3⟩
  have HB3 : Hid (Below w.heap.size w w3) := HB2.out.trans (hb3.mono HB2.out.size)
  have HC3 := Lib.hid (HC2.out.later hb3)
  clear hb3 c0 c1 c2
  obtain ⟨c0, c1, c2⟩ := HC3.out
  go_wp2_with fail
  refine (encode_bad b s i _ HG.out).mono ?_
  rintro e w4 ⟨rfl, hb4⟩
  have HB4 : Hid (Below w.heap.size w w4) := HB3.out.trans (hb4.mono HB3.out.size)
  have HC4 := Lib.hid (HC3.out.later hb4)
  clear hb4 c0 c1 c2
  obtain ⟨c0, c1, c2⟩ := HC4.out
  go_wp2_with fail
  refine (K2.out _).mono ?_
  rintro e w5 ⟨rfl, hb5⟩
  have HB5 : Hid (Below w.heap.size w w5) := HB4.out.trans (hb5.mono HB4.out.size)
  have HC5 := Lib.hid (HC4.out.later hb5)
  clear hb5 c0 c1 c2
  obtain ⟨c0, c1, c2⟩ := HC5.out
  go_wp2_with fail
  refine (check_bad b s i _ HG.out).mono ?_
  rintro e w6 ⟨rfl, hb6⟩
  have HB6 : Hid (Below w.heap.size w w6) := HB5.out.trans (hb6.mono HB5.out.size)
  have HC6 := Lib.hid (HC5.out.later hb6)
  clear hb6 c0 c1 c2
  obtain ⟨c0, c1, c2⟩ := HC6.out
  go_wp2_with fail
  refine (K3.out _).mono ?_
  rintro e w7 ⟨rfl, hb7⟩
  have HB7 : Hid (Below w.heap.size w w7) := HB6.out.trans (hb7.mono HB6.out.size)
  have HC7 := Lib.hid (HC6.out.later hb7)
  clear hb7 c0 c1 c2
  obtain ⟨c0, c1, c2⟩ := HC7.out
  go_wp2_with fail
  refine (K4.out _).mono ?_
  rintro e w8 ⟨rfl, hb8⟩
  have HB8 : Hid (Below w.heap.size w w8) := HB7.out.trans (hb8.mono HB7.out.size)
  have HC8 := Lib.hid (HC7.out.later hb8)
  clear hb8 c0 c1 c2
  obtain ⟨c0, c1, c2⟩ := HC8.out
  go_wp2_with fail
  refine (K5.out _).mono ?_
  rintro e w9 ⟨rfl, hb9⟩
  have HB9 : Hid (Below w.heap.size w w9) := HB8.out.trans (hb9.mono HB8.out.size)
  have HC9 := Lib.hid (HC8.out.later hb9)
  clear hb9 c0 c1 c2
  obtain ⟨c0, c1, c2⟩ := HC9.out
  go_wp2_with fail
  refine (check_bad b s i _ HG.out).mono ?_
  rintro e w10 ⟨rfl, hb10⟩
  have HB10 : Hid (Below w.heap.size w w10) := HB9.out.trans (hb10.mono HB9.out.size)
  clear hb10 c0 c1 c2
  go_wp2
  go_ret
  exact ⟨rfl, HB10.out⟩
/-- What stands through the last test: the geometry's cells, and its block. -/
def ChS (w : World) (g0 g B S I : Nat) : Prop := Cells3 w g0 B S I ∧ Bytes w (some ⟨g, 0, none⟩) (sealN (bodyN B S I))
theorem ChS.later {w w' : World} {g0 g B S I : Nat} (h : ChS w g0 g B S I) (hb : Below w.heap.size w w') : ChS w' g0 g B S I := ⟨h.1.later hb, h.2.below hb⟩
theorem chS_in {w w' : World} {g B S I : Nat} (h : ChS w' w.heap.size g B S I) (hb : Below w.heap.size w w') :
    ChS w' w.heap.size g B S I ∧ w'.cell? ⟨w.heap.size, 0, none⟩ = some (.int .i64 B) ∧ w'.cell? ⟨w.heap.size, 1, none⟩ = some (.int .i64 S) ∧ w'.cell? ⟨w.heap.size, 2, none⟩ = some (.int .i64 I) ∧
      (convert 28 9 (.slice (some ⟨g, 0, none⟩) 64 64)).run Tryd.prog w' = .ok (.string (strOf (sealN (bodyN B S I)))) w' ∧ Below w.heap.size w w' :=
  ⟨h, h.1.1, h.1.2.1, h.1.2.2, run_str w' 28 9 5 Tryd.underlying28 Tryd.underlying5 Tryd.underlying9 _ _ 64 64 (by rw [len4, bodyN_length]) h.2, hb⟩
set_option maxRecDepth 20000 in
set_option maxHeartbeats 1000000 in
theorem geomChecks_good (B S I : Nat) (w : World) (ht : Tab w) (hz : 0 < w.heap.size) (h : Good B S I) :
    Calls Tryd.prog 3 #[.agg #[.int .i64 B, .int .i64 S, .int .i64 I]] w fun e w' => e = .returned (.bool true) ∧ Below w.heap.size w w' := by
  have HB := Lib.hid (sup_below w)
  have HC0 := Lib.hid (cells3_laid w B S I 23)
  have hn6 : 6 ≤ nsegs B S I := by rw [nsegs_good h]; exact h.2.2.2.2.2.2
  have K1 := Lib.hid fun W => refSegs_any B S I W
  have K2 := Lib.hid fun W => Segs_any B S I W
  have hB : B < 4294967296 := by have := h.2.1; omega
  have hS : S < 4294967296 := by have := h.2.2.2.1; omega
  have hI : I < 4294967296 := by have := h.2.2.2.2.2.1; omega
  generalize nsegs B S I = n at hn6 K1 K2
  have hn0 : (0 : Int) < n := by omega
  have HG := Lib.hid h
  have HT := Lib.hid ht
  clear h ht hn6
  go_enter Tryd.func3, Tryd.ntmps3
  go_wp2_with fail
  refine (awake_any _).mono ?_
  rintro e w1 ⟨rfl, hb1⟩
  have HB1 : Hid (Below w.heap.size w w1) := (HB.out _).trans (hb1.mono (by simp))
  have HC1 := Lib.hid (HC0.out.below hb1 (by simp))
  clear hb1
  obtain ⟨c0, c1, c2⟩ := HC1.out
  go_wp2_with fail
  refine (ref_any B S I _).mono ?_
  rintro e w2 ⟨rfl, hb2⟩
  have HB2 : Hid (Below w.heap.size w w2) := HB1.out.trans (hb2.mono HB1.out.size)
  have HC2 := Lib.hid (HC1.out.later hb2)
  clear hb2 c0 c1 c2
  obtain ⟨c0, c1, c2⟩ := HC2.out
  go_wp2_with fail
  refine (K1.out _).mono ?_
  rintro e w3 ⟨rfl, hb3⟩
  have HB3 : Hid (Below w.heap.size w w3) := HB2.out.trans (hb3.mono HB2.out.size)
  have HC3 := Lib.hid (HC2.out.later hb3)
  clear hb3 c0 c1 c2
  obtain ⟨c0, c1, c2⟩ := HC3.out
  go_wp2_with fail
  refine (encode_good B S I _ (HT.out.below HB3.out hz) (by have := HB3.out.size; omega) HG.out).mono ?_
  rintro e w4 ⟨g, rfl, hr4, hg4, hb4⟩
  have HB4 : Hid (Below w.heap.size w w4) := HB3.out.trans (hb4.mono HB3.out.size)
  have HC4 := Lib.hid (HC3.out.later hb4)
  have HY4 : Hid (Bytes w4 (some ⟨g, 0, none⟩) (sealN (bodyN B S I))) := hr4.bytes (sealN_lt (bodyN_lt B S I)) (by rw [len4, bodyN_length]; decide)
  clear hb4 hr4 hg4 c0 c1 c2
  obtain ⟨c0, c1, c2⟩ := HC4.out
  go_wp2_with fail
  refine (K2.out _).mono ?_
  rintro e w5 ⟨rfl, hb5⟩
  have HB5 : Hid (Below w.heap.size w w5) := HB4.out.trans (hb5.mono HB4.out.size)
  have HC5 := Lib.hid (HC4.out.later hb5)
  have HY5 := Lib.hid (HY4.out.below hb5)
  clear hb5 c0 c1 c2
  obtain ⟨c0, c1, c2⟩ := HC5.out
  go_wp2_with fail
  refine (check_good B S I _ HG.out).mono ?_
  rintro e w6 ⟨rfl, hb6⟩
  have HB6 : Hid (Below w.heap.size w w6) := HB5.out.trans (hb6.mono HB5.out.size)
  have HC6 := Lib.hid (HC5.out.later hb6)
  have HY6 := Lib.hid (HY5.out.below hb6)
  clear hb6 c0 c1 c2
  have HS6 : Hid (ChS w6 w.heap.size g B S I) := ⟨HC6.out, HY6.out⟩
  go_wp2_with fail
  go_region_held (fun W => ChS W w.heap.size g B S I ∧ W.cell? ⟨w.heap.size, 0, none⟩ = some (.int .i64 B) ∧ W.cell? ⟨w.heap.size, 1, none⟩ = some (.int .i64 S) ∧ W.cell? ⟨w.heap.size, 2, none⟩ = some (.int .i64 I) ∧ (convert 28 9 (.slice (some ⟨g, 0, none⟩) 64 64)).run Tryd.prog W = .ok (.string (strOf (sealN (bodyN B S I)))) W ∧ Below w.heap.size w W)
    (first | assumption | (go_split_ands; exact ⟨by assumption, by assumption, by assumption, by assumption, by assumption, by assumption⟩) | exact chS_in (w' := World.drew _) (HS6.out.later ((Below.refl _ _).drew)) HB6.out.drew | (go_split_ands; exact chS_in (ChS.later (by assumption) hbx) (Below.trans (by assumption) (hbx.mono (Below.size (by assumption))))))
    (first | (go_at_call 8; refine (ref_any B S I _).mono ?_; rintro e wx ⟨rfl, hbx⟩) | (go_at_call 12; refine (refEncode_any B S I _ hB hS hI).mono ?_; rintro e wx ⟨a', cap', rfl, hby, hbx⟩; have hcv := run_str wx 28 9 5 Tryd.underlying28 Tryd.underlying5 Tryd.underlying9 (sealN (bodyN B S I)) a' 64 cap' (by rw [len4, bodyN_length]) hby; clear hby))
  all_goals
    go_split_ands
    go_wp2
    go_ret
    exact ⟨rfl, by assumption⟩
theorem geomChecks_walk (b s i : Int) (w : World) (hL : Tab w ∧ 0 < w.heap.size) (_ : (Lit.int .i64 b).wf = true) (_ : (Lit.int .i64 s).wf = true) (_ : (Lit.int .i64 i).wf = true) :
    Calls Tryd.prog 3 #[.agg #[.int .i64 b, .int .i64 s, .int .i64 i]] w fun e w' => e = .returned (.bool true) ∧ Below w.heap.size w w' := by
  by_cases h : Good b s i
  · obtain ⟨B, rfl⟩ := Int.eq_ofNat_of_zero_le (show 0 ≤ b by have := h.1; omega)
    obtain ⟨S, rfl⟩ := Int.eq_ofNat_of_zero_le (show 0 ≤ s by have := h.2.2.1; omega)
    obtain ⟨I, rfl⟩ := Int.eq_ofNat_of_zero_le (show 0 ≤ i by have := h.2.2.2.2.1; omega)
    exact geomChecks_good B S I w hL.1 hL.2 h
  · exact geomChecks_bad b s i w h
end Go.Proofs.YtdfppilancimhaaDoor
