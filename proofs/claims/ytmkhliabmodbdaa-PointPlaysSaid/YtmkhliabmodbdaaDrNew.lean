/-
  The document's disk: New.
-/
import Derived.Test.YtmkhliabmodbdaaDrCrash
import Derived.Deep.RegionLaw
namespace Go.Proofs.Ytmkhliabmodbdaa
open Go.RowKit

def zeroS : Nat → List Nat := fun _ => zeroB
theorem cellsS_snoc (F : Nat → List Nat) (k : Nat) : cellsS F k ++ [.string (strOf (F k))] = cellsS F (k + 1) := by simp [cellsS, List.range_succ]
theorem rnew_low (k : Int) (hk : k < 1) (w : World) : Calls Try.prog 11 #[.int .i64 k] w fun e w' => e = .returned (.tuple #[.agg #[.slice none 0 0, .slice none 0 0, .int .i64 0, .int .i64 0], .int .i64 22]) ∧ Below w.heap.size w w' := by
  go_enter Try.func11, Try.ntmps11
  go_wp2
  refine bodyPost_ret (v := .tuple #[.agg #[.slice none 0 0, .slice none 0 0, .int .i64 0, .int .i64 0], .int .i64 22]) ?_ rfl ⟨rfl, (Below.refl _ _).alloc (Nat.le_refl _) _⟩
  simp [results, Try.results11, go_sem]
theorem rnew_high (k : Int) (hk1 : ¬ k < 1) (hk : 4096 < k) (w : World) : Calls Try.prog 11 #[.int .i64 k] w fun e w' => e = .returned (.tuple #[.agg #[.slice none 0 0, .slice none 0 0, .int .i64 0, .int .i64 0], .int .i64 22]) ∧ Below w.heap.size w w' := by
  go_enter Try.func11, Try.ntmps11
  go_wp2
  refine bodyPost_ret (v := .tuple #[.agg #[.slice none 0 0, .slice none 0 0, .int .i64 0, .int .i64 0], .int .i64 22]) ?_ rfl ⟨rfl, (Below.refl _ _).alloc (Nat.le_refl _) _⟩
  simp [results, Try.results11, go_sem]
def RnR (w : World) (n : Nat) (t : Value) (wr : World) : Prop :=
  ∃ (k : Nat) (sv : Value), k ≤ n ∧ t = .int .i64 k ∧ wr.ownsRow (w.heap.size + 2) STR 1 sv k (cellsS zeroS k) ∧ Blo wr w.heap.size RDT #[.slice none 0 0, .slice none 0 0, .int .i64 0, .int .i64 0] ∧ Blo wr (w.heap.size + 1) RDT #[sv, .slice none 0 0, .int .i64 0, .int .i64 (-1)] ∧ Below w.heap.size w wr
def RnO (w : World) (n : Nat) (e : Ending) (w' : World) : Prop :=
  ∃ g c5, e = .returned (.tuple #[.agg #[.slice (some ⟨g, 0, none⟩) n c5, .slice none 0 0, .int .i64 0, .int .i64 (-1)], .int .i64 0]) ∧ Tx w' g n zeroS ∧ Below w.heap.size w w'
theorem conv64 (W : World) : (convert 36 9 (.slice (some ⟨W.heap.size, 0, none⟩) 64 64)).run Try.prog (W.alloc (.cells Z64 U8)).drew = .ok (.string (strOf zeroB)) (W.alloc (.cells Z64 U8)).drew := by
  have hB : Bytes (W.alloc (.cells Z64 U8)) (some ⟨W.heap.size, 0, none⟩) zeroB := Bytes.laid W zeroB _ U8 (0, 0) (fun y hy => zeroB_byte y hy) (by decide) (fun i hi => by
    rw [Z64, List.getElem?_toArray, cellsB_get _ _ hi])
  exact run_str _ 36 9 U8 Try.underlying36 Try.underlying5 Try.underlying9 zeroB _ 64 64 (by decide) hB
set_option maxRecDepth 100000 in
set_option maxHeartbeats 2000000 in
theorem rnew_any (n : Nat) (w : World) (hn1 : 1 ≤ n) (hn2 : n ≤ 4096) : Calls Try.prog 11 #[.int .i64 n] w (RnO w n) := by
  have g1 : ¬ (n : Int) < 1 := by omega
  have g2 : ¬ (4096 : Int) < (n : Int) := by omega
  have HSt : Hid (RnR w n (.int .i64 0) ((w.alloc (.cells #[.slice none 0 0, .slice none 0 0, .int .i64 0, .int .i64 0] RDT)).alloc (.cells #[.slice none 0 0, .slice none 0 0, .int .i64 0, .int .i64 (-1)] RDT))) := by
    refine ⟨0, .slice none 0 0, Nat.zero_le _, rfl, ⟨rfl, .inl ⟨rfl, rfl⟩⟩, (blo_laid w RDT _).alloc _, ?_, dr_two _ _ _⟩
    have h := blo_laid (w.alloc (.cells #[.slice none 0 0, .slice none 0 0, .int .i64 0, .int .i64 0] RDT)) RDT #[.slice none 0 0, .slice none 0 0, .int .i64 0, .int .i64 (-1)]
    rw [show (w.alloc (.cells #[.slice none 0 0, .slice none 0 0, .int .i64 0, .int .i64 0] RDT)).heap.size = w.heap.size + 1 by simp] at h
    exact h
  go_enter Try.func11, Try.ntmps11
  go_wp2_with fail
  go_loopw [5] (fun t wr => RnR w n t wr) (fun t _ => n - (intOf t).toNat)
  case atStart => exact HSt.out
  case round =>
    clear HSt g1 g2
    obtain ⟨k, sv, hk, rfl, hO, hZ, hX, hB⟩ := hrel
    have HO := Lib.hid hO
    have HX := Lib.hid hX
    have HZ := Lib.hid hZ
    have HB := Lib.hid hB
    clear hO hX hZ hB
    have k0 : (0 : Int) ≤ (k : Int) := by omega
    have kb : (k : Int) ≤ 4096 := by omega
    by_cases hlt : k < n
    · have k1 : (k : Int) < (n : Int) := by omega
      have x0 := HX.out.cell 0
      simp at x0
      have hmk := run_make64
      have hcv := conv64 wr
      have hlx := HX.out.lt
      obtain ⟨i0, hi0, hz0, hz1, hz2⟩ := info_parts info_str
      have hb1 : Below wr.heap.size wr ((wr.alloc (.cells Z64 U8)).alloc (.cells #[.string (strOf zeroB)] STR)).drew := (((Below.refl _ _).alloc (Nat.le_refl _) _).alloc (by simp) _).drew
      have HNs : Hid (((wr.alloc (.cells Z64 U8)).alloc (.cells #[.string (strOf zeroB)] STR)).drew.heap[wr.heap.size + 1]? = some (.cells #[.string (strOf zeroB)] STR (0, 0))) := by
        have h := heap_alloc_new (wr.alloc (.cells Z64 U8)) (.cells #[.string (strOf zeroB)] STR)
        rw [show (wr.alloc (.cells Z64 U8)).heap.size = wr.heap.size + 1 by simp] at h
        exact h
      have HO1 := Lib.hid (own_later HO.out hb1)
      have HX1 := Lib.hid (HX.out.later hb1)
      have HZ1 := Lib.hid (HZ.out.later hb1)
      have HB1 := Lib.hid (HB.out.trans (hb1.mono HB.out.size))
      have hx1 : (wr.alloc (.cells Z64 U8)).cell? ⟨w.heap.size + 1, 0, none⟩ = some sv := by simpa using (HX.out.alloc (.cells Z64 U8)).cell 0
      have hx2 : ((wr.alloc (.cells Z64 U8)).alloc (.cells #[.string (strOf zeroB)] STR)).cell? ⟨w.heap.size + 1, 0, none⟩ = some sv := by simpa using ((HX.out.alloc (.cells Z64 U8)).alloc (.cells #[.string (strOf zeroB)] STR)).cell 0
      clear hb1
      go_wp2_with fail
      go_region_law (refine step_append_lies _ (by rfl) (.tmp 20) (.tmp 23) 28 (by rfl) (w.heap.size + 2) STR i0 _ 1 16 Try.underlying28 hi0 hz0 hz1 hz2 rfl (by decide) sv k (cellsS zeroS k) (by simp [go_sem]) HO1.out ⟨wr.heap.size + 1, 0, none⟩ 1 1 [.string (strOf zeroB)] (by simp [go_sem]) (by rfl) (World.news_of_block (cs := #[.string (strOf zeroB)]) (t := STR) (fr := (0, 0)) HNs.out) (by simp [Value.oneCell']) (by decide) (by unfold maxLen; omega) (by omega) (by simp; omega) (wr.heap.size + 1 + 1) (by simp) ?_; intro g1 cap1 w4 hown hgrow hat hlt1; rw [show cellsS zeroS k ++ [Value.string (strOf zeroB)] = cellsS zeroS (k + 1) from cellsS_snoc zeroS k] at hown; have HOwn := Lib.hid hown; have HX4 := Lib.hid (HX1.out.grown hgrow (HX1.out.row_apart HO1.out (by decide))); have HZ4 := Lib.hid (HZ1.out.grown hgrow (HZ1.out.row_apart HO1.out (by decide))); have HB4 := Lib.hid (HB1.out.grown hgrow HB1.out.size (fun q hq => by have := (own_lt HO1.out hq).1; omega)); have f0 := HX4.out.frozen 0; have x4 := HX4.out.cell 0; simp at x4; clear hown hgrow hat)
      all_goals
        have HXf := Lib.hid (HX4.out.put 0 (.slice (some ⟨g1, 0, none⟩) (k + 1) cap1))
        have HZf := Lib.hid (HZ4.out.far (p := ⟨w.heap.size + 1, 0, none⟩) (by simp) (.slice (some ⟨g1, 0, none⟩) (k + 1) cap1))
        have HBf := Lib.hid (HB4.out.setCell (p := ⟨w.heap.size + 1, 0, none⟩) (Nat.le_succ _) (.slice (some ⟨g1, 0, none⟩) (k + 1) cap1))
        have HOf := Lib.hid (own_off HOwn.out (p := ⟨w.heap.size + 1, 0, none⟩) (Nat.lt_succ_self _) (.slice (some ⟨g1, 0, none⟩) (k + 1) cap1))
        clear f0 x4 hx1 hx2 x0 hmk hcv
        go_wp2_with fail
        go_roundw
        case rel => exact ⟨k + 1, _, hlt, by simp, HOf.out, HZf.out, HXf.out, HBf.out⟩
        case measure => simp [intOf]; omega
    · have hke : k = n := by omega
      subst hke
      have k1 : ¬ (k : Int) < (k : Int) := by omega
      obtain ⟨a', cap', rfl, _⟩ := own_slice HO.out
      obtain ⟨g, rfl, hg, htx⟩ := tx_own (by omega) HO.out
      have HTx := Lib.hid htx
      have d0 := HX.out.cell 0
      have d1 := HX.out.cell 1
      have d2 := HX.out.cell 2
      have d3 := HX.out.cell 3
      have z0 := HZ.out.cell 0
      have z1 := HZ.out.cell 1
      have z2 := HZ.out.cell 2
      have z3 := HZ.out.cell 3
      have e0 := HZ.out.frozen 0
      have e1 := HZ.out.frozen 1
      have e2 := HZ.out.frozen 2
      have e3 := HZ.out.frozen 3
      simp at d0 d1 d2 d3 z0 z1 z2 z3
      clear HX HZ HO htx
      go_wp2
      refine bodyPost_ret (v := .tuple #[.agg #[.slice (some ⟨g, 0, none⟩) k cap', .slice none 0 0, .int .i64 0, .int .i64 (-1)], .int .i64 0]) ?_ rfl ⟨g, cap', rfl, ?_, ?_⟩
      · simp [results, Try.results11, go_sem, d0, d1, d2, d3, z0, z1, z2, z3]
      · have hg2 : w.heap.size ≠ g := by omega
        exact ((((HTx.out.far (p := ⟨w.heap.size, 0, none⟩) hg2 _).far (p := ⟨w.heap.size, 1, none⟩) hg2 _).far (p := ⟨w.heap.size, 2, none⟩) hg2 _).far (p := ⟨w.heap.size, 3, none⟩) hg2 _)
      · exact dr_four _ _ _ _ _ _ _ HB.out (Nat.le_refl _)
end Go.Proofs.Ytmkhliabmodbdaa
