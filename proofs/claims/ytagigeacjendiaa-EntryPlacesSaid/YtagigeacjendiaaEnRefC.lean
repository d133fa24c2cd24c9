/-
  Directory entries as the document has them; its block of four.
-/
import Derived.Test.YtagigeacjendiaaEnDirM
namespace Go.Proofs.Ytagigeacjendiaa
open Go.RowKit

abbrev R4T := 44
abbrev RDE := 43
def RcL (w : World) (F : Nat → Int) (G : Nat → ByteArray) (t : Value) (W : World) : Prop :=
  ∃ k : Nat, k ≤ 4 ∧ t = .int .i64 k ∧ Blo W (w.heap.size + 1 + 1) R4T (cells8 (cutF F k) (cutN G k)) ∧ Blo W (w.heap.size + 1) R4T z8d ∧ Blo W w.heap.size A4D (cells8 F G) ∧ Below w.heap.size w W
theorem info_r4 (F : Nat → Int) (G : Nat → ByteArray) : (Try.prog.info? R4T).map (·.size) = some (cells8 F G).size := by
  show _ = some 8
  kernel_rfl
set_option maxRecDepth 100000 in
set_option maxHeartbeats 4000000 in
theorem refDir_any (F : Nat → Int) (G : Nat → ByteArray) (w : World) : Calls Try.prog 16 #[.agg (cells8 F G)] w fun e w' => e = .returned (.agg (cells8 F G)) ∧ Below w.heap.size w w' := by
  have hst : RcL w F G (.int .i64 0) (((w.alloc (.cells (cells8 F G) A4D)).alloc (.cells z8d R4T)).alloc (.cells z8d R4T)) := by
    refine ⟨0, by decide, rfl, ?_, ?_, ((blo_laid w A4D _).alloc _).alloc _, (((Below.refl _ _).alloc (Nat.le_refl _) _).alloc (by simp) _).alloc (by simp; omega) _⟩
    · rw [cut8_none]
      have := blo_laid ((w.alloc (.cells (cells8 F G) A4D)).alloc (.cells z8d R4T)) R4T z8d
      rw [show ((w.alloc (.cells (cells8 F G) A4D)).alloc (.cells z8d R4T)).heap.size = w.heap.size + 1 + 1 by simp] at this
      exact this
    · have := (blo_laid (w.alloc (.cells (cells8 F G) A4D)) R4T z8d).alloc (.cells z8d R4T)
      rw [show (w.alloc (.cells (cells8 F G) A4D)).heap.size = w.heap.size + 1 by simp] at this
      exact this
  have HSt := Lib.hid hst
  clear hst
  generalize hcs : cells8 F G = CS at *
  have HCS := Lib.hid hcs
  clear hcs
  go_enter Try.func16, Try.ntmps16
  go_wp2_with fail
  go_loopw [4, 5] (fun _ t wr => RcL w F G t wr) (fun _ t _ => 4 - (intOf t).toNat)
  case atStart => exact HSt.out
  case round =>
    clear HSt
    obtain ⟨k, hk, rfl, h3, h2, h1, hB⟩ := hrel
    have k0 : (0 : Int) ≤ (k : Int) := by omega
    by_cases hlt : k < 4
    · have k1 : (k : Int) < 4 := by omega
      have HKn : Hid (k < 4) := hlt
      have HB := Lib.hid hB
      have H1 := Lib.hid h1
      have H2 := Lib.hid h2
      have H3 := Lib.hid h3
      obtain ⟨c0, c1⟩ := cells8_at (cutF F k) (cutN G k) k hlt
      rw [← h3.cell] at c0 c1
      have f0 := h3.frozen (k * 2)
      have f1 := h3.frozen (k * 2 + 1)
      obtain ⟨d0, d1⟩ := cells8_at F G k hlt
      rw [← h1.cell] at d0 d1
      have HPut := Lib.hid (cut8_put F G k hlt)
      generalize F k = ak at *
      generalize G k = vk at *
      clear hk hB h1 h2 h3 hlt
      go_wp2_with fail
      go_region
      all_goals
        go_wp2_with fail
        go_roundw
        case rel =>
          refine ⟨k + 1, HKn.out, by simp, ?_, (H2.out.far (p := ⟨w.heap.size + 1 + 1, k * 2, none⟩) (by show w.heap.size + 1 ≠ w.heap.size + 1 + 1; omega) _).far (p := ⟨w.heap.size + 1 + 1, k * 2 + 1, none⟩) (by show w.heap.size + 1 ≠ w.heap.size + 1 + 1; omega) _, ?_, ?_⟩
          · rw [← HPut.out]
            exact (H3.out.put _ _).put _ _
          · exact (H1.out.far (p := ⟨w.heap.size + 1 + 1, k * 2, none⟩) (by show w.heap.size ≠ w.heap.size + 1 + 1; omega) _).far (p := ⟨w.heap.size + 1 + 1, k * 2 + 1, none⟩) (by show w.heap.size ≠ w.heap.size + 1 + 1; omega) _
          · exact ((HB.out.setCell (p := ⟨w.heap.size + 1 + 1, k * 2, none⟩) (by show _ ≤ _ + 1 + 1; omega) _).setCell (p := ⟨w.heap.size + 1 + 1, k * 2 + 1, none⟩) (by show _ ≤ _ + 1 + 1; omega) _).drew
        case measure => simp [intOf]; have := HKn.out; omega
    · have k1 : ¬ (k : Int) < 4 := by omega
      obtain rfl : k = 4 := by omega
      rw [cut8_all, HCS.out] at h3
      have HB := Lib.hid hB
      have H2 := Lib.hid h2
      have H3 := Lib.hid h3
      clear hB h1 h2 h3
      have hui := Try.underlying44
      have HII : Hid ((Try.prog.info? R4T).map (·.size) = some CS.size) := by have := info_r4 F G; rw [HCS.out] at this; exact this
      have HOne : Hid (CS.all (·.oneCell') = true) := by have := cells8_one F G; rw [HCS.out] at this; exact this
      go_wp2_with (first | (refine wpList_load_row rfl R4T (.tmp 3) rfl (w.heap.size + 1 + 1) rfl R4T CS (0, 0) _ H3.out hui rfl HII.out ?_) | (refine wpList_store_row rfl R4T (.tmp 2) (.tmp 20) rfl (w.heap.size + 1) CS rfl rfl R4T _ H2.out HII.out (size_eqA (info_r4 (fun _ => 0) (fun _ => ⟨#[]⟩)) HII.out) HOne.out ?_))
      have hrow : (wr.setRow (w.heap.size + 1) CS).heap[w.heap.size + 1]? = some (.cells CS R4T (0, 0)) := setRow_heap wr (w.heap.size + 1) _ _ _ _ H2.out
      refine bodyPost_ret (v := .agg CS) ?_ rfl ⟨rfl, below_setRow HB.out (Nat.le_succ _) _⟩
      simp [results, Try.results16, asAddr, run_loadVar_row _ _ R4T R4T CS (0, 0) _ hrow hui rfl HII.out]
end Go.Proofs.Ytagigeacjendiaa
