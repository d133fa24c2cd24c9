/-
  The walk of the fixed fact: the document's examples.
-/
import Derived.Test.YtfkobamemehkdaaDoorInEncode
namespace Go.Proofs.YtfkobamemehkdaaDoor
open Go.RowKit

theorem str5 : strOf ((sealN (inoN 2 0 2 0 0 0 0 0 0 0 0 0 0 0)).take 5) = { data := #[2, 0, 0, 0, 2] } := by rfl
set_option maxHeartbeats 1000000 in
theorem awake_any (w : World) (ht : Tab w) (hz : 0 < w.heap.size) : Calls Tryd.prog 10 #[] w fun e w' => e = .returned (.bool true) ∧ Below w.heap.size w w' := by
  have HE := Lib.hid (encode_good 2 0 2 0 0 0 0 0 0 0 0 0 0 0 w ht hz (by unfold GoodI; decide) (by decide) (by decide) (by decide) (by decide) (by decide) (by decide) (by decide) (by decide) (by decide))
  have HL : Hid (64 = (sealN (inoN 2 0 2 0 0 0 0 0 0 0 0 0 0 0)).length) := by show _ = _; rw [len4, inoN_length]
  have H8 : Hid (∀ x ∈ sealN (inoN 2 0 2 0 0 0 0 0 0 0 0 0 0 0), x < 256) := sealN_lt (inoN_lt _ _ _ _ _ _ _ _ _ _ _ _ _ _)
  have H5 := Lib.hid str5
  clear ht
  generalize inoN 2 0 2 0 0 0 0 0 0 0 0 0 0 0 = M at *
  go_enter Tryd.func10, Tryd.ntmps10
  go_wp2_with fail
  refine HE.out.mono ?_
  rintro e w1 ⟨g, rfl, hr, hg, hb⟩
  have hy := hr.bytes H8.out (by rw [← HL.out]; decide)
  have HB := Lib.hid hb
  obtain ⟨a', hs1, hB1⟩ : ∃ a', (∀ W, (Instr.slice 27 (.slice (some ⟨g, 0, none⟩) 64 64) none (some (.int .i64 (5 : Int))) none).run Tryd.prog W = .ok (.slice a' 5 64) W) ∧ Bytes w1 a' ((sealN M).take 5) := by
    obtain ⟨a', h1, h2, _⟩ := slice_head (P := Tryd.prog) 27 5 Tryd.underlying27 size_u8 HL.out hy (fun e => by cases e) (Nat.le_refl 64) 5 (by decide)
    exact ⟨a', h1, h2⟩
  have hcv := run_str w1 27 9 5 Tryd.underlying27 Tryd.underlying5 Tryd.underlying9 ((sealN M).take 5) a' 5 64 (by simp; have := HL.out; omega) hB1
  rw [H5.out] at hcv
  clear hr hg hb hy hB1
  have b0 : ∀ W, Calls Tryd.prog 20 #[.int .i64 0] W fun e w' => e = .returned (.int .i64 0) ∧ W = w' := fun W => blocks_any 0 W (by decide)
  have b1 : ∀ W, Calls Tryd.prog 20 #[.int .i64 64] W fun e w' => e = .returned (.int .i64 1) ∧ W = w' := fun W => blocks_any 64 W (by decide)
  have b2 : ∀ W, Calls Tryd.prog 20 #[.int .i64 65] W fun e w' => e = .returned (.int .i64 2) ∧ W = w' := fun W => blocks_any 65 W (by decide)
  have B0 := Lib.hid b0
  have B1 := Lib.hid b1
  have B2 := Lib.hid b2
  clear b0 b1 b2
  go_wp2_with fail
  refine (B0.out _).mono ?_
  rintro e w2 ⟨rfl, rfl⟩
  go_wp2_with fail
  refine (B1.out _).mono ?_
  rintro e w2 ⟨rfl, rfl⟩
  go_wp2_with fail
  refine (B2.out _).mono ?_
  rintro e w2 ⟨rfl, rfl⟩
  go_wp2_with fail
  go_ret
  exact ⟨by first | rfl | simp, HB.out⟩
end Go.Proofs.YtfkobamemehkdaaDoor
