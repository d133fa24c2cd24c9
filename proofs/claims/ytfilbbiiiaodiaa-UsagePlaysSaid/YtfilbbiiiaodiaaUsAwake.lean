/-
  The walk of the fixed fact: the document's example of a table.
-/
import Derived.Test.YtfilbbiiiaodiaaUsTake
namespace Go.Proofs.Ytfilbbiiiaodiaa
open Go.RowKit

theorem f1 : seiz (List.replicate (3 * 3) 0) 3 0 = [0, 2, 0, 0, 0, 0, 0, 0, 0] := by kernel_rfl
theorem f2 : seiz [0, 2, 0, 0, 0, 0, 0, 0, 0] 3 1 = [0, 1, 0, 0, 2, 0, 0, 0, 0] := by kernel_rfl
theorem f3 : rel [0, 1, 0, 0, 2, 0, 0, 0, 0] 0 = [0, 0, 0, 0, 2, 0, 0, 0, 0] := by kernel_rfl
theorem f4 : seiz [0, 0, 0, 0, 2, 0, 0, 0, 0] 3 2 = [0, 0, 0, 0, 1, 0, 0, 2, 0] := by kernel_rfl
theorem f5 : seiz [0, 0, 0, 0, 1, 0, 0, 2, 0] 3 0 = [0, 2, 0, 0, 1, 0, 0, 1, 0] := by kernel_rfl
theorem f6 : ∀ i, i < 3 → ([0, 2, 0, 0, 1, 0, 0, 1, 0] : List Int).getD (i * 3 + 1) 0 ≠ 0 := by decide
set_option maxHeartbeats 1000000 in
theorem awake_any (w : World) : Calls Try.prog 8 #[] w fun e w' => e = .returned (.bool true) ∧ Below w.heap.size w w' := by
  have HNew := Lib.hid (new_any 3 8 w (by decide) (by decide) (by decide) (by decide))
  go_enter Try.func8, Try.ntmps8
  go_wp2_with fail
  refine HNew.out.mono ?_
  rintro e w1 ⟨bt, g, rfl, ht, hbt, hbg, hb⟩
  have HT1 := Lib.hid ht
  have HB1 := Lib.hid hb
  clear ht hb HNew
  go_wp2_with fail
  refine (take_first (seg := 0) (B := w.heap.size) HT1.out (by decide) hbg hbt (by decide) (by decide) (by decide) (by decide)).mono ?_
  rintro e w2 ⟨rfl, ht, hb, _⟩
  rw [f1] at ht
  have HT2 := Lib.hid ht
  have HB2 : Hid (Below w.heap.size w w2) := HB1.out.trans hb
  clear ht hb
  go_wp2_with fail
  refine (take_first (seg := 1) (B := w.heap.size) HT2.out (by decide) hbg hbt (by decide) (by decide) (by decide) (by decide)).mono ?_
  rintro e w3 ⟨rfl, ht, hb, _⟩
  rw [f2] at ht
  have HT3 := Lib.hid ht
  have HB3 : Hid (Below w.heap.size w w3) := HB2.out.trans hb
  clear ht hb
  go_wp2_with fail
  refine (rel_yes (seg := 0) (B := w.heap.size) HT3.out (by decide) (by decide) (by decide) (by decide) hbg).mono ?_
  rintro e w4 ⟨rfl, ht, hb⟩
  rw [f3] at ht
  have HT4 := Lib.hid ht
  have HB4 : Hid (Below w.heap.size w w4) := HB3.out.trans hb
  clear ht hb
  go_wp2_with fail
  refine (take_first (seg := 2) (B := w.heap.size) HT4.out (by decide) hbg hbt (by decide) (by decide) (by decide) (by decide)).mono ?_
  rintro e w5 ⟨rfl, ht, hb, _⟩
  rw [f4] at ht
  have HT5 := Lib.hid ht
  have HB5 : Hid (Below w.heap.size w w5) := HB4.out.trans hb
  clear ht hb
  go_wp2_with fail
  refine (take_first (seg := 0) (B := w.heap.size) HT5.out (by decide) hbg hbt (by decide) (by decide) (by decide) (by decide)).mono ?_
  rintro e w6 ⟨rfl, ht, hb, _⟩
  rw [f5] at ht
  have HT6 := Lib.hid ht
  have HB6 : Hid (Below w.heap.size w w6) := HB5.out.trans hb
  clear ht hb
  go_wp2_with fail
  refine (take_full HT6.out (by decide) (by decide) (by decide) f6).mono ?_
  rintro e w7 ⟨rfl, rfl⟩
  go_wp2
  go_ret
  exact ⟨by first | rfl | simp, HB6.out⟩
end Go.Proofs.Ytfilbbiiiaodiaa
