/-
  MapBlock: the block of eight map entries.
-/
import Derived.Test.YtbacfbdeeogkgaaEnMap
namespace Go.Proofs.Ytbacfbdeeogkgaa
open Go.RowKit

abbrev A8T := 56
def cells16 (A V : Nat → Int) : Array Value := #[.int .i64 (A 0), .int .i64 (V 0), .int .i64 (A 1), .int .i64 (V 1), .int .i64 (A 2), .int .i64 (V 2), .int .i64 (A 3), .int .i64 (V 3), .int .i64 (A 4), .int .i64 (V 4), .int .i64 (A 5), .int .i64 (V 5), .int .i64 (A 6), .int .i64 (V 6), .int .i64 (A 7), .int .i64 (V 7)]
theorem cells16_at (A V : Nat → Int) (i : Nat) (hi : i < 8) : (cells16 A V)[i * 2]? = some (.int .i64 (A i)) ∧ (cells16 A V)[i * 2 + 1]? = some (.int .i64 (V i)) := by
  have : i = 0 ∨ i = 1 ∨ i = 2 ∨ i = 3 ∨ i = 4 ∨ i = 5 ∨ i = 6 ∨ i = 7 := by omega
  rcases this with rfl | rfl | rfl | rfl | rfl | rfl | rfl | rfl <;> exact ⟨rfl, rfl⟩
theorem rdM_blo {W : World} {g : Nat} {t : TypeId} {A V : Nat → Int} (h : Blo W g t (cells16 A V)) : RdM W g A V := fun i hi => by
  obtain ⟨h1, h2⟩ := cells16_at A V i hi
  exact ⟨by rw [h.cell]; exact h1, by rw [h.cell]; exact h2⟩
theorem MbO.base {w w2 W : World} {A V : Nat → Int} {e : Ending} (h : MbO w2 A V e W) (hb : Below w.heap.size w w2) : MbO w A V e W := by
  obtain ⟨h1, h2⟩ := h
  refine ⟨h1.imp (fun ⟨ha, a, cap, he, ho⟩ => ⟨ha, a, cap, he, ho.1, ho.2.imp id (fun ⟨g, c, cur, q1, q2, q3⟩ => ⟨g, c, cur, q1, Nat.le_trans hb.size q2, q3⟩)⟩) id, hb.trans (h2.mono hb.size)⟩
set_option maxHeartbeats 2000000 in
theorem mapBlock_any (A V : Nat → Int) (w : World) : Calls Try.prog 40 #[.agg (cells16 A V)] w (MbO w A V) := by
  have HR := Lib.hid (rdM_blo (blo_laid w A8T (cells16 A V)))
  have HB := Lib.hid (sup_en w (.cells (cells16 A V) A8T))
  have HW := Lib.hid (write_map w.heap.size A V _ HR.out)
  have HP : Hid (∀ e W, MbO (w.alloc (.cells (cells16 A V) A8T)) A V e W → MbO w A V e W) := fun e W h => h.base HB.out
  generalize cells16 A V = cs at *
  go_enter Try.func40, Try.ntmps40
  go_wp2_with fail
  refine HW.out.mono ?_
  rintro e w1 hO
  have hO2 := HP.out _ _ hO
  clear hO HP HW
  obtain ⟨h1 | h1, hb⟩ := hO2
  · obtain ⟨ha, a, cap, rfl, ho⟩ := h1
    have HX := Lib.hid ha
    have HO := Lib.hid ho
    have HB1 := Lib.hid hb
    clear ha ho hb
    go_wp2
    exact bodyPost_ret (v := .tuple #[.slice a 64 cap, .int .i64 0]) (by simp [results, Try.results40, go_sem]) rfl ⟨.inl ⟨HX.out, a, cap, rfl, HO.out⟩, HB1.out⟩
  · obtain ⟨ha, rfl⟩ := h1
    have HX := Lib.hid ha
    have HB1 := Lib.hid hb
    clear ha hb
    go_wp2
    exact bodyPost_ret (v := .tuple #[.slice none 0 0, .int .i64 22]) (by simp [results, Try.results40, go_sem]) rfl ⟨.inr ⟨HX.out, rfl⟩, HB1.out⟩
end Go.Proofs.Ytbacfbdeeogkgaa
