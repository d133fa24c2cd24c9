/-
  ReadMap and ReadDir of bytes that are no 64.
-/
import Derived.Test.YtbacfbdeeogkgaaEnRead
namespace Go.Proofs.Ytbacfbdeeogkgaa
open Go.RowKit

set_option maxRecDepth 100000 in
set_option maxHeartbeats 2000000 in
theorem readMap_len (a : Option Addr) (n cap : Nat) (w : World) (hn : n ≠ 64) : Calls Try.prog 19 #[.slice a n cap] w fun e w' => e = .returned (.tuple #[.agg z16, .int .i64 100]) ∧ Below w.heap.size w w' := by
  have n1 : ¬ (n : Int) = 64 := by omega
  have h2 := (blo_laid w A8T z16).alloc (.cells z16 A8T)
  have hb := ((Below.refl w.heap.size w).alloc (Nat.le_refl _) (.cells z16 A8T)).alloc (by simp) (.cells z16 A8T)
  have h4 := blo_laid (w.alloc (.cells z16 A8T)) A8T z16
  rw [show (w.alloc (.cells z16 A8T)).heap.size = w.heap.size + 1 by simp] at h4
  have H2 := Lib.hid h2
  have H4 := Lib.hid h4
  have HB := Lib.hid hb
  clear h2 h4 hb hn
  have hui := Try.underlying56
  have HII : Hid ((Try.prog.info? A8T).map (·.size) = some z16.size) := info_a8 _ _
  have HOne := Lib.hid (cells16_one (fun _ => 0) (fun _ => 0))
  go_enter Try.func19, Try.ntmps19
  go_wp2_with (first | (refine wpList_load_row rfl A8T (.tmp 4) rfl (w.heap.size + 1) rfl A8T z16 (0, 0) _ H4.out hui rfl HII.out ?_) | (refine wpList_store_row rfl A8T (.tmp 2) (.tmp 12) rfl w.heap.size z16 rfl rfl A8T _ H2.out HII.out rfl HOne.out ?_))
  have hrow := setRow_heap ((w.alloc (.cells z16 A8T)).alloc (.cells z16 A8T)) w.heap.size _ z16 _ _ H2.out
  refine bodyPost_ret (v := .tuple #[.agg z16, .int .i64 100]) ?_ rfl ⟨rfl, below_setRow HB.out (Nat.le_refl _) _⟩
  have hld := run_loadVar_row _ _ A8T A8T z16 (0, 0) _ hrow hui rfl HII.out
  simp [results, Try.results19, asAddr]
  exact congrArg (fun r => Result.andThen r (fun a w' => Result.ok (Value.tuple #[a, .int .i64 100]) w')) hld
end Go.Proofs.Ytbacfbdeeogkgaa
