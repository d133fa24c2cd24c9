/-
  What the condition on the listed variable gives: the table of sums stands in its place. And a start that meets it.
-/
import Derived.Test.YtfkobamemehkdaaDoorBaseSum
import Derived.Test.YtfkobamemehkdaaDoorRows
import Derived.ProofKit
import Derived.LaidMore
import Derived.OpenShut
import Derived.Stop.Joined
namespace Go.Proofs.YtfkobamemehkdaaDoor
open Go.ChangeShapes Go.WideShapes Go.ChangeAt Go.RowKit

abbrev laid1 : List (String × DataW Unit) := [("marl/sum.ahead", Rows.laid_marl_sum_ahead)]
theorem own : ownKnob Tryd.prog.godebug = none := by kernel_rfl
theorem laidOut : laidOutB Tryd.prog = true := by kernel_rfl
theorem gAhead : Tryd.prog.globalNamed "marl/sum.ahead" = some 0 := by kernel_rfl
theorem tAhead : (Tryd.prog.globals[0]?).map (·.type) = some 39 := by kernel_rfl
theorem cells_u32 : Tryd.prog.cellsOf 22 = 1 := by kernel_rfl
theorem cells_tab : Tryd.prog.cellsOf 39 = 16 := by kernel_rfl
theorem tab_data : ∀ i, i < 16 → (match Rows.laid_marl_sum_ahead (H := Unit) with | .agg xs => xs[i]? | _ => none) = some (.lit (.int .u32 (tab16.getD i 0 : Nat))) := by
  intro i hi
  match i, hi with
  | 0, _ | 1, _ | 2, _ | 3, _ | 4, _ | 5, _ | 6, _ | 7, _ | 8, _ | 9, _ | 10, _ | 11, _ | 12, _ | 13, _ | 14, _ | 15, _ => rfl
  | n + 16, h => exact absurd h (by omega)
theorem tab_of_laid {W : World} (h : laidMetH Tryd.prog laid1 W) : Tab W ∧ 0 < W.heap.size := by
  rw [MakeChecks.laidMetH_plain _ _ _ (by kernel_rfl)] at h
  obtain ⟨ps, ⟨g0, t0, cs0, f0, p0, q0, hg0, ht0, hv0, hd0, _, _⟩, _, _⟩ := h
  obtain rfl := Option.some.inj (gAhead.symm.trans hg0)
  obtain rfl := Option.some.inj (tAhead.symm.trans ht0)
  obtain ⟨xs, m1, rfl, hx1, hlen, hn, hel⟩ := DataW.trod_array Tryd.underlying39 hd0
  simp only [Prod.mk.injEq] at hx1
  have hcells : ∀ i, i < 16 → W.cell? ⟨0, i, none⟩ = some (.int .u32 (tab16.getD i 0 : Nat)) := by
    intro i hi
    have h1 := hel i hi
    rw [cells_u32] at h1
    have hxi : i < xs.length := by omega
    rw [List.getElem?_eq_getElem hxi] at h1
    obtain ⟨k, e1, e2, _⟩ := DataW.trod_int Tryd.underlying22 h1
    have hd := tab_data i hi
    rw [hx1.1] at hd
    simp only [List.getElem?_map, List.getElem?_eq_getElem hxi, Option.map_some, Option.some.injEq] at hd
    rw [e2] at hd
    simp only [DataW.lit.injEq, Lit.int.injEq, true_and] at hd
    rw [World.var?_cell gAhead hv0 i]
    have h2 : (cs0.toList.drop (i * 1)).take 1 = [Value.int .u32 k] := e1
    have h3 : cs0.toList[i]? = some (Value.int .u32 k) := by
      have := congrArg (fun l => l[0]?) h2
      simpa using this
    rw [← Array.getElem?_toList, h3, hd]
  exact ⟨hcells, World.block_lt_of_cell? _ _ (hcells 0 (by decide))⟩
theorem door_met (os : Os) (args : Array Value) : laidMetH Tryd.prog laid1 ((World.doorLaid Tryd.prog 400 os).forCall (fun _ _ => 0) ⟨#[], args, []⟩).memory :=
  laidMetH_of_parts3 (fuel := 8) (laidMet_of_run' 8 (by kernel_rfl) (by kernel_rfl)) (by kernel_rfl) (by kernel_rfl)
end Go.Proofs.YtfkobamemehkdaaDoor
