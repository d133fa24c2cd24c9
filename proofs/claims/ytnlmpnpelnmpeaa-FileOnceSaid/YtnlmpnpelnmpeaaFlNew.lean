/-
  The walks of New and Root.
-/
import Derived.Test.YtnlmpnpelnmpeaaFlSet
import Derived.Laws.Tables
namespace Go.Proofs.Ytnlmpnpelnmpeaa
open Go.RowKit Go.Maps

def z600 : List Value := List.replicate 600 (Value.int .i64 0)
theorem z600_len : z600.length = 600 := List.length_replicate
theorem z600_get (i : Nat) (h : i < 600) : z600[i]? = some (.int .i64 0) := by unfold z600; rw [List.getElem?_replicate, if_pos h]
def newC (v : Value) : Array Value := (z600 ++ [v]).toArray
theorem newC_size (v : Value) : (newC v).size = 601 := by
  unfold newC
  rw [List.size_toArray, List.length_append, z600_len]; rfl
theorem newC_get (v : Value) (i : Nat) (h : i < 600) : (newC v)[i]? = some (.int .i64 0) := by
  unfold newC
  rw [List.getElem?_toArray, List.getElem?_append_left (by rw [z600_len]; exact h), z600_get i h]
theorem newC_last (v : Value) : (newC v)[600]? = some v := by
  unfold newC
  rw [List.getElem?_toArray, List.getElem?_append_right (by rw [z600_len]; exact Nat.le_refl _), z600_len]; rfl
set_option maxRecDepth 100000 in
theorem build_new (b : Nat) (W : World) : (Instr.build FT #[(1, .map (some b))]).run Try.prog W = .ok (.agg (newC (.map (some b)))) W := by kernel_rfl
theorem new_fx (w : World) : FX w.heap.size (w.heap.size + 1) w.heap.size 0 (fun _ => 0) (fun _ => 0) ((w.alloc (.map #[] 0)).alloc (.cells (newC (.map (some w.heap.size))) FT)) := by
  have h1 := PM.made w
  have hs : (w.alloc (.map #[] 0)).heap.size = w.heap.size + 1 := by simp
  have h2 := blo_laid (w.alloc (.map #[] 0)) FT (newC (.map (some w.heap.size)))
  rw [hs] at h2
  refine ⟨fun _ => none, ⟨_, h2, newC_size _, newC_get _, newC_last _⟩, h1.later (sup_pc _ _), fun x => ?_, fun x g e => (by cases e), fun x y g e => (by cases e), ⟨by omega, Nat.le_refl _⟩, fun _ => ⟨by decide, by decide⟩, fun _ => ⟨by decide, by decide⟩, fun x => cov_bd _ x, fun _ _ => rfl⟩
  rw [cov_zero]; rfl
set_option maxRecDepth 20000 in
set_option maxHeartbeats 4000000 in
theorem new_any (w : World) : Calls Try.prog 9 #[] w fun e w' => e = .returned (.pointer (some ⟨w.heap.size + 1, 0, none⟩)) ∧ FX w.heap.size (w.heap.size + 1) w.heap.size 0 (fun _ => 0) (fun _ => 0) w' ∧ Below w.heap.size w w' := by
  have HF := Lib.hid (new_fx w)
  have hbn := build_new
  have hmm := @run_makeMap Try.prog
  have HB : Hid (Below w.heap.size w ((w.alloc (.map #[] 0)).alloc (.cells (newC (.map (some w.heap.size))) FT))) := (sup_pc w _).trans ((sup_pc (w.alloc (.map #[] 0)) _).mono (by simp))
  go_enter Try.func9, Try.ntmps9
  go_wp2_with fail
  go_ret
  exact ⟨by simp, HF.out, HB.out⟩
end Go.Proofs.Ytnlmpnpelnmpeaa
