/-
  The inode map's Dirty, where nothing is dirty: slices.Sorted(maps.Keys(m)) of an empty map.
-/
import Derived.Test.YtbacfbdeeogkgaaImWalks
import Derived.Test.YtbacfbdeeogkgaaIter
namespace Go.Proofs.Ytbacfbdeeogkgaa
open Go.RowKit Go.Maps Go.Sort Go.Shelf

theorem own_zero {w : World} {g : Nat} {D : DataW Nat} (h : OwnU w g 0 D) : D = .map [] := by
  obtain ⟨es, clock, hb, Ft, hs, hD⟩ := h
  have e : es = #[] := Array.eq_empty_of_size_eq_zero (by omega)
  subst e
  exact hD
/-- slices.Sort's two contracts at this dump, at the fence that asks nothing. -/
theorem sorts_keys (m : Nat) : AnyZI.SortsIn Try.prog Try.sortedA_ren Fence.wide m :=
  ⟨fun blk off cap ss W hH hblk hsz => callsIn_wide.2 (AnyM.slices_Sort_int Try.sortA blk off cap ss W hH hblk hsz),
   fun p cap W => callsIn_wide.2 (AnyM.slices_Sort_int_none Try.sortA p cap W)⟩
set_option maxHeartbeats 1000000 in
theorem dirty_no {w : World} {bm gs gd n : Nat} {A V : Nat → Int} {B : Nat → Bool} (h : Im w bm gs gd n 0 A V B) :
    Calls Try.prog 28 #[.pointer (some ⟨bm, 0, none⟩)] w fun e w' => e = .returned (.slice none 0 0) ∧ Below w.heap.size w w' := by
  refine (callsIn_wide (n := 6)).1 ?_
  obtain ⟨D0, hown⟩ := h.dm
  have t1 := h.top.cell 1
  simp at t1
  have hbl := hown.lt
  obtain rfl := own_zero hown
  have hmax : Maps.size (.map [] : DataW Nat) ≤ maxLen := Nat.zero_le _
  have hbytes : Maps.size (.map [] : DataW Nat) * 8 ≤ 140737488355328 := by show 0 * 8 ≤ _; omega
  have hseq : SeqGives Fence.wide 2 Try.prog 51 #[.pointer (some ⟨w.heap.size, 0, none⟩)] encZ (fun ss => ss.Perm (intKeys (.map [] : DataW Nat))) (Maps.size (.map [] : DataW Nat)) (w.alloc (.cells #[.map (some gd)] 77)) :=
    AnyZI.keys_gives (ρ := Try.keysA_ren) { Try.keysA with } Fence.wide _ trivial rfl (by omega) w.heap.size gd 0 (.map []) _ (by simp) (by simp) (by
      obtain ⟨es, clock, hb, Ft, hs, hD⟩ := hown
      exact ⟨es, clock, (Below.heap_alloc _ _ gd hbl).trans hb, Ft, hs, hD⟩)
  have cK : ∀ mb W, CallsIn Fence.wide 5 Try.prog 45 #[.map mb] W fun e w' => e = .returned (.func (.func 51) #[] #[.pointer (some ⟨W.heap.size, 0, none⟩)]) ∧ w' = W.alloc (.cells #[.map mb] 77) := fun mb W => AnyZI.keys_in Try.keysA Fence.wide 5 trivial rfl mb W
  have cS := AnyZI.sorted_in Try.sortedA Fence.wide 5 trivial trivial trivial trivial rfl (by omega) (sorts_keys _) (enters_of Try.func50 (by kernel_rfl) rfl) 51 #[.pointer (some ⟨w.heap.size, 0, none⟩)] trivial (enters_of Try.func51 (by kernel_rfl) rfl) _ _ hmax hbytes _ hseq
  change CallsIn _ _ Try.prog 44 _ _ _ at cS
  have hfK : Fence.wide.fn 45 := trivial
  have hfS : Fence.wide.fn 44 := trivial
  have hnil : ∀ ss : List Int, ss.Perm (intKeys (.map [] : DataW Nat)) → ss = [] := fun ss hp => List.Perm.eq_nil hp
  clear h hown
  refine callsIn_of_wp Try.func28 rfl trivial ?_ rfl
  simp only [Try.ntmps28, List.size_toArray, List.length_cons, List.length_nil, Nat.reduceAdd, Nat.reduceSub, Array.replicate_succ, Array.replicate_zero, List.push_toArray, List.append_toArray, List.nil_append, List.cons_append]
  gi_wp2_with (first
    | (gi_at_call 45; refine (cK _ _).mono ?_; rintro e w' ⟨rfl, rfl⟩)
    | (gi_at_call 44; refine cS.mono ?_; rintro e w' ⟨v, ss, rfl, hS, hrow, hv, hb⟩; obtain rfl : v = .slice none 0 0 := hv.2 (hnil ss hS)))
  go_ret
  exact ⟨rfl, ((Below.refl _ w).alloc (Nat.le_refl _) _).trans (hb.mono (by simp))⟩
end Go.Proofs.Ytbacfbdeeogkgaa
