/-
  slices.Sort of a row of integers of one's own.
-/
import Derived.Test.YtnlmpnpelnmpeaaFlMem
import Derived.Test.YtnlmpnpelnmpeaaShelf
import Derived.Sort.OwnSortedInts
namespace Go.Proofs.Ytnlmpnpelnmpeaa
open Go.RowKit Go.Sort

def srt (l : List Int) : List Int := l.mergeSort fun x y => decide (x ≤ y)
theorem srt_len (l : List Int) : (srt l).length = l.length := by simp [srt]
theorem srt_perm (l : List Int) : (srt l).Perm l := List.mergeSort_perm _ _
theorem srt_mem (l : List Int) (x : Int) : x ∈ srt l ↔ x ∈ l := (srt_perm l).mem_iff
theorem srt_sorted (l : List Int) : (srt l).Pairwise (· ≤ ·) := by
  have := List.pairwise_mergeSort (le := fun x y : Int => decide (x ≤ y)) (fun a b c h1 h2 => by simp at h1 h2 ⊢; omega) (fun a b => by simp; omega) l
  exact this.imp (fun h => by simpa using h)
theorem srt_nil : srt [] = [] := by simp [srt]
theorem srt_one (x : Int) : srt [x] = [x] := by simp [srt]
theorem sort_own {w : World} (base m : Nat) (v : Value) (l : List Int) (ho : w.ownsRow base 3 1 v m (cellsI l)) (hm : m = l.length) (hs : m < 1000000) :
    Calls Try.prog 42 #[v] w fun e w' => e = .returned (.tuple #[]) ∧ w'.ownsRow base 3 1 v m (cellsI (srt l)) ∧ w.grownBy w' v.ownBlock := by
  rcases ho.2 with ⟨rfl, h0⟩ | ⟨g, cap, cur, rfl, hb, hg, hc, hcm, hcs, hct⟩
  · have hl : l = [] := List.eq_nil_of_length_eq_zero (by omega)
    subst hl
    subst h0
    refine (Try.slices_Sort_int_none none 0 w).mono ?_
    rintro e w' ⟨rfl, rfl⟩
    exact ⟨rfl, by rw [srt_nil]; exact ho, ⟨rfl, rfl, rfl, Nat.le_refl _, fun _ _ _ => rfl⟩⟩
  · subst hm
    have hct' : cur.toList.take l.length = l.map (Value.int .i64) := by
      have := hct
      rw [Nat.mul_one] at this
      exact this
    refine (Try.slices_Sort_int g 0 cap l w (holds_of_blockI hg hct') (Blo.lt hg) (by omega)).mono ?_
    rintro e w' ⟨rfl, k, os, rfl⟩
    exact ⟨rfl, ownsRow_sortedI (ts := srt l) (srt_len l) hb hg hc hcm hcs, grownBy_sortedI _⟩
end Go.Proofs.Ytnlmpnpelnmpeaa
