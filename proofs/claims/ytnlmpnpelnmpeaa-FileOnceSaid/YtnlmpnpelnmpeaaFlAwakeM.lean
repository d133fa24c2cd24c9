/-
  The numbers of the document's example.
-/
import Derived.Test.YtnlmpnpelnmpeaaFlCut
import Derived.Test.YtnlmpnpelnmpeaaFlMetas
namespace Go.Proofs.Ytnlmpnpelnmpeaa
open Go.RowKit Go.Maps

theorem srt_eq {l m : List Int} (h : l.Perm m) (hs : m.Pairwise (· ≤ ·)) : srt l = m :=
  ((srt_perm l).trans h).eq_of_pairwise (fun a b _ _ h1 h2 => Int.le_antisymm h1 h2) (srt_sorted l) hs
theorem sdL_zero (d : Nat → Int) (ad : Int → Int) (k : Nat) (h : d k = 0) : sdL d ad k 0 = [] := by
  unfold sdL
  rw [if_neg (fun e => e.1 h), h]
  simp [goneM, srt_nil]
theorem clL_zero (d : Nat → Int) (ad : Int → Int) (fr lo : Nat) (h : ∀ i, lo ≤ i → i < 600 → d i = 0) : ∀ m, lo ≤ m → m ≤ 600 → clL d ad fr m = clL d ad fr lo
  | 0, h1, _ => by rw [show lo = 0 by omega]
  | m + 1, h1, h2 => by
    by_cases e : lo = m + 1
    · rw [e]
    · rw [clL, clL_zero d ad fr lo h m (by omega) (by omega)]
      split
      · rename_i hf
        have : dC d fr m m = 0 := by unfold dC; rw [if_neg (by omega)]; exact h m (by omega) (by omega)
        rw [sdL_zero _ _ _ this, List.append_nil]
      · rw [List.append_nil]
theorem clL_none (d : Nat → Int) (ad : Int → Int) (fr : Nat) (h : ∀ i, fr ≤ i → i < 600 → d i = 0) : clL d ad fr 600 = [] := by
  by_cases hf : fr ≤ 600
  · rw [clL_zero d ad fr fr h 600 hf (Nat.le_refl _), clL_low _ _ _ _ (Nat.le_refl _)]
  · rw [clL_low _ _ _ _ (by omega)]
def exD : Nat → Int := updN (fun _ => 0) 22 50
def exA : Int → Int := updO (updO (fun _ => 0) (-22) 60) (-23) 61
theorem exD_zero (i : Nat) (h : i ≠ 22) : exD i = 0 := by unfold exD; rw [updN_ne _ _ h]
def exB : Bool := decide (way 22 = [-23, -22]) && decide (metL exD = [-23, -22]) && decide (cov exD (-22) = 1) && decide (cov exD (-23) = 1) && decide (isB (-22) = true) && decide (isB (-23) = true) && decide (0 < lvOf (-22)) && decide (0 < lvOf (-23))
theorem ex_tried : exB = true := by kernel_rfl
theorem ex_f : way 22 = [-23, -22] ∧ metL exD = [-23, -22] ∧ cov exD (-22) = 1 ∧ cov exD (-23) = 1 ∧ isB (-22) = true ∧ isB (-23) = true ∧ 0 < lvOf (-22) ∧ 0 < lvOf (-23) := by
  have h := ex_tried
  simp only [exB, Bool.and_eq_true, decide_eq_true_eq] at h
  exact ⟨h.1.1.1.1.1.1.1, h.1.1.1.1.1.1.2, h.1.1.1.1.1.2, h.1.1.1.1.2, h.1.1.1.2, h.1.1.2, h.1.2, h.2⟩
theorem ex_sd : sdA (fun _ => 0) (fun _ => 0) 22 50 = fun _ => 0 := by funext x; unfold sdA; split <;> rfl
theorem ex_gone : srt (clL exD exA 0 600) = [50, 60, 61] := by
  have e1 : clL exD exA 0 600 = clL exD exA 0 23 := clL_zero exD exA 0 23 (fun i h1 _ => exD_zero i (by omega)) 600 (by decide) (by decide)
  have e3 : ∀ m, m ≤ 22 → clL exD exA 0 m = [] := by
    intro m
    induction m with
    | zero => intro _; rfl
    | succ m ih =>
      intro hm
      rw [clL, ih (by omega), if_pos (Nat.zero_le _)]
      have : dC exD 0 m m = 0 := by unfold dC; rw [if_neg (by omega)]; exact exD_zero m (by omega)
      rw [sdL_zero _ _ _ this]; rfl
  have e4 : dC exD 0 22 = exD := by
    funext j
    unfold dC
    split
    · rename_i h; exact (exD_zero j (by omega)).symm
    · rfl
  have e5 : aC exD exA 0 22 (-23) = 61 ∧ aC exD exA 0 22 (-22) = 60 := by
    unfold aC
    rw [e4, ex_f.2.2.1, ex_f.2.2.2.1]
    exact ⟨rfl, rfl⟩
  have e6 : glM (cov exD) (aC exD exA 0 22) (way 22) = [61, 60] := by
    rw [ex_f.1]
    simp only [glM, List.flatMap_cons, List.flatMap_nil, ex_f.2.2.1, ex_f.2.2.2.1, e5.1, e5.2]
    rfl
  have e7 : clL exD exA 0 23 = srt [50, 61, 60] := by
    rw [clL, e3 22 (by decide), if_pos (Nat.zero_le _), e4]
    unfold sdL
    have h22 : exD 22 = 50 := rfl
    rw [h22, if_pos ⟨by decide, rfl⟩, e6]
    rfl
  rw [e1, e7]
  have s1 : srt [50, 61, 60] = [50, 60, 61] := srt_eq (by decide) (by decide)
  rw [s1]
  exact srt_eq (List.Perm.refl _) (by decide)
end Go.Proofs.Ytnlmpnpelnmpeaa
