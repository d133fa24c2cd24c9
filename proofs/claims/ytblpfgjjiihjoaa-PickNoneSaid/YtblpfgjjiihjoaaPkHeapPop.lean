/-
  Init makes a heap; popping takes the list in its order.
-/
import Derived.Test.YtblpfgjjiihjoaaPkHeapOrd
namespace Go.Proofs.Ytblpfgjjiihjoaa
open Go.RowKit
section
variable {n i k m : Nat} {h h0 h' : Nat → Rk} {l : List Rk}
def AllGood (n : Nat) (h : Nat → Rk) : Prop := ∀ j, j < n → GoodC (h j).c
theorem AllGood.same (hg : AllGood n h) (hs : Same n h h') : AllGood n h' := fun j hj => by
  obtain ⟨i, hi, e⟩ := hs.back j hj
  rw [← e]; exact hg i hi
theorem Ini.all (hI : Ini n h0 h' k) (hh : Inj n h0) (hg : AllGood n h0) : Hq n k h' ∧ Same n h0 h' ∧ Inj n h' := by
  induction hI with
  | here => exact ⟨fun p c hp hc hn => by omega, Same.refl _ _, hh⟩
  | @step h1 h2 k1 i1 hI hD hS ih =>
    obtain ⟨a, b, c⟩ := ih
    obtain ⟨d, e⟩ := hD.keeps c
    exact ⟨hD.heap hS a ((hg.same b).same d), b.trans d, e⟩
/-- The heap of n places holds the list l, which stands in its order. -/
structure Holds (n : Nat) (h : Nat → Rk) (l : List Rk) : Prop where
  heap : Hq n 0 h
  good : AllGood n h
  inj : Inj n h
  mem : ∀ r, r ∈ l ↔ ∃ i, i < n ∧ h i = r
  sorted : l.Pairwise fun a b => lessB b a = false ∧ a.at_ ≠ b.at_
theorem Holds.nil (hH : Holds 0 h l) : l = [] := by
  cases l with
  | nil => rfl
  | cons a l =>
    obtain ⟨i, hi, _⟩ := (hH.mem a).1 (List.mem_cons_self ..)
    omega
theorem Holds.head (hH : Holds (n + 1) h l) : ∃ l', l = h 0 :: l' := by
  cases l with
  | nil => exact absurd ((hH.mem (h 0)).2 ⟨0, by omega, rfl⟩) (by simp)
  | cons a l' =>
    refine ⟨l', ?_⟩
    obtain ⟨i, hi, e⟩ := (hH.mem a).1 (List.mem_cons_self ..)
    have h1 : lessB a (h 0) = false := by rw [← e]; exact hH.heap.top hH.good i hi
    have h2 : lessB (h 0) a = false := by
      rcases List.mem_cons.1 ((hH.mem (h 0)).2 ⟨0, by omega, rfl⟩) with q | q
      · rw [q]; exact less_self _
      · exact ((List.pairwise_cons.1 hH.sorted).1 _ q).1
    have h3 := less_tie h1 h2
    rw [← e] at h3
    have := hH.inj i 0 hi (by omega) h3
    subst this
    rw [e]
theorem Holds.pop (hH : Holds (n + 1) h (h 0 :: l)) (hD : Dn n (swp h 0 n) 0 h' i) (hS : Still n h' i) : Holds n h' l := by
  have hi1 := inj_swp (i := 0) (j := n) (by omega) (by omega) hH.inj
  have hin : Inj n (swp h 0 n) := fun a b ha hb e => hi1 a b (by omega) (by omega) e
  have hgd : AllGood n (swp h 0 n) := fun j hj => hH.good.same (same_swp (i := 0) (j := n) (by omega) (by omega)) j (by omega)
  obtain ⟨hs, hi2⟩ := hD.keeps hin
  obtain ⟨hp, hsort⟩ := List.pairwise_cons.1 hH.sorted
  have hsn : ∀ j, j < n → swp h 0 n j = if j = 0 then h n else h j := fun j hj => by rw [swp_at, if_neg (by omega)]
  refine ⟨hD.heap hS ?_ (hgd.same hs), hgd.same hs, hi2, fun r => ?_, hsort⟩
  · intro p c hp1 hc hn
    rw [hsn c hn, hsn p (by omega), if_neg (by omega), if_neg (by omega)]
    exact hH.heap p c (by omega) hc (by omega)
  · constructor
    · intro hr
      obtain ⟨j, hj, e⟩ := (hH.mem r).1 (List.mem_cons_of_mem _ hr)
      have hj0 : j ≠ 0 := by
        rintro rfl
        exact (hp r hr).2 (by rw [e])
      have : ∃ a, a < n ∧ swp h 0 n a = r := by
        by_cases jn : j = n
        · subst jn
          exact ⟨0, by omega, by rw [hsn 0 (by omega), if_pos rfl]; exact e⟩
        · exact ⟨j, by omega, by rw [hsn j (by omega), if_neg hj0]; exact e⟩
      obtain ⟨a, ha, e2⟩ := this
      obtain ⟨b, hb, e3⟩ := hs.there a ha
      exact ⟨b, hb, e3.trans e2⟩
    · rintro ⟨b, hb, e⟩
      obtain ⟨a, ha, e2⟩ := hs.back b hb
      rw [hsn a ha] at e2
      have key : ∀ j, j ≠ 0 → j < n + 1 → h j = r → r ∈ l := fun j j0 hj ej => by
        rcases List.mem_cons.1 ((hH.mem r).2 ⟨j, hj, ej⟩) with q | q
        · exact absurd (hH.inj j 0 hj (by omega) (by rw [ej, q])) j0
        · exact q
      by_cases a0 : a = 0
      · rw [if_pos a0] at e2
        exact key n (by omega) (by omega) (e2.trans e)
      · rw [if_neg a0] at e2
        exact key a a0 (by omega) (e2.trans e)
end
end Go.Proofs.Ytblpfgjjiihjoaa
