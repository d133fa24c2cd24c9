/-
  The document's order in numbers: one by one put in its place; what a heap holds is that list.
-/
import Derived.Test.YtblpfgjjiihjoaaPkHeapPop
namespace Go.Proofs.Ytblpfgjjiihjoaa
open Go.RowKit
def c0 : Cd := ⟨0, 0, 0, 0⟩
/-- Where c comes among the first k of out. -/
def posC (c : Cd) (out : List Cd) : Nat → Nat
  | 0 => 0
  | k + 1 => if betB c (out.getD k c0) = true then posC c out k else k + 1
def insC (out : List Cd) (c : Cd) : List Cd := out.take (posC c out out.length) ++ c :: out.drop (posC c out out.length)
def ordC (l : List Cd) : List Cd := l.foldl insC []
theorem posC_le (c : Cd) (out : List Cd) (k : Nat) : posC c out k ≤ k := by
  induction k with
  | zero => exact Nat.le_refl _
  | succ k ih => unfold posC; split <;> omega
theorem posC_up (c : Cd) (out : List Cd) (k j : Nat) (h1 : posC c out k ≤ j) (h2 : j < k) : betB c (out.getD j c0) = true := by
  induction k with
  | zero => omega
  | succ k ih =>
    unfold posC at h1
    split at h1
    · rename_i hb
      by_cases e : j = k
      · subst e; exact hb
      · exact ih h1 (by omega)
    · omega
theorem posC_at (c : Cd) (out : List Cd) (k : Nat) (h : 0 < posC c out k) : betB c (out.getD (posC c out k - 1) c0) = false := by
  induction k with
  | zero => simp [posC] at h
  | succ k ih =>
    unfold posC at h ⊢
    split
    · rename_i hb
      rw [if_pos hb] at h
      exact ih h
    · rename_i hb
      simpa using hb
theorem insC_length (out : List Cd) (c : Cd) : (insC out c).length = out.length + 1 := by
  have := posC_le c out out.length
  unfold insC
  simp
  omega
theorem ordC_length (l : List Cd) : (ordC l).length = l.length := by
  have : ∀ (l out : List Cd), (l.foldl insC out).length = out.length + l.length := by
    intro l
    induction l with
    | nil => intro out; simp
    | cons a l ih => intro out; rw [List.foldl_cons, ih, insC_length]; simp; omega
  have h := this l []
  simp only [List.length_nil, Nat.zero_add] at h
  exact h
theorem ordC_snoc (l : List Cd) (c : Cd) : ordC (l ++ [c]) = insC (ordC l) c := by
  unfold ordC
  rw [List.foldl_append]; rfl
/-- The same with the place where each came. -/
def insR (out : List Rk) (r : Rk) : List Rk := out.take (posC r.c (out.map Rk.c) out.length) ++ r :: out.drop (posC r.c (out.map Rk.c) out.length)
def ordR (l : List Rk) : List Rk := l.foldl insR []
theorem insR_map (out : List Rk) (r : Rk) : (insR out r).map Rk.c = insC (out.map Rk.c) r.c := by
  unfold insR insC
  simp [List.map_take, List.map_drop]
theorem ordR_map (l : List Rk) : (ordR l).map Rk.c = ordC (l.map Rk.c) := by
  have : ∀ (l out : List Rk), (l.foldl insR out).map Rk.c = (l.map Rk.c).foldl insC (out.map Rk.c) := by
    intro l
    induction l with
    | nil => intro out; rfl
    | cons a l ih => intro out; rw [List.foldl_cons, ih, insR_map]; rfl
  exact this l []
theorem insR_mem (out : List Rk) (r x : Rk) : x ∈ insR out r ↔ x ∈ out ∨ x = r := by
  unfold insR
  generalize posC r.c (out.map Rk.c) out.length = p
  have h : x ∈ out ↔ x ∈ out.take p ∨ x ∈ out.drop p := by
    rw [← List.mem_append, List.take_append_drop]
  rw [h]
  simp
  constructor
  · rintro (a | a | a)
    · exact .inl (.inl a)
    · exact .inr a
    · exact .inl (.inr a)
  · rintro ((a | a) | a)
    · exact .inl a
    · exact .inr (.inr a)
    · exact .inr (.inl a)
def SortR (l : List Rk) : Prop := l.Pairwise fun a b => lessB b a = false ∧ a.at_ ≠ b.at_
theorem getD_map (out : List Rk) (j : Nat) (hj : j < out.length) : (out.map Rk.c).getD j c0 = (out[j]).c := by
  simp [List.getD_eq_getElem?_getD, hj]
theorem insR_sort (out : List Rk) (r : Rk) (hs : SortR out) (hg : ∀ x ∈ out, GoodC x.c) (hr : GoodC r.c) (hat : ∀ x ∈ out, x.at_ < r.at_) : SortR (insR out r) := by
  unfold insR SortR
  have hle := posC_le r.c (out.map Rk.c) out.length
  have hup := posC_up r.c (out.map Rk.c) out.length
  have hpt := posC_at r.c (out.map Rk.c) out.length
  generalize posC r.c (out.map Rk.c) out.length = p at *
  have hsp : SortR (out.take p ++ out.drop p) := by rw [List.take_append_drop]; exact hs
  obtain ⟨s1, s2, s3⟩ := List.pairwise_append.1 hsp
  have hlow : ∀ a ∈ out.take p, lessB r a = false := by
    intro a ha
    obtain ⟨i, hi, rfl⟩ := List.mem_iff_getElem.1 ha
    rw [List.length_take] at hi
    rw [List.getElem_take]
    have hp1 : p - 1 < out.length := by omega
    have hb := hpt (by omega)
    rw [getD_map out _ hp1] at hb
    have hl : lessB r out[p - 1] = false := by
      rw [less_not]
      have := hat out[p - 1] (List.getElem_mem _)
      exact ⟨hb, .inr (by omega)⟩
    by_cases e : i = p - 1
    · subst e; exact hl
    · have := (List.pairwise_iff_getElem.1 hs) i (p - 1) (by omega) hp1 (by omega)
      exact less_neg (hg _ (List.getElem_mem _)) (hg _ (List.getElem_mem _)) hr this.1 hl
  refine List.pairwise_append.2 ⟨s1, List.pairwise_cons.2 ⟨?_, s2⟩, ?_⟩
  · intro b hb
    obtain ⟨i, hi, rfl⟩ := List.mem_iff_getElem.1 hb
    rw [List.length_drop] at hi
    rw [List.getElem_drop]
    have hq := hup (p + i) (by omega) (by omega)
    rw [getD_map out _ (by omega)] at hq
    have := hat out[p + i] (List.getElem_mem _)
    exact ⟨less_asym ((less_iff _ _).2 (.inl hq)), by omega⟩
  · intro a ha b hb
    rcases List.mem_cons.1 hb with rfl | hb
    · have := hat a (List.mem_of_mem_take ha)
      exact ⟨hlow a ha, by omega⟩
    · exact s3 a ha b hb
def rks (l : List Cd) : List Rk := (List.range l.length).map fun i => ⟨l.getD i c0, i⟩
theorem rks_snoc (l : List Cd) (c : Cd) : rks (l ++ [c]) = rks l ++ [⟨c, l.length⟩] := by
  unfold rks
  rw [List.length_append, List.length_singleton, List.range_succ, List.map_append]
  congr 1
  · apply List.map_congr_left
    intro i hi
    have := List.mem_range.1 hi
    simp [List.getD_eq_getElem?_getD, List.getElem?_append_left this]
  · simp [List.getD_eq_getElem?_getD]
theorem rks_map (l : List Cd) : (rks l).map Rk.c = l := by
  apply List.ext_getElem
  · simp [rks]
  · intro i h1 h2
    simp [rks, List.getD_eq_getElem?_getD, h2]
theorem rks_mem (l : List Cd) (x : Rk) : x ∈ rks l ↔ ∃ i, i < l.length ∧ (⟨l.getD i c0, i⟩ : Rk) = x := by
  simp [rks]
theorem list_snoc {α : Type} {p : List α → Prop} (h0 : p []) (h1 : ∀ l a, p l → p (l ++ [a])) (l : List α) : p l := by
  rw [← List.reverse_reverse l]
  induction l.reverse with
  | nil => simpa using h0
  | cons a m ih => rw [List.reverse_cons]; exact h1 _ _ ih
theorem ordR_snoc (l : List Rk) (r : Rk) : ordR (l ++ [r]) = insR (ordR l) r := by
  unfold ordR
  rw [List.foldl_append]; rfl
theorem ordR_mem (l : List Rk) (x : Rk) : x ∈ ordR l ↔ x ∈ l := by
  refine list_snoc (p := fun l => x ∈ ordR l ↔ x ∈ l) (by simp [ordR]) (fun l a ih => ?_) l
  rw [ordR_snoc, insR_mem, ih]; simp
def GoodL (l : List Cd) : Prop := ∀ c ∈ l, GoodC c
theorem ordR_sort (l : List Cd) : GoodL l → SortR (ordR (rks l)) := by
  refine list_snoc (p := fun l => GoodL l → SortR (ordR (rks l))) (fun _ => by simp [rks, ordR, SortR]) (fun l a ih hg => ?_) l
  have hg1 : GoodL l := fun c hc => hg c (List.mem_append_left _ hc)
  rw [rks_snoc, ordR_snoc]
  refine insR_sort _ _ (ih hg1) ?_ (hg a (by simp)) ?_
  · intro x hx
    rw [ordR_mem, rks_mem] at hx
    obtain ⟨i, hi, rfl⟩ := hx
    have : l.getD i c0 = l[i] := by simp [List.getD_eq_getElem?_getD, hi]
    show GoodC (l.getD i c0)
    rw [this]
    exact hg1 _ (List.getElem_mem _)
  · intro x hx
    rw [ordR_mem, rks_mem] at hx
    obtain ⟨i, hi, rfl⟩ := hx
    show (i : Int) < (l.length : Int)
    omega
/-- A heap of what came, made by Init, holds the document's order. -/
theorem ini_holds (l : List Cd) (h h' : Nat → Rk) (hg : GoodL l) (hh : ∀ i, i < l.length → h i = ⟨l.getD i c0, i⟩) (hI : Ini l.length h h' 0) : Holds l.length h' (ordR (rks l)) := by
  have hin : Inj l.length h := fun i j hi hj e => by
    rw [hh i hi, hh j hj] at e
    exact Int.ofNat.inj e
  have hgd : AllGood l.length h := fun j hj => by
    rw [hh j hj]
    have : l.getD j c0 = l[j] := by simp [List.getD_eq_getElem?_getD, hj]
    show GoodC (l.getD j c0)
    rw [this]
    exact hg _ (List.getElem_mem _)
  obtain ⟨a, b, c⟩ := hI.all hin hgd
  refine ⟨a, hgd.same b, c, fun r => ?_, ordR_sort l hg⟩
  rw [ordR_mem, rks_mem]
  constructor
  · rintro ⟨i, hi, e⟩
    obtain ⟨j, hj, e2⟩ := b.there i hi
    exact ⟨j, hj, by rw [e2, hh i hi, e]⟩
  · rintro ⟨i, hi, e⟩
    obtain ⟨j, hj, e2⟩ := b.back i hi
    exact ⟨j, hj, by rw [← hh j hj, e2, e]⟩
end Go.Proofs.Ytblpfgjjiihjoaa
