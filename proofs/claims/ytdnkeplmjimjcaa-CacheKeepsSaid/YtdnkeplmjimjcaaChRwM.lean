/-
  CacheRow's lists of blocks.
-/
import Derived.Test.YtdnkeplmjimjcaaChFuM
namespace Go.Proofs.Ytdnkeplmjimjcaa
open Go.RowKit

def rwB (j : Nat) : Bk := ⟨(7, (j : Int)), gd (byt [j, 1]), false, 0⟩
def rwL (lo i : Nat) : List Bk := (List.range' lo (i - lo)).map rwB
theorem rwL_len (lo i : Nat) : (rwL lo i).length = i - lo := by simp [rwL]
theorem rwL_get {lo i t : Nat} (h : t < i - lo) : (rwL lo i)[t]? = some (rwB (lo + t)) := by
  unfold rwL
  rw [List.getElem?_map, List.getElem?_range' h]
  simp
theorem rwL_mem {lo i : Nat} {s : Bk} (h : s ∈ rwL lo i) : ∃ j, lo ≤ j ∧ j < i ∧ s = rwB j := by
  unfold rwL at h
  rw [List.mem_map] at h
  obtain ⟨j, hj, e⟩ := h
  rw [List.mem_range'_1] at hj
  exact ⟨j, hj.1, by omega, e.symm⟩
theorem rwL_in {lo i j : Nat} (h1 : lo ≤ j) (h2 : j < i) : rwB j ∈ rwL lo i := by
  unfold rwL
  rw [List.mem_map]
  exact ⟨j, by rw [List.mem_range'_1]; omega, rfl⟩
theorem rwB_key {j k : Nat} (h : (rwB j).key = (7, (k : Int))) : j = k := by
  have : (j : Int) = k := congrArg Prod.snd h
  omega
theorem rwL_succ {lo i : Nat} (h : lo ≤ i) : rwL lo (i + 1) = rwL lo i ++ [rwB i] := by
  unfold rwL
  rw [show i + 1 - lo = (i - lo) + 1 by omega, List.range'_1_concat, List.map_append, show lo + (i - lo) = i by omega]
  rfl
theorem rwL_cons {lo i : Nat} (h : lo < i) : rwL lo i = rwB lo :: rwL (lo + 1) i := by
  unfold rwL
  rw [show i - lo = (i - (lo + 1)) + 1 by omega, List.range'_succ]
  rfl
theorem rwL_nok {lo i k : Nat} (h : i ≤ k ∨ k < lo) : NoK (rwL lo i) (7, (k : Int)) := fun s hs => by
  obtain ⟨j, h1, h2, rfl⟩ := rwL_mem hs
  intro e
  have := rwB_key e
  omega
/-- A Put of the next one. -/
theorem rw_put (r lo i : Nat) (h1 : lo ≤ i) (h2 : i - lo ≤ r) (h3 : 0 < r) : putK r (rwL lo i) (7, (i : Int)) (byt [i, 1]) false = (rwL (if i - lo < r then lo else lo + 1) (i + 1), 0) := by
  unfold putK
  rw [if_neg (by rw [byt_len]; decide), findK_none (rwL_nok (.inl (Nat.le_refl _)))]
  by_cases h : i - lo < r
  · have hr : roomK r (rwL lo i) = (rwL lo i, true) := by
      unfold roomK
      rw [rwL_len, if_pos (by omega)]
    rw [hr, if_pos h, rwL_succ h1]
    rfl
  · have hlt : lo < i := by omega
    have hw : woK (rwL lo i) (rwB lo).key = rwL (lo + 1) i := by
      rw [rwL_cons hlt]
      have := woK_no (L := rwL (lo + 1) i) (p := (rwB lo).key) (rwL_nok (.inr (Nat.lt_succ_self _)))
      unfold woK at this ⊢
      rw [List.filter_cons_of_neg (by simp), this]
    have hr : roomK r (rwL lo i) = (rwL (lo + 1) i, true) := by
      unfold roomK
      rw [rwL_len, if_neg (by omega)]
      have hf : (rwL lo i).find? goK = some (rwB lo) := by
        rw [rwL_cons hlt, List.find?_cons_of_pos rfl]
      rw [hf]
      simp only
      rw [hw]
    rw [hr, if_neg h, rwL_succ (show lo + 1 ≤ i by omega)]
    rfl
/-- What stays while blocks are got: the same ones, and the last one got. -/
structure RwI (lo n : Nat) (L : List Bk) (last : Int) : Prop where
  len : L.length = n - lo
  all : ∀ s ∈ L, ∃ j, lo ≤ j ∧ j < n ∧ s = rwB j
  has : ∀ j, lo ≤ j → j < n → rwB j ∈ L
  end_ : last < 0 ∨ ∃ (L0 : List Bk) (j : Nat), last = (j : Int) ∧ L = L0 ++ [rwB j]
theorem RwI.start {lo n : Nat} : RwI lo n (rwL lo n) (-1) := ⟨rwL_len _ _, fun _ h => rwL_mem h, fun _ h1 h2 => rwL_in h1 h2, .inl (by decide)⟩
theorem find_only {L : List Bk} {p : Int × Int} {s : Bk} (hs : s ∈ L) (hk : s.key = p) (hu : ∀ t ∈ L, t.key = p → t = s) : findK L p = some s := by
  obtain ⟨t, ht⟩ := findK_some hs hk
  obtain ⟨h1, h2⟩ := findK_mem ht
  rw [ht, hu t h1 h2]
theorem wo_len : ∀ {L : List Bk} {p : Int × Int}, (L.map Bk.key).Nodup → (∃ s ∈ L, s.key = p) → (woK L p).length + 1 = L.length
  | [], _, _, ⟨s, hs, _⟩ => by cases hs
  | a :: L, p, hn, ⟨s, hs, hk⟩ => by
    rw [List.map_cons, List.nodup_cons] at hn
    by_cases e : a.key = p
    · have hno : NoK L p := fun t ht q => hn.1 (by rw [e, ← q]; exact List.mem_map_of_mem ht)
      have := woK_no hno
      unfold woK at this ⊢
      rw [List.filter_cons_of_neg (by simp [e]), this]
      rfl
    · have hs' : s ∈ L := by
        rcases List.mem_cons.1 hs with q | q
        · rw [q] at hk; exact absurd hk e
        · exact q
      have := wo_len hn.2 ⟨s, hs', hk⟩
      unfold woK at this ⊢
      rw [List.filter_cons_of_pos (by simp [e]), List.length_cons, List.length_cons, this]
theorem RwI.get {lo n : Nat} {L : List Bk} {last : Int} (h : RwI lo n L last) (hn : (L.map Bk.key).Nodup) {j : Nat} (h1 : lo ≤ j) (h2 : j < n) :
    getK L (7, (j : Int)) = (woK L (7, (j : Int)) ++ [rwB j], some (gd (byt [j, 1]))) ∧ RwI lo n (woK L (7, (j : Int)) ++ [rwB j]) (j : Int) := by
  have hf : findK L (7, (j : Int)) = some (rwB j) := find_only (h.has j h1 h2) rfl (fun t ht hk => by
    obtain ⟨i, _, _, rfl⟩ := h.all t ht
    rw [rwB_key hk])
  refine ⟨by unfold getK; rw [hf]; rfl, ?_, fun s hs => ?_, fun i h3 h4 => ?_, .inr ⟨_, j, rfl, rfl⟩⟩
  · have := wo_len hn ⟨rwB j, h.has j h1 h2, rfl⟩
    rw [List.length_append, ← h.len, ← this]
    rfl
  · rcases List.mem_append.1 hs with q | q
    · exact h.all s (woK_sub q)
    · exact ⟨j, h1, h2, by simpa using q⟩
  · by_cases e : i = j
    · rw [e]; simp
    · refine List.mem_append_left _ ?_
      unfold woK
      rw [List.mem_filter]
      exact ⟨h.has i h3 h4, by simpa using fun q => e (rwB_key q)⟩
end Go.Proofs.Ytdnkeplmjimjcaa
