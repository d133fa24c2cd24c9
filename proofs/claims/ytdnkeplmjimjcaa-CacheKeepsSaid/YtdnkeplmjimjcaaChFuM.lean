/-
  CacheFull's lists of blocks.
-/
import Derived.Test.YtdnkeplmjimjcaaChAwk
namespace Go.Proofs.Ytdnkeplmjimjcaa
open Go.RowKit

/-- No block of this key. -/
def NoK (L : List Bk) (p : Int × Int) : Prop := ∀ s ∈ L, s.key ≠ p
def NoG (L : List Bk) : Prop := ∀ s ∈ L, goK s = false
section
variable {L W : List Bk} {p q : Int × Int} {s : Bk}
theorem findK_none (h : NoK L p) : findK L p = none := by
  unfold findK
  rw [List.find?_eq_none]
  intro s hs
  simpa using h s hs
theorem findK_last (h : NoK W s.key) : findK (W ++ [s]) s.key = some s := by
  unfold findK
  rw [List.find?_append, show List.find? (fun t : Bk => decide (t.key = s.key)) W = none from findK_none h]
  simp
theorem woK_no (h : NoK L p) : woK L p = L := by
  unfold woK
  rw [List.filter_eq_self]
  intro s hs
  simpa using h s hs
theorem woK_last (h : NoK W s.key) : woK (W ++ [s]) s.key = W := by
  have := woK_no h
  unfold woK at this ⊢
  rw [List.filter_append, this]
  simp
theorem woK_nok (L : List Bk) (p : Int × Int) : NoK (woK L p) p := fun s hs => by
  unfold woK at hs
  simpa using (List.mem_filter.1 hs).2
theorem woK_sub {L : List Bk} {p : Int × Int} {s : Bk} (hs : s ∈ woK L p) : s ∈ L := (List.mem_filter.1 hs).1
theorem setK_last (h : NoK W s.key) (g : Bk → Bk) : setK (W ++ [s]) s.key g = W ++ [g s] := by
  unfold setK
  rw [List.map_append]
  congr 1
  · conv => rhs; rw [← List.map_id W]
    apply List.map_congr_left
    intro t ht
    rw [if_neg (h t ht)]
    rfl
  · simp
theorem find_nog (h : NoG L) : L.find? goK = none := by
  rw [List.find?_eq_none]
  intro s hs
  rw [h s hs]
  decide
theorem find_nog_last (h : NoG W) (hs : goK s = true) : (W ++ [s]).find? goK = some s := by
  rw [List.find?_append, find_nog h]
  simp [hs]
/-- The key's block, in the list. -/
theorem findK_mem (h : findK L p = some s) : s ∈ L ∧ s.key = p := by
  unfold findK at h
  exact ⟨List.mem_of_find?_eq_some h, by simpa using List.find?_some h⟩
theorem findK_some (hs : s ∈ L) (hp : s.key = p) : ∃ t, findK L p = some t := by
  cases hf : findK L p with
  | some t => exact ⟨t, rfl⟩
  | none =>
    unfold findK at hf
    exact absurd hp (by simpa using List.find?_eq_none.1 hf s hs)
end
theorem doK3 {L : List Bk} {p : Int × Int} {s : Bk} (h : findK L p = some s) : doK L 3 p = (setK L p (fun s => { s with dirty := false }), 0) := by unfold doK; rw [h]; rfl
theorem doK4 {L : List Bk} {p : Int × Int} {s : Bk} (h : findK L p = some s) : doK L 4 p = (setK L p (fun s => { s with pins := s.pins + 1 }), 0) := by unfold doK; rw [h]; rfl
theorem doK5 {L : List Bk} {p : Int × Int} {s : Bk} (h : findK L p = some s) (hs : s.pins ≠ 0) : doK L 5 p = (setK L p (fun s => { s with pins := s.pins - 1 }), 0) := by
  have : doK L 5 p = if s.pins = 0 then (L, 22) else (setK L p (fun s => { s with pins := s.pins - 1 }), 0) := by unfold doK; rw [h]; rfl
  rw [this, if_neg hs]
/-- All room taken. -/
def fuB (pin : Bool) (j : Nat) : Bk := ⟨(0, (j : Int)), gd (byt []), !pin, if pin then 1 else 0⟩
def fuL (pin : Bool) (i : Nat) : List Bk := (List.range i).map (fuB pin)
theorem fuL_len (pin : Bool) (i : Nat) : (fuL pin i).length = i := by simp [fuL]
theorem fuL_succ (pin : Bool) (i : Nat) : fuL pin (i + 1) = fuL pin i ++ [fuB pin i] := by simp [fuL, List.range_succ]
theorem fuL_key {pin : Bool} {i : Nat} {s : Bk} (h : s ∈ fuL pin i) : ∃ j, j < i ∧ s = fuB pin j := by
  unfold fuL at h
  simp at h
  obtain ⟨j, hj, e⟩ := h
  exact ⟨j, hj, e.symm⟩
theorem fuL_nok {pin : Bool} {i k : Nat} (h : i ≤ k) : NoK (fuL pin i) (0, (k : Int)) := fun s hs => by
  obtain ⟨j, hj, rfl⟩ := fuL_key hs
  unfold fuB
  intro e
  have : (j : Int) = k := congrArg Prod.snd e
  omega
theorem fuL_nog (pin : Bool) (i : Nat) : NoG (fuL pin i) := fun s hs => by
  obtain ⟨j, hj, rfl⟩ := fuL_key hs
  cases pin <;> rfl
theorem byt_len (l : List Nat) : (byt l).length = 64 := byt_length l
/-- A Put of the next one. -/
theorem fu_put (pin : Bool) (i r : Nat) (h : i < r) : putK r (fuL pin i) (0, (i : Int)) (byt []) (!pin) = (fuL pin i ++ [⟨(0, (i : Int)), gd (byt []), !pin, 0⟩], 0) := by
  have hr : roomK r (fuL pin i) = (fuL pin i, true) := by
    unfold roomK
    rw [fuL_len, if_pos (by omega)]
  unfold putK
  rw [if_neg (by rw [byt_len]; decide), findK_none (fuL_nok (Nat.le_refl _)), hr]
  rfl
theorem fu_pin (i : Nat) : doK (fuL true i ++ [⟨(0, (i : Int)), gd (byt []), false, 0⟩]) 4 (0, (i : Int)) = (fuL true (i + 1), 0) := by
  have hn : NoK (fuL true i) (Bk.mk (0, (i : Int)) (gd (byt [])) false 0).key := fuL_nok (Nat.le_refl _)
  have h1 := findK_last hn
  have h2 := setK_last hn (fun s => { s with pins := s.pins + 1 })
  rw [doK4 h1, fuL_succ]
  exact congrArg (fun q => (q, (0 : Int))) h2
theorem fu_full (pin : Bool) (r : Nat) : putK r (fuL pin r) (0, 1000) (byt []) false = (fuL pin r, 28) ∨ 1000 < r := by
  by_cases h : 1000 < r
  · exact .inr h
  · have hr : roomK r (fuL pin r) = (fuL pin r, false) := by
      unfold roomK
      rw [fuL_len, if_neg (by omega), find_nog (fuL_nog pin r)]
    left
    unfold putK
    rw [if_neg (by rw [byt_len]; decide), findK_none (by have := fuL_nok (pin := pin) (show r ≤ 1000 by omega); exact this), hr]
    rfl
/-- The list without one. -/
def fuW (pin : Bool) (r k : Nat) : List Bk := woK (fuL pin r) (0, (k : Int))
theorem fuW_nok (pin : Bool) (r k : Nat) : NoK (fuW pin r k) (0, (k : Int)) := woK_nok _ _
theorem fuW_no (pin : Bool) {r k q : Nat} (h : r ≤ q) : NoK (fuW pin r k) (0, (q : Int)) := fun s hs => fuL_nok h s (woK_sub hs)
theorem fuW_nog (pin : Bool) (r k : Nat) : NoG (fuW pin r k) := fun s hs => fuL_nog pin r s (woK_sub hs)
theorem fuW_len (pin : Bool) (r k : Nat) (h : k < r) : (fuW pin r k).length + 1 = r := by
  induction r with
  | zero => omega
  | succ r ih =>
    unfold fuW woK
    rw [fuL_succ, List.filter_append]
    by_cases e : k = r
    · subst e
      have h1 : List.filter (fun s => decide (s.key ≠ ((0 : Int), (k : Int)))) (fuL pin k) = fuL pin k := woK_no (fuL_nok (Nat.le_refl _))
      rw [h1]
      simp [fuB, fuL_len]
    · have := ih (by omega)
      unfold fuW woK at this
      have h2 : ¬ (r : Int) = (k : Int) := by omega
      simp [fuB, h2] at this ⊢
      omega
theorem fu_find (pin : Bool) {r k : Nat} (h : k < r) : findK (fuL pin r) (0, (k : Int)) = some (fuB pin k) := by
  obtain ⟨t, ht⟩ := findK_some (L := fuL pin r) (s := fuB pin k) (p := (0, (k : Int))) (by unfold fuL; simp; exact ⟨k, h, rfl⟩) rfl
  rw [ht]
  obtain ⟨h1, h2⟩ := findK_mem ht
  obtain ⟨j, hj, rfl⟩ := fuL_key h1
  have : (j : Int) = k := congrArg Prod.snd h2
  have : j = k := by omega
  rw [this]
/-- The one's block behind its Put. -/
def fuS (pin : Bool) (k : Nat) : Bk := ⟨(0, (k : Int)), gd (byt [3]), !pin || false, if pin then 1 else 0⟩
def fuT (k : Nat) : Bk := ⟨(0, (k : Int)), gd (byt [3]), false, 0⟩
def fuF : Bk := ⟨(0, 1000), gd (byt []), true, 0⟩
theorem fu_again (pin : Bool) {r k : Nat} (h : k < r) : putK r (fuL pin r) (0, (k : Int)) (byt [3]) false = (fuW pin r k ++ [fuS pin k], 0) := by
  unfold putK
  rw [if_neg (by rw [byt_len]; decide), fu_find pin h]
  rfl
theorem fu_clean (r k : Nat) : doK (fuW false r k ++ [fuS false k]) 3 (0, (k : Int)) = (fuW false r k ++ [fuT k], 0) := by
  have hn : NoK (fuW false r k) (fuS false k).key := fuW_nok _ _ _
  have h1 := findK_last hn
  have h2 := setK_last hn (fun s => { s with dirty := false })
  have e : (fuS false k).key = (0, (k : Int)) := rfl
  rw [e] at h1 h2
  rw [doK3 h1, h2]
  rfl
theorem fu_unpin (r k : Nat) : doK (fuW true r k ++ [fuS true k]) 5 (0, (k : Int)) = (fuW true r k ++ [fuT k], 0) := by
  have hn : NoK (fuW true r k) (fuS true k).key := fuW_nok _ _ _
  have h1 := findK_last hn
  have h2 := setK_last hn (fun s => { s with pins := s.pins - 1 })
  have e : (fuS true k).key = (0, (k : Int)) := rfl
  rw [e] at h1 h2
  rw [doK5 h1 (show (1 : Int) ≠ 0 by decide), h2]
  rfl
theorem fu_get (pin : Bool) (r k : Nat) : getK (fuW pin r k ++ [fuT k]) (0, (k : Int)) = (fuW pin r k ++ [fuT k], some (gd (byt [3]))) := by
  have hn : NoK (fuW pin r k) (fuT k).key := fuW_nok _ _ _
  have h1 := findK_last hn
  have h2 := woK_last hn
  have e : (fuT k).key = (0, (k : Int)) := rfl
  rw [e] at h1 h2
  unfold getK
  rw [h1]
  simp only
  rw [h2]
  rfl
theorem fu_in (pin : Bool) {r k : Nat} (h : k < r) (hr : r ≤ 1000) : putK r (fuW pin r k ++ [fuT k]) (0, 1000) (byt []) true = (fuW pin r k ++ [fuF], 0) := by
  have hl := fuW_len pin r k h
  have hn : NoK (fuW pin r k) (fuT k).key := fuW_nok _ _ _
  have h2 := woK_last hn
  have hk : roomK r (fuW pin r k ++ [fuT k]) = (fuW pin r k, true) := by
    unfold roomK
    rw [if_neg (by simp; omega), find_nog_last (fuW_nog pin r k) rfl]
    simp only
    rw [h2]
  have hno : NoK (fuW pin r k ++ [fuT k]) (0, 1000) := fun s hs => by
    rcases List.mem_append.1 hs with q | q
    · have := fuW_no pin (k := k) hr s q
      exact this
    · obtain rfl : s = fuT k := by simpa using q
      intro e
      have : (k : Int) = 1000 := congrArg Prod.snd e
      omega
  unfold putK
  rw [if_neg (by rw [byt_len]; decide), findK_none hno, hk]
  rfl
theorem fu_gone (pin : Bool) {r k : Nat} (h : k < r) (hr : r ≤ 1000) : getK (fuW pin r k ++ [fuF]) (0, (k : Int)) = (fuW pin r k ++ [fuF], none) := by
  have hno : NoK (fuW pin r k ++ [fuF]) (0, (k : Int)) := fun s hs => by
    rcases List.mem_append.1 hs with q | q
    · exact fuW_nok pin r k s q
    · obtain rfl : s = fuF := by simpa using q
      intro e
      have : (1000 : Int) = k := congrArg Prod.snd e
      omega
  unfold getK
  rw [findK_none hno]
theorem fu_len (pin : Bool) {r k : Nat} (h : k < r) (s : Bk) : (fuW pin r k ++ [s]).length = r := by
  have := fuW_len pin r k h
  simp
  omega
end Go.Proofs.Ytdnkeplmjimjcaa
