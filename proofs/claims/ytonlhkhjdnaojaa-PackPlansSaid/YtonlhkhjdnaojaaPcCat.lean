/-
  Pack: the pieces' items, one behind the other, are those that were handed in; what fits into one piece.
-/
import Derived.Test.YtonlhkhjdnaojaaPcRes
namespace Go.Proofs.Ytonlhkhjdnaojaa
open Go.RowKit

def catI (N : Nat) (it : Nat → List It) : List It := (List.range N).flatMap it
theorem catI_succ (N : Nat) (it : Nat → List It) : catI (N + 1) it = catI N it ++ it N := by simp [catI, List.range_succ]
theorem catI_congr (N : Nat) {f g : Nat → List It} (h : ∀ i, i < N → f i = g i) : catI N f = catI N g := by
  induction N with
  | zero => rfl
  | succ n ih => rw [catI_succ, catI_succ, ih (fun i hi => h i (by omega)), h n (Nat.lt_succ_self n)]
theorem pstep_cat (sz : Int) (s : Pl) (x : It) : catI (pstep sz s x).N (pstep sz s x).it = catI s.N s.it ++ [x] := by
  unfold pstep
  split
  · next hf =>
    unfold fitsP at hf
    simp only [Bool.and_eq_true, decide_eq_true_eq] at hf
    obtain ⟨m, hm⟩ : ∃ m, s.N = m + 1 := ⟨s.N - 1, by omega⟩
    show catI s.N (upd s.it (s.N - 1) (s.it (s.N - 1) ++ [x])) = _
    rw [hm, Nat.add_sub_cancel, catI_succ, catI_succ, upd_at, catI_congr m (fun i hi => upd_ne _ _ _ (by omega)), List.append_assoc]
  · show catI (s.N + 1) (upd s.it s.N [x]) = _
    rw [catI_succ, upd_at, catI_congr s.N (fun i hi => upd_ne _ _ _ (by omega))]
theorem runP_cat {sz : Int} : ∀ (L : List It) {s s' : Pl}, runP sz s L = some s' → catI s'.N s'.it = catI s.N s.it ++ L
  | [], s, s', e => by cases e; simp
  | x :: L, s, s', e => by
    rw [runP] at e
    split at e
    · rw [runP_cat L e, pstep_cat, List.append_assoc]; rfl
    · cases e
theorem pstep_N (sz : Int) (s : Pl) (x : It) : s.N ≤ (pstep sz s x).N ∧ (pstep sz s x).N ≤ s.N + 1 := by
  unfold pstep
  split
  · exact ⟨Nat.le_refl _, Nat.le_succ _⟩
  · exact ⟨Nat.le_succ _, Nat.le_refl _⟩
theorem runP_short {sz : Int} : ∀ (L : List It) (s : Pl), s.N + L.length ≤ 64 → ∃ s', runP sz s L = some s' ∧ s.N ≤ s'.N
  | [], s, _ => ⟨s, rfl, Nat.le_refl _⟩
  | x :: L, s, h => by
    have h1 := pstep_N sz s x
    rw [List.length_cons] at h
    obtain ⟨s', h2, h3⟩ := runP_short L (pstep sz s x) (by omega)
    exact ⟨s', by rw [runP, if_pos (by omega)]; exact h2, by omega⟩
/-- All comes into one piece. -/
theorem runP_one {sz : Int} (L : List It) (hsz : 8 ≤ sz) (hne : L ≠ []) (hn : (L.length : Int) + 2 ≤ sz) (hw : ∀ k, 0 < k → k < L.length → ∀ x, L[k]? = some x → fitsB (bs (L.take k)) x sz = true) :
    ∃ s, runP sz (p0 sz) L = some s ∧ s.N = 1 := by
  have key : ∀ k, 0 < k → k ≤ L.length → ∃ s, runP sz (p0 sz) (L.take k) = some s ∧ s.N = 1 ∧ s.left = sz ∧ s.it 0 = L.take k := by
    intro k
    induction k with
    | zero => intro h; omega
    | succ k ih =>
      intro _ hk
      have hx : ∃ x, L[k]? = some x := ⟨L[k], List.getElem?_eq_getElem (by omega)⟩
      obtain ⟨x, hx⟩ := hx
      have ht : L.take (k + 1) = L.take k ++ [x] := by rw [List.take_add_one, hx]; rfl
      rw [ht]
      by_cases hk0 : k = 0
      · subst hk0
        have e : pstep sz (p0 sz) x = pNext sz (p0 sz) [x] := by
          unfold pstep
          rw [if_neg (show ¬ fitsP (p0 sz) x = true from fun h => by cases h)]
        refine ⟨pNext sz (p0 sz) [x], ?_, rfl, ?_, ?_⟩
        · rw [List.take_zero, List.nil_append, runP, e, if_pos (by show 0 + 1 ≤ 64; omega)]; rfl
        · show (if left1 (p0 sz) < 3 then sz else left1 (p0 sz)) = sz
          have : left1 (p0 sz) = sz := rfl
          rw [this]; split <;> rfl
        · show upd (fun _ => []) 0 [x] 0 = _
          rw [upd_at]; rfl
      · obtain ⟨s, h1, h2, h3, h4⟩ := ih (by omega) (by omega)
        have hf : fitsP s x = true := by
          unfold fitsP
          rw [h2, h3, h4]
          exact hw k (by omega) (by omega) x hx
        have e : pstep sz s x = pPut s x := by unfold pstep; rw [if_pos hf]
        refine ⟨pPut s x, ?_, h2, h3, ?_⟩
        · rw [runP_append, h1]
          show runP sz s [x] = _
          rw [runP, e, if_pos (by show s.N ≤ 64; omega)]; rfl
        · show upd s.it (s.N - 1) (s.it (s.N - 1) ++ [x]) 0 = _
          rw [h2, upd_at, h4]
  obtain ⟨s, h1, h2, -, -⟩ := key L.length (List.length_pos_iff.2 hne) (Nat.le_refl _)
  rw [List.take_length] at h1
  exact ⟨s, h1, h2⟩
/-! a blocks of one file, b inodes. -/
def itsOne (a b : Nat) : List It := (List.range a).map (fun i => ⟨1, (i : Int)⟩) ++ (List.range b).map (fun i => ⟨0, ((i + 1 : Nat) : Int)⟩)
theorem bs_one (a b : Nat) : (bs (itsOne a b)).n = a + b ∧ (bs (itsOne a b)).wd = 10 + (if 0 < a then 4 + 2 * a else 0) + b ∧ (b = 0 → (bs (itsOne a b)).sm = a ∧ (0 < a → (bs (itsOne a b)).last = 1) ∧ (a = 0 → (bs (itsOne a b)).last = 0)) := by
  induction b with
  | zero =>
    induction a with
    | zero => exact ⟨rfl, rfl, fun _ => ⟨rfl, fun h => absurd h (Nat.lt_irrefl 0), fun _ => rfl⟩⟩
    | succ a ih =>
      have e : itsOne (a + 1) 0 = itsOne a 0 ++ [⟨1, (a : Int)⟩] := by simp [itsOne, List.range_succ]
      obtain ⟨h1, h2, h3⟩ := ih
      obtain ⟨h3, h4, h5⟩ := h3 rfl
      rw [e, bs_snoc]
      unfold bstep
      rw [if_neg (show ¬ (⟨1, (a : Int)⟩ : It).f = 0 from Nat.one_ne_zero)]
      by_cases ha : 0 < a
      · rw [if_pos (show (bs (itsOne a 0)).last = (⟨1, (a : Int)⟩ : It).f from h4 ha)]
        refine ⟨by show (bs (itsOne a 0)).n + 1 = _; rw [h1], ?_, fun _ => ⟨by show (bs (itsOne a 0)).sm + 1 = _; rw [h3], fun _ => rfl, fun h => by omega⟩⟩
        show (bs (itsOne a 0)).wd + 2 = _
        rw [h2, if_pos ha, if_pos (by omega)]; omega
      · have ha0 : a = 0 := by omega
        rw [if_neg (show ¬ (bs (itsOne a 0)).last = (⟨1, (a : Int)⟩ : It).f from by rw [h5 ha0]; exact Nat.zero_ne_one)]
        refine ⟨by show (bs (itsOne a 0)).n + 1 = _; rw [h1], ?_, fun _ => ⟨by show 1 = _; omega, fun _ => rfl, fun h => by omega⟩⟩
        show (bs (itsOne a 0)).wd + 6 = _
        rw [h2, if_neg ha, if_pos (by omega)]; omega
  | succ b ih =>
    have e : itsOne a (b + 1) = itsOne a b ++ [⟨0, ((b + 1 : Nat) : Int)⟩] := by simp [itsOne, List.range_succ]
    obtain ⟨h1, h2, -⟩ := ih
    rw [e, bs_snoc]
    unfold bstep
    rw [if_pos (show (⟨0, ((b + 1 : Nat) : Int)⟩ : It).f = 0 from rfl)]
    refine ⟨by show (bs (itsOne a b)).n + 1 = _; rw [h1]; omega, by show (bs (itsOne a b)).wd + 1 = _; rw [h2]; omega, fun h => by omega⟩
theorem itsOne_len (a b : Nat) : (itsOne a b).length = a + b := by simp [itsOne]
theorem itsOne_take (a b k : Nat) (hk : k ≤ a + b) : (itsOne a b).take k = if k ≤ a then itsOne k 0 else itsOne a (k - a) := by
  unfold itsOne
  rw [List.take_append, List.length_map, List.length_range]
  split
  · next h => rw [show k - a = 0 by omega, ← List.map_take, List.take_range, Nat.min_eq_left h]; simp
  · next h => rw [List.take_of_length_le (by simp; omega), ← List.map_take, List.take_range, Nat.min_eq_left (by omega)]
theorem one_fits (a b : Nat) (sz : Int) (ha : a ≤ 30) (h1 : ((a + b : Nat) : Int) + 2 ≤ sz) (h2 : 10 + (if 0 < a then 4 + 2 * a else 0) + b ≤ 88) : ∀ k, 0 < k → k < (itsOne a b).length → ∀ x, (itsOne a b)[k]? = some x → fitsB (bs ((itsOne a b).take k)) x sz = true := by
  intro k hk0 hk x hx
  rw [itsOne_len] at hk
  rw [itsOne_take a b k (by omega)]
  unfold fitsB
  by_cases hka : k < a
  · have e : x = ⟨1, (k : Int)⟩ := by
      unfold itsOne at hx
      rw [List.getElem?_append_left (by simpa using hka), List.getElem?_map, List.getElem?_range hka] at hx
      exact (Option.some.inj hx).symm
    subst e
    rw [if_pos (by omega)]
    obtain ⟨q1, q2, q3⟩ := bs_one k 0
    obtain ⟨q3, q4, -⟩ := q3 rfl
    rw [if_neg (show ¬ (⟨1, (k : Int)⟩ : It).f = 0 from Nat.one_ne_zero), if_pos (show (bs (itsOne k 0)).last = (⟨1, (k : Int)⟩ : It).f from q4 hk0), q1, q2, q3, if_pos hk0]
    rw [if_pos (by omega)] at h2
    simp only [Bool.and_eq_true, decide_eq_true_eq]
    omega
  · have e : x = ⟨0, ((k - a + 1 : Nat) : Int)⟩ := by
      unfold itsOne at hx
      rw [List.getElem?_append_right (by simpa using hka), List.getElem?_map, List.length_map, List.length_range, List.getElem?_range (by omega)] at hx
      exact (Option.some.inj hx).symm
    subst e
    have eb : (if k ≤ a then itsOne k 0 else itsOne a (k - a)) = itsOne a (k - a) := by
      split
      · next h => rw [show k = a by omega, Nat.sub_self]
      · rfl
    rw [eb]
    obtain ⟨q1, q2, -⟩ := bs_one a (k - a)
    rw [if_pos (show (⟨0, ((k - a + 1 : Nat) : Int)⟩ : It).f = 0 from rfl), q1, q2]
    simp only [Bool.and_eq_true, decide_eq_true_eq]
    omega
theorem one_answer (a b : Nat) (sz : Int) (ha : a ≤ 30) (hb : b ≤ 19) (h8 : 8 ≤ sz) (h64 : sz ≤ 64) :
    resC (runP sz (p0 sz) (itsOne a b)) = 0 ∧ (resN (runP sz (p0 sz) (itsOne a b)) = 0 ↔ a + b = 0) ∧ (resN (runP sz (p0 sz) (itsOne a b)) ≤ 1 ↔ (((2 + a + b : Nat) : Int) ≤ sz ∧ 10 + (if 0 < a then 4 + 2 * a else 0) + b ≤ 88) ∨ a + b = 0) := by
  have hlen := itsOne_len a b
  obtain ⟨s, hr, -⟩ := runP_short (sz := sz) (itsOne a b) (p0 sz) (by show 0 + _ ≤ 64; rw [hlen]; omega)
  have hbad : ¬ badP sz sz := by unfold badP; omega
  have hOk := runP_ok _ (p0_ok sz sz hbad) hr
  have hcat := runP_cat _ hr
  rw [hr]
  refine ⟨rfl, ⟨fun h => ?_, fun h => ?_⟩, ⟨fun h => ?_, fun h => ?_⟩⟩
  · have h0 : s.N = 0 := h
    rw [h0] at hcat
    have : itsOne a b = [] := by simpa [catI, p0] using hcat.symm
    rw [this] at hlen
    simpa using hlen.symm
  · have : itsOne a b = [] := List.eq_nil_of_length_eq_zero (by rw [hlen]; exact h)
    rw [this] at hr
    cases hr
    rfl
  · have h1 : s.N ≤ 1 := h
    rcases Nat.eq_zero_or_pos s.N with h0 | h0
    · right
      rw [h0] at hcat
      have : itsOne a b = [] := by simpa [catI, p0] using hcat.symm
      rw [this] at hlen
      simpa using hlen.symm
    · left
      have h1' : s.N = 1 := by omega
      have hc := hOk.cur h0
      rw [h1'] at hcat hc
      have e : s.it 0 = itsOne a b := by simpa [catI, p0] using hcat
      rw [show 1 - 1 = 0 from rfl, e, hlen, (bs_one a b).2.1] at hc
      have := hOk.lf2
      omega
  · rcases h with ⟨h1, h2⟩ | h0
    · by_cases hne : itsOne a b = []
      · rw [hne] at hr; cases hr; exact Nat.zero_le _
      · obtain ⟨s2, h3, h4⟩ := runP_one (itsOne a b) h8 hne (by rw [hlen]; omega) (one_fits a b sz ha (by omega) h2)
        rw [hr] at h3
        cases h3
        exact Nat.le_of_eq h4
    · have : itsOne a b = [] := List.eq_nil_of_length_eq_zero (by rw [hlen]; exact h0)
      rw [this] at hr
      cases hr
      exact Nat.zero_le _
end Go.Proofs.Ytonlhkhjdnaojaa
