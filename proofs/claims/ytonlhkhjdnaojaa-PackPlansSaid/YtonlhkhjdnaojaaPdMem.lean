/-
  The document's pieces in memory.
-/
import Derived.Test.YtonlhkhjdnaojaaPdFits
namespace Go.Proofs.Ytonlhkhjdnaojaa
open Go.RowKit

abbrev RPC := 43
theorem info_rpc : (Try.prog.info? RPC).map (fun i => (i.zero, i.size, i.bytes)) = some (some (.agg #[.bool false, .slice none 0 0]), 2, 32) := by kernel_rfl
def flat2 (n : Nat) (f : Nat → Value × Value) : List Value := (List.range n).flatMap fun i => [(f i).1, (f i).2]
theorem flat2_succ (n : Nat) (f : Nat → Value × Value) : flat2 (n + 1) f = flat2 n f ++ [(f n).1, (f n).2] := by simp [flat2, List.range_succ]
theorem flat2_len (n : Nat) (f : Nat → Value × Value) : (flat2 n f).length = n * 2 := by
  induction n with
  | zero => rfl
  | succ n ih => rw [flat2_succ, List.length_append, ih]; simp; omega
theorem flat2_congr (n : Nat) {f g : Nat → Value × Value} (h : ∀ i, i < n → f i = g i) : flat2 n f = flat2 n g := by
  induction n with
  | zero => rfl
  | succ n ih => rw [flat2_succ, flat2_succ, ih (fun i hi => h i (by omega)), h n (Nat.lt_succ_self _)]
theorem flat2_get {n : Nat} (f : Nat → Value × Value) : ∀ {i : Nat}, i < n → (flat2 n f)[i * 2]? = some (f i).1 ∧ (flat2 n f)[i * 2 + 1]? = some (f i).2 := by
  induction n with
  | zero => intro i hi; omega
  | succ n ih =>
    intro i hi
    have hl := flat2_len n f
    rw [flat2_succ]
    by_cases e : i = n
    · subst e
      rw [List.getElem?_append_right (by omega), List.getElem?_append_right (by omega), hl, Nat.sub_self, Nat.add_sub_cancel_left]
      exact ⟨rfl, rfl⟩
    · rw [List.getElem?_append_left (by omega), List.getElem?_append_left (by omega)]
      exact ih (by omega)
theorem flat2_set {n : Nat} (f g : Nat → Value × Value) {i : Nat} (v : Value) : i < n → (∀ j, j ≠ i → g j = f j) → g i = ((f i).1, v) → (flat2 n f).set (i * 2 + 1) v = flat2 n g := by
  induction n with
  | zero => intro hi; omega
  | succ n ih =>
    intro hi hne hat
    have hl := flat2_len n f
    rw [flat2_succ, flat2_succ]
    by_cases e : i = n
    · subst e
      rw [List.set_append_right _ _ (by omega), hl, Nat.add_sub_cancel_left, flat2_congr i (fun j hj => (hne j (by omega)).symm), hat]
      rfl
    · rw [List.set_append_left _ _ (by omega), ih (by omega) hne hat, hne n (fun e2 => e e2.symm)]
structure Rm (w : World) (base : Nat) (pv : Value) (sv : Nat → Value) (N : Nat) (nw : Nat → Bool) (it : Nat → List It) : Prop where
  row : w.ownsRow base RPC 2 pv N (flat2 N fun i => (.bool (nw i), sv i))
  its : ∀ i, i < N → w.ownsRow base ITM 2 (sv i) (it i).length (rowX (it i))
section
variable {w w' : World} {base N : Nat} {pv : Value} {sv : Nat → Value} {nw : Nat → Bool} {it : Nat → List It}
theorem Rm.later (h : Rm w base pv sv N nw it) (hb : Below w.heap.size w w') : Rm w' base pv sv N nw it := ⟨own_later h.row hb, fun i hi => own_later (h.its i hi) hb⟩
theorem rm_nil (w : World) (base : Nat) (nw : Nat → Bool) (it : Nat → List It) : Rm w base (.slice none 0 0) (fun _ => .slice none 0 0) 0 nw it := ⟨own_nil _ _ _ _, fun i hi => by omega⟩
theorem Rm.piece (h : Rm w base pv sv N nw it) {i : Nat} (hi : i < N) : ∃ g cap a c, pv = .slice (some ⟨g, 0, none⟩) N cap ∧ base ≤ g ∧ sv i = .slice a (it i).length c ∧ (a = none → (it i).length = 0 ∧ c = 0) ∧ ItR w a (it i) ∧ w.cell? ⟨g, i * 2, none⟩ = some (.bool (nw i)) ∧ w.cell? ⟨g, i * 2 + 1, none⟩ = some (sv i) ∧ ∀ j, w.frozen? ⟨g, j, none⟩ = false := by
  obtain ⟨g, cap, rfl, hb⟩ := own_some h.row (by omega)
  obtain ⟨q1, q2⟩ := flat2_get (fun i => (.bool (nw i), sv i)) hi
  have hi2 := h.its i hi
  obtain ⟨a, c, e, _⟩ := own_slice hi2
  have hi3 := hi2
  rw [e] at hi3
  exact ⟨g, cap, a, c, rfl, hb, e, own_none hi3, ItR.own hi3, by rw [h.row.cellAt _ (by omega)]; exact q1, by rw [h.row.cellAt _ (by omega)]; exact q2, fun j => h.row.frozenAt j⟩
/-- The items of piece i, anew. -/
theorem Rm.put (h : Rm w base pv sv N nw it) {i g cap : Nat} (hi : i < N) (hp : pv = .slice (some ⟨g, 0, none⟩) N cap) {v : Value} {l : List It} (hv : w.ownsRow base ITM 2 v l.length (rowX l)) :
    Rm (w.setCell ⟨g, i * 2 + 1, none⟩ v) base pv (upd sv i v) N nw (upd it i l) := by
  subst hp
  have hP : Out (fun q => q = g) w (w.setCell ⟨g, i * 2 + 1, none⟩ v) := out_put _ _ _ rfl
  have keep : ∀ {u : Value} {n : Nat} {xs : List Value}, w.ownsRow base ITM 2 u n xs → (w.setCell ⟨g, i * 2 + 1, none⟩ v).ownsRow base ITM 2 u n xs := fun hu => hP.own hu (fun q e1 e2 => own_apart hu h.row (by decide) q e1 (by rw [e2]; rfl))
  refine ⟨?_, fun j hj => ?_⟩
  · have := (h.row.stored (i * 2 + 1) v).1
    rw [flat2_set _ (fun j => (.bool (nw j), upd sv i v j)) v hi (fun j hj => by simp only [upd_ne _ _ _ hj]) (by simp only [upd_at])] at this
    exact this
  · by_cases e : j = i
    · subst e; rw [upd_at, upd_at]; exact keep hv
    · rw [upd_ne _ _ _ e, upd_ne _ _ _ e]; exact keep (h.its j hj)
/-- One piece more. -/
theorem Rm.next (h : Rm w base pv sv N nw it) {v' sl : Value} {b : Bool} {l : List It} (ho : w'.ownsRow base RPC 2 v' (N + 1) ((flat2 N fun i => (.bool (nw i), sv i)) ++ [.bool b, sl])) (hg : w.grownBy w' pv.ownBlock) (hs : w.ownsRow base ITM 2 sl l.length (rowX l)) :
    Rm w' base v' (upd sv N sl) (N + 1) (upd nw N b) (upd it N l) := by
  have hO : Out (fun g => pv.ownBlock = some g) w w' := Out.of_grown hg (fun g e => e)
  have keep : ∀ {u : Value} {n : Nat} {xs : List Value}, w.ownsRow base ITM 2 u n xs → w'.ownsRow base ITM 2 u n xs := fun hu => hO.own hu (fun q e1 e2 => own_apart hu h.row (by decide) q e1 e2)
  refine ⟨?_, fun j hj => ?_⟩
  · rw [flat2_succ, flat2_congr N (g := fun i => (.bool (nw i), sv i)) (fun i hi => by simp only [upd_ne _ _ _ (by omega : i ≠ N)])]
    simp only [upd_at]
    exact ho
  · by_cases e : j = N
    · subst e; rw [upd_at, upd_at]; exact keep hs
    · rw [upd_ne _ _ _ e, upd_ne _ _ _ e]; exact keep (h.its j (by omega))
end
/-- What fits, as the document reckons it. -/
theorem fitsL_fitsB {l : List It} {x : It} {left : Int} (h : (bs l).sm ≤ 30) : fitsL (l ++ [x]) left = fitsB (bs l) x left := by
  unfold fitsL fitsB
  rw [bs_snoc, List.length_append, List.length_singleton, bs_n]
  unfold bstep
  by_cases hx : x.f = 0
  · simp only [if_pos hx]
    rw [Bool.eq_iff_iff]
    simp only [Bool.and_eq_true, decide_eq_true_eq]
    omega
  · by_cases hl : (bs l).last = x.f
    · simp only [if_neg hx, if_pos hl]
      rw [Bool.eq_iff_iff]
      simp only [Bool.and_eq_true, decide_eq_true_eq]
      omega
    · simp only [if_neg hx, if_neg hl]
      rw [Bool.eq_iff_iff]
      simp only [Bool.and_eq_true, decide_eq_true_eq]
      omega
def smOk (l : List It) : Prop := ∀ k, k ≤ l.length → (bs (l.take k)).sm ≤ 30
theorem smOk_snoc {l : List It} {x : It} (h : smOk l) (hs : (bs (l ++ [x])).sm ≤ 30) : smOk (l ++ [x]) := fun k hk => by
  rw [List.length_append, List.length_singleton] at hk
  by_cases e : k = l.length + 1
  · rw [List.take_of_length_le (by simp; omega)]; exact hs
  · rw [List.take_append_of_le_length (by omega)]; exact h k (by omega)
end Go.Proofs.Ytonlhkhjdnaojaa
