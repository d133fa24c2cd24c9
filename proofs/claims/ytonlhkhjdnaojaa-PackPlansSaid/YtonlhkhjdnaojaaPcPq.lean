/-
  Pack: the packer as the document's pieces at hand.
-/
import Derived.Test.YtonlhkhjdnaojaaPcCur
namespace Go.Proofs.Ytonlhkhjdnaojaa
open Go.RowKit

def blS (s : Pl) : Int := if s.N = 0 then 0 else 2 + ((s.it (s.N - 1)).length : Int)
def wdS (s : Pl) : Int := if s.N = 0 then 0 else ((bs (s.it (s.N - 1))).wd : Int)
def opS (s : Pl) : Bool := decide (0 < s.N)
def zS (s : Pl) : Nat → Pz := fun i => (bs (s.it i)).z
def Pq (w : World) (base g : Nat) (sz : Int) (I V : Nat → Int) (s : Pl) : Prop := ∃ pv fv av, Pk w base g sz s.left (blS s) (wdS s) (opS s) pv fv av I V s.N s.nw (zS s)
theorem Pq.later {w w' : World} {base g : Nat} {sz : Int} {I V : Nat → Int} {s : Pl} (h : Pq w base g sz I V s) (hb : Below w.heap.size w w') : Pq w' base g sz I V s := by
  obtain ⟨pv, fv, av, h⟩ := h
  exact ⟨pv, fv, av, h.later hb⟩
theorem PlOk.bd {sz : Int} {s : Pl} (h : PlOk sz s) : PkB sz s.left (blS s) (wdS s) := by
  have h1 := h.lf2
  have h2 := h.sz2
  have hb : 0 ≤ blS s ∧ blS s ≤ 66 ∧ 0 ≤ wdS s ∧ wdS s ≤ 88 := by
    unfold blS wdS
    by_cases e : s.N = 0
    · rw [if_pos e, if_pos e]; omega
    · rw [if_neg e, if_neg e]
      have := h.cur (by omega)
      omega
  exact ⟨h.sz1, h.sz2, h.lf1, by omega, hb.1, hb.2.1, hb.2.2.1, hb.2.2.2⟩
theorem left1_nx (s : Pl) : nxL s.left (blS s) (opS s) = left1 s := by
  unfold nxL opS left1 blS
  by_cases e : s.N = 0
  · simp [e]
  · have e2 : 0 < s.N := by omega
    simp [e, e2]
theorem zS_put (s : Pl) (x : It) : zS (pPut s x) = upd (zS s) (s.N - 1) (bstep (bs (s.it (s.N - 1))) x).z := by
  funext i
  show (bs (upd s.it (s.N - 1) (s.it (s.N - 1) ++ [x]) i)).z = _
  by_cases e : i = s.N - 1
  · subst e; rw [upd_at, upd_at, bs_snoc]
  · rw [upd_ne _ _ _ e, upd_ne _ _ _ e]; rfl
theorem zS_next (sz : Int) (s : Pl) (x : It) : zS (pNext sz s [x]) = upd (zS s) s.N (bstep bs0 x).z := by
  funext i
  show (bs (upd s.it s.N [x] i)).z = _
  by_cases e : i = s.N
  · subst e; rw [upd_at, upd_at]; rfl
  · rw [upd_ne _ _ _ e, upd_ne _ _ _ e]; rfl
theorem blS_put (s : Pl) (x : It) (h : 0 < s.N) : blS (pPut s x) = blS s + 1 := by
  have e1 : blS (pPut s x) = 2 + (((pPut s x).it ((pPut s x).N - 1)).length : Int) := if_neg (by show s.N ≠ 0; omega)
  have e2 : blS s = 2 + ((s.it (s.N - 1)).length : Int) := if_neg (by omega)
  rw [e1, e2, pPut_cur, List.length_append, List.length_singleton]
  omega
theorem wdS_put (s : Pl) (x : It) (h : 0 < s.N) : wdS (pPut s x) = ((bstep (bs (s.it (s.N - 1))) x).wd : Int) := by
  have e1 : wdS (pPut s x) = ((bs ((pPut s x).it ((pPut s x).N - 1))).wd : Int) := if_neg (by show s.N ≠ 0; omega)
  rw [e1, pPut_cur, bs_snoc]
theorem wdS_at (s : Pl) (h : 0 < s.N) : wdS s = ((bs (s.it (s.N - 1))).wd : Int) := if_neg (by omega)
theorem blS_next (sz : Int) (s : Pl) (x : It) : blS (pNext sz s [x]) = 3 := by
  have e1 : blS (pNext sz s [x]) = 2 + (((pNext sz s [x]).it ((pNext sz s [x]).N - 1)).length : Int) := if_neg (by show s.N + 1 ≠ 0; omega)
  rw [e1, pNext_cur]; rfl
theorem wdS_next (sz : Int) (s : Pl) (x : It) : wdS (pNext sz s [x]) = ((bstep bs0 x).wd : Int) := by
  have e1 : wdS (pNext sz s [x]) = ((bs ((pNext sz s [x]).it ((pNext sz s [x]).N - 1))).wd : Int) := if_neg (by show s.N + 1 ≠ 0; omega)
  rw [e1, pNext_cur]; rfl
/-- Does an item of c words fit? -/
theorem takeB_iff (s : Pl) (c : Nat) : takeB s.left (blS s) (wdS s) (opS s) c = (decide (0 < s.N) && decide (((bs (s.it (s.N - 1))).n : Int) + 3 ≤ s.left) && decide ((bs (s.it (s.N - 1))).wd + c ≤ 88)) := by
  unfold takeB opS
  by_cases e : s.N = 0
  · rw [decide_eq_false (show ¬ 0 < s.N by omega)]; rfl
  · rw [show blS s = 2 + ((s.it (s.N - 1)).length : Int) from if_neg e, wdS_at s (by omega), bs_n]
    rw [Bool.eq_iff_iff]
    simp only [Bool.and_eq_true, Bool.not_eq_true', decide_eq_true_eq, decide_eq_false_iff_not]
    omega
theorem fits_ino (s : Pl) (n : Int) : fitsP s ⟨0, n⟩ = takeB s.left (blS s) (wdS s) (opS s) 1 := by
  rw [show (1 : Int) = ((1 : Nat) : Int) from rfl, takeB_iff, Bool.and_assoc]
  rfl
theorem fits_new (s : Pl) (f : Nat) (n : Int) (hf : f ≠ 0) (hl : lastS s ≠ f) : fitsP s ⟨f, n⟩ = takeB s.left (blS s) (wdS s) (opS s) 6 := by
  rw [show (6 : Int) = ((6 : Nat) : Int) from rfl, takeB_iff, Bool.and_assoc]
  unfold fitsP fitsB
  rw [if_neg hf, if_neg (show ¬ (bs (s.it (s.N - 1))).last = f from hl)]
theorem fits_more (s : Pl) (f : Nat) (n : Int) (hf : f ≠ 0) (hl : lastS s = f) : fitsP s ⟨f, n⟩ = (decide ((bs (s.it (s.N - 1))).sm < 30) && takeB s.left (blS s) (wdS s) (opS s) 2) := by
  rw [show (2 : Int) = ((2 : Nat) : Int) from rfl, takeB_iff]
  unfold fitsP fitsB
  rw [if_neg hf, if_pos (show (bs (s.it (s.N - 1))).last = f from hl)]
  cases decide (0 < s.N) <;> cases decide (((bs (s.it (s.N - 1))).n : Int) + 3 ≤ s.left) <;> cases decide ((bs (s.it (s.N - 1))).sm < 30) <;> rfl
/-- What is asked of the new piece. -/
theorem take_first {sz : Int} {s : Pl} (h : PlOk sz s) (c : Int) (hc : c ≤ 78) : takeB (if left1 s < 3 then sz else left1 s) 2 10 true c = true ∧ PkB sz (if left1 s < 3 then sz else left1 s) 2 10 := by
  have h1 := left1_bd h
  have h2 := h.sz1
  have h3 := h.sz2
  have hL : 3 ≤ (if left1 s < 3 then sz else left1 s) ∧ (if left1 s < 3 then sz else left1 s) ≤ sz := by split <;> omega
  generalize (if left1 s < 3 then sz else left1 s) = L at *
  refine ⟨?_, ⟨h2, h3, by omega, by omega, by omega, by omega, by omega, by omega⟩⟩
  unfold takeB
  rw [decide_eq_false (by omega), decide_eq_false (by omega)]
  rfl
end Go.Proofs.Ytonlhkhjdnaojaa
