/-
  Pack: where an item has its place, and isn't yet put.
-/
import Derived.Test.YtonlhkhjdnaojaaPcAdd
namespace Go.Proofs.Ytonlhkhjdnaojaa
open Go.RowKit

theorem upd_upd {α : Type} (f : Nat → α) (i : Nat) (x y : α) : upd (upd f i x) i y = upd f i y := by
  funext j
  by_cases e : j = i
  · subst e; rw [upd_at, upd_at]
  · rw [upd_ne _ _ _ e, upd_ne _ _ _ e, upd_ne _ _ _ e]
/-- The pieces behind the item. -/
structure Tgt (sz : Int) (s : Pl) (x : It) (m : Nat) (lf bl wd : Int) (nw : Nat → Bool) (Z : Nat → Pz) (z : Pz) : Prop where
  N : (pstep sz s x).N = m + 1
  left : (pstep sz s x).left = lf
  bl : blS (pstep sz s x) = bl
  wd : wdS (pstep sz s x) = wd
  nw : (pstep sz s x).nw = nw
  Z : zS (pstep sz s x) = upd Z m z
/-- Its list stands. -/
abbrev EP := Value → (Nat → Value) → (Nat → Nat → Value) → Nat → (Nat → Pz) → World → Prop
def ET : EP := fun _ _ _ _ _ _ => True
/-- No row in block b; it holds o. -/
def EB (b : Nat) (o : Obj) : EP := fun pv fv av N Z wx => Ex b pv fv av N Z ∧ wx.heap[b]? = some o
def PreQ (E : EP) (base g : Nat) (sz : Int) (I V : Nat → Int) (s : Pl) (x : It) (w0 wx : World) : Prop :=
  ∃ m lf bl wd nw Z k, (∃ pv fv av, Pk wx base g sz lf bl wd true pv fv av I V (m + 1) nw Z ∧ E pv fv av (m + 1) Z wx) ∧ Below base w0 wx ∧ m ≤ 64 ∧ k ≤ (Z m).nf ∧ (Z m).nf ≤ 100 ∧ ((Z m).li k).length ≤ 100 ∧ (x.f = 0 → k = 0) ∧ (x.f ≠ 0 → k = (Z m).nf ∧ 0 < k) ∧ Tgt sz s x m lf bl wd nw Z (zAdd (Z m) k x.n)
/-- Its file is to come. -/
def PreF (E : EP) (base g : Nat) (sz : Int) (I V : Nat → Int) (s : Pl) (x : It) (w0 wx : World) : Prop :=
  ∃ m lf bl wd nw Z, (∃ pv fv av, Pk wx base g sz lf bl wd true pv fv av I V (m + 1) nw Z ∧ E pv fv av (m + 1) Z wx) ∧ Below base w0 wx ∧ m ≤ 64 ∧ (Z m).nf ≤ 99 ∧ Tgt sz s x m lf bl wd nw Z (zAdd (zNew (Z m) x.f) ((Z m).nf + 1) x.n)
section
variable {sz : Int} {s : Pl} {x : It} {w0 wx : World} {base g : Nat} {I V : Nat → Int} {pv : Value} {fv : Nat → Value} {av : Nat → Nat → Value} {E : EP}
theorem cur_few (h : PlOk sz s) (hN : 0 < s.N) : (bs (s.it (s.N - 1))).z.nf ≤ 64 ∧ ∀ k, ((bs (s.it (s.N - 1))).z.li k).length ≤ 64 := by
  have h1 := (h.cur hN).1
  have h2 := h.lf2
  have h3 := h.sz2
  have h4 := bs_ok (s.it (s.N - 1))
  have h5 := bs_n (s.it (s.N - 1))
  refine ⟨by have := h4.nf; omega, fun k => by have := h4.li k; omega⟩
theorem tgt_put (h : fitsP s x = true) {m : Nat} (hm : s.N = m + 1) {c : Int} (hc : ((bstep (bs (s.it (s.N - 1))) x).wd : Int) = wdS s + c) {z : Pz} (hz : (bstep (bs (s.it (s.N - 1))) x).z = z) : Tgt sz s x m s.left (blS s + 1) (wdS s + c) s.nw (zS s) z := by
  have e : pstep sz s x = pPut s x := by unfold pstep; rw [if_pos h]
  refine ⟨by rw [e]; exact hm, by rw [e]; rfl, by rw [e]; exact blS_put s x (by omega), by rw [e, wdS_put s x (by omega), hc], by rw [e]; rfl, ?_⟩
  rw [e, zS_put, hz, show s.N - 1 = m by omega]
theorem tgt_next (h : fitsP s x = false) {c : Int} (hc : ((bstep bs0 x).wd : Int) = 10 + c) {z : Pz} (hz : (bstep bs0 x).z = z) : Tgt sz s x s.N (if left1 s < 3 then sz else left1 s) (2 + 1) (10 + c) (upd s.nw s.N (decide (left1 s < 3))) (upd (zS s) s.N z0) z := by
  have e : pstep sz s x = pNext sz s [x] := by unfold pstep; rw [if_neg (by rw [h]; decide)]
  refine ⟨by rw [e]; rfl, by rw [e]; rfl, by rw [e]; exact blS_next sz s x, by rw [e, wdS_next, hc], by rw [e]; rfl, ?_⟩
  rw [e, zS_next, hz, upd_upd]
/-- An inode into the piece at hand. -/
theorem ino_put {n : Int} (hO : PlOk sz s) (h : fitsP s ⟨0, n⟩ = true) (hk : Pk wx base g sz s.left (blS s + 1) (wdS s + 1) true pv fv av I V s.N s.nw (zS s)) (hB : Below base w0 wx) : PreQ ET base g sz I V s ⟨0, n⟩ w0 wx := by
  have hN : 0 < s.N := by unfold fitsP at h; simp only [Bool.and_eq_true, decide_eq_true_eq] at h; exact h.1
  obtain ⟨m, hm⟩ : ∃ m, s.N = m + 1 := ⟨s.N - 1, by omega⟩
  have hf := cur_few hO hN
  have h64 := hO.n
  have hzm : zS s m = (bs (s.it (s.N - 1))).z := by show (bs (s.it m)).z = _; rw [show s.N - 1 = m by omega]
  refine ⟨m, _, _, _, _, _, 0, ⟨pv, fv, av, by rw [← hm]; exact ⟨hk, trivial⟩⟩, hB, by omega, Nat.zero_le _, by rw [hzm]; exact Nat.le_trans hf.1 (by decide), by rw [hzm]; exact Nat.le_trans (hf.2 0) (by decide), fun _ => rfl, fun e => absurd rfl e, ?_⟩
  rw [hzm]
  refine tgt_put h hm ?_ rfl
  rw [wdS_at s hN]
  show (((bs (s.it (s.N - 1))).wd + 1 : Nat) : Int) = _
  omega
theorem ino_next {n : Int} (hO : PlOk sz s) (h : fitsP s ⟨0, n⟩ = false) (hk : Pk wx base g sz (if left1 s < 3 then sz else left1 s) (2 + 1) (10 + 1) true pv fv av I V (s.N + 1) (upd s.nw s.N (decide (left1 s < 3))) (upd (zS s) s.N z0)) (hB : Below base w0 wx) : PreQ ET base g sz I V s ⟨0, n⟩ w0 wx := by
  have h64 := hO.n
  refine ⟨s.N, _, _, _, _, _, 0, ⟨pv, fv, av, hk, trivial⟩, hB, h64, Nat.zero_le _, by rw [upd_at]; decide, by rw [upd_at]; decide, fun _ => rfl, fun e => absurd rfl e, ?_⟩
  rw [upd_at]
  exact tgt_next h rfl rfl
/-- A block of the file at hand. -/
theorem more_put {f : Nat} {n : Int} (hf0 : f ≠ 0) (hl : lastS s = f) (hO : PlOk sz s) (h : fitsP s ⟨f, n⟩ = true) (hk : Pk wx base g sz s.left (blS s + 1) (wdS s + 2) true pv fv av I V s.N s.nw (zS s)) (hE : E pv fv av s.N (zS s) wx) (hB : Below base w0 wx) : PreQ E base g sz I V s ⟨f, n⟩ w0 wx := by
  have hN : 0 < s.N := by unfold fitsP at h; simp only [Bool.and_eq_true, decide_eq_true_eq] at h; exact h.1
  obtain ⟨m, hm⟩ : ∃ m, s.N = m + 1 := ⟨s.N - 1, by omega⟩
  have hf := cur_few hO hN
  have h64 := hO.n
  have hzm : zS s m = (bs (s.it (s.N - 1))).z := by show (bs (s.it m)).z = _; rw [show s.N - 1 = m by omega]
  have hl' : (bs (s.it (s.N - 1))).last = f := hl
  have hc := (bs_ok (s.it (s.N - 1))).cur (by rw [hl']; exact hf0)
  refine ⟨m, _, _, _, _, _, (bs (s.it (s.N - 1))).z.nf, ⟨pv, fv, av, by rw [← hm]; exact ⟨hk, hE⟩⟩, hB, by omega, by rw [hzm]; exact Nat.le_refl _, by rw [hzm]; exact Nat.le_trans hf.1 (by decide), by rw [hzm]; exact Nat.le_trans (hf.2 _) (by decide), fun e => absurd e hf0, fun _ => ⟨by rw [hzm], hc.1⟩, ?_⟩
  rw [hzm]
  refine tgt_put h hm ?_ ?_
  · rw [wdS_at s hN]
    unfold bstep
    rw [if_neg (show ¬ (⟨f, n⟩ : It).f = 0 from hf0), if_pos (show (bs (s.it (s.N - 1))).last = (⟨f, n⟩ : It).f from hl')]
    show (((bs (s.it (s.N - 1))).wd + 2 : Nat) : Int) = _
    omega
  · unfold bstep
    rw [if_neg (show ¬ (⟨f, n⟩ : It).f = 0 from hf0), if_pos (show (bs (s.it (s.N - 1))).last = (⟨f, n⟩ : It).f from hl')]
/-- The first block of a file in a piece. -/
theorem new_put {f : Nat} {n : Int} (hf0 : f ≠ 0) (hl : lastS s ≠ f) (hO : PlOk sz s) (h : fitsP s ⟨f, n⟩ = true) (hk : Pk wx base g sz s.left (blS s + 1) (wdS s + 6) true pv fv av I V s.N s.nw (zS s)) (hE : E pv fv av s.N (zS s) wx) (hB : Below base w0 wx) : PreF E base g sz I V s ⟨f, n⟩ w0 wx := by
  have hN : 0 < s.N := by unfold fitsP at h; simp only [Bool.and_eq_true, decide_eq_true_eq] at h; exact h.1
  obtain ⟨m, hm⟩ : ∃ m, s.N = m + 1 := ⟨s.N - 1, by omega⟩
  have hf := cur_few hO hN
  have h64 := hO.n
  have hzm : zS s m = (bs (s.it (s.N - 1))).z := by show (bs (s.it m)).z = _; rw [show s.N - 1 = m by omega]
  have hl' : ¬ (bs (s.it (s.N - 1))).last = f := hl
  refine ⟨m, _, _, _, _, _, ⟨pv, fv, av, by rw [← hm]; exact ⟨hk, hE⟩⟩, hB, by omega, by rw [hzm]; exact Nat.le_trans hf.1 (by decide), ?_⟩
  rw [hzm]
  refine tgt_put h hm ?_ ?_
  · rw [wdS_at s hN]
    unfold bstep
    rw [if_neg (show ¬ (⟨f, n⟩ : It).f = 0 from hf0), if_neg (show ¬ (bs (s.it (s.N - 1))).last = (⟨f, n⟩ : It).f from hl')]
    show (((bs (s.it (s.N - 1))).wd + 6 : Nat) : Int) = _
    omega
  · unfold bstep
    rw [if_neg (show ¬ (⟨f, n⟩ : It).f = 0 from hf0), if_neg (show ¬ (bs (s.it (s.N - 1))).last = (⟨f, n⟩ : It).f from hl')]
theorem new_next {f : Nat} {n : Int} (hf0 : f ≠ 0) (hO : PlOk sz s) (h : fitsP s ⟨f, n⟩ = false) (hk : Pk wx base g sz (if left1 s < 3 then sz else left1 s) (2 + 1) (10 + 6) true pv fv av I V (s.N + 1) (upd s.nw s.N (decide (left1 s < 3))) (upd (zS s) s.N z0)) (hE : E pv fv av (s.N + 1) (upd (zS s) s.N z0) wx) (hB : Below base w0 wx) : PreF E base g sz I V s ⟨f, n⟩ w0 wx := by
  have h64 := hO.n
  have e1 : bstep bs0 ⟨f, n⟩ = ⟨zAdd (zNew bs0.z f) (bs0.z.nf + 1) n, bs0.n + 1, f, bs0.wd + 6, 1⟩ := by
    unfold bstep
    rw [if_neg (show ¬ (⟨f, n⟩ : It).f = 0 from hf0), if_neg (show ¬ bs0.last = (⟨f, n⟩ : It).f from fun e => hf0 e.symm)]
  refine ⟨s.N, _, _, _, _, _, ⟨pv, fv, av, hk, hE⟩, hB, h64, by rw [upd_at]; decide, ?_⟩
  rw [upd_at]
  exact tgt_next h (by rw [e1]; rfl) (by rw [e1]; rfl)
/-- The item has been put. -/
theorem Tgt.done {m : Nat} {lf bl wd : Int} {nw : Nat → Bool} {Z : Nat → Pz} {z : Pz} (h : Tgt sz s x m lf bl wd nw Z z) (hk : Pk wx base g sz lf bl wd true pv fv av I V (m + 1) nw (upd Z m z)) : Pq wx base g sz I V (pstep sz s x) := by
  refine ⟨pv, fv, av, ?_⟩
  have e : opS (pstep sz s x) = true := by unfold opS; rw [h.N]; exact decide_eq_true (Nat.succ_pos m)
  rw [h.N, h.left, h.bl, h.wd, h.nw, h.Z, e]
  exact hk
end
end Go.Proofs.Ytonlhkhjdnaojaa
