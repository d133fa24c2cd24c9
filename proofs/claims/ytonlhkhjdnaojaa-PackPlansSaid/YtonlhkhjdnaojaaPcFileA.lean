/-
  Pack: file's calls, at the pieces.
-/
import Derived.Test.YtonlhkhjdnaojaaPcInode
namespace Go.Proofs.Ytonlhkhjdnaojaa
open Go.RowKit

def Pqe (E : EP) (w : World) (base g : Nat) (sz : Int) (I V : Nat → Int) (s : Pl) : Prop := ∃ pv fv av, Pk w base g sz s.left (blS s) (wdS s) (opS s) pv fv av I V s.N s.nw (zS s) ∧ E pv fv av s.N (zS s) w
def FreshE (E : EP) (base g : Nat) (sz : Int) (I V : Nat → Int) (s : Pl) (w0 wx : World) : Prop :=
  (∃ pv fv av, Pk wx base g sz (if left1 s < 3 then sz else left1 s) 2 10 true pv fv av I V (s.N + 1) (upd s.nw s.N (decide (left1 s < 3))) (upd (zS s) s.N z0) ∧ E pv fv av (s.N + 1) (upd (zS s) s.N z0) wx) ∧ Below base w0 wx
abbrev boxF (i v : Int) (a : Option Addr) (n c : Nat) : Obj := .cells #[.int .i64 i, .int .i64 v, .slice a n c] FN
theorem EB.stay {b : Nat} {o : Obj} {pv : Value} {fv : Nat → Value} {av : Nat → Nat → Value} {N : Nat} {Z : Nat → Pz} {w w' : World} (h : EB b o pv fv av N Z w) (hs : w'.heap[b]? = w.heap[b]?) : EB b o pv fv av N Z w' := ⟨h.1, hs.trans h.2⟩
theorem EB.lt {b : Nat} {o : Obj} {pv : Value} {fv : Nat → Value} {av : Nat → Nat → Value} {N : Nat} {Z : Nat → Pz} {w : World} (h : EB b o pv fv av N Z w) : b < w.heap.size := (Array.getElem?_eq_some_iff.1 h.2).1
section
variable {sz : Int} {s : Pl} {w0 w w' : World} {base g b : Nat} {I V : Nat → Int} {f : Nat} {y i0 v0 : Int} {a0 : Option Addr} {n0 c0 : Nat}
theorem EB.ne {pv : Value} {fv : Nat → Value} {av : Nat → Nat → Value} {N : Nat} {Z : Nat → Pz} {cs : Array Value} (h : EB b (boxF i0 v0 a0 n0 c0) pv fv av N Z w) (hg : Blo w g PK cs) : b ≠ g := fun e => by
  have h2 : Blo w b FN #[.int .i64 i0, .int .i64 v0, .slice a0 n0 c0] := h.2
  exact h2.apart hg (by decide) e
theorem Pqe.later (h : Pqe (EB b (boxF i0 v0 a0 n0 c0)) w base g sz I V s) (hb : Below w.heap.size w w') : Pqe (EB b (boxF i0 v0 a0 n0 c0)) w' base g sz I V s := by
  obtain ⟨pv, fv, av, h, hE⟩ := h
  exact ⟨pv, fv, av, h.later hb, hE.stay (hb.block b hE.lt)⟩
theorem PreQ.later {x : It} (h : PreQ (EB b (boxF i0 v0 a0 n0 c0)) base g sz I V s x w0 w) (hb : Below w.heap.size w w') (hw : base ≤ w0.heap.size) : PreQ (EB b (boxF i0 v0 a0 n0 c0)) base g sz I V s x w0 w' := by
  obtain ⟨m, lf, bl, wd, nw, Z, k, ⟨pv, fv, av, hk, hE⟩, hB, h1, h2⟩ := h
  exact ⟨m, lf, bl, wd, nw, Z, k, ⟨pv, fv, av, hk.later hb, hE.stay (hb.block b hE.lt)⟩, hB.trans (hb.mono (Nat.le_trans hw hB.size)), h1, h2⟩
theorem more_take (hf0 : f ≠ 0) (hl : lastS s = f) (hO : PlOk sz s) (h30 : (bs (s.it (s.N - 1))).sm < 30) (hq : Pqe (EB b (boxF i0 v0 a0 n0 c0)) w base g sz I V s) (hB : Below base w0 w) (hw : base ≤ w0.heap.size) :
    Calls Try.prog 30 #[.pointer (some ⟨g, 0, none⟩), .int .i64 2] w fun e w' => ∃ t, e = .returned (.bool t) ∧
      ((t = true ∧ PreQ (EB b (boxF i0 v0 a0 n0 c0)) base g sz I V s ⟨f, y⟩ w0 w') ∨ (t = false ∧ fitsP s ⟨f, y⟩ = false ∧ Pqe (EB b (boxF i0 v0 a0 n0 c0)) w' base g sz I V s ∧ Below base w0 w')) := by
  obtain ⟨pv, fv, av, hk, hE⟩ := hq
  have hw1 := Nat.le_trans hw hB.size
  have hne := hE.ne hk.top
  cases ht : takeB s.left (blS s) (wdS s) (opS s) 2 with
  | true => exact (take_t hk hO.bd 2 hw1 (by decide) ht).mono fun e w' ⟨h1, h2, h3, h4⟩ => ⟨true, h1, .inl ⟨rfl, more_put hf0 hl hO (by rw [fits_more s f y hf0 hl, ht, decide_eq_true h30]; rfl) h2 (hE.stay (h4.block b hE.lt hne)) (hB.trans h3)⟩⟩
  | false => exact (take_f hk hO.bd 2 hw1 (by decide) (by decide) ht).mono fun e w' ⟨h1, h2, h3, h4⟩ => ⟨false, h1, .inr ⟨rfl, by rw [fits_more s f y hf0 hl, ht, Bool.and_false], ⟨_, _, _, h2, hE.stay (h4.block b hE.lt hne)⟩, hB.trans h3⟩⟩
theorem new_take (hf0 : f ≠ 0) (hl : lastS s ≠ f) (hO : PlOk sz s) (hq : Pqe (EB b (boxF i0 v0 a0 n0 c0)) w base g sz I V s) (hB : Below base w0 w) (hw : base ≤ w0.heap.size) :
    Calls Try.prog 30 #[.pointer (some ⟨g, 0, none⟩), .int .i64 6] w fun e w' => ∃ t, e = .returned (.bool t) ∧
      ((t = true ∧ PreF (EB b (boxF i0 v0 a0 n0 c0)) base g sz I V s ⟨f, y⟩ w0 w') ∨ (t = false ∧ fitsP s ⟨f, y⟩ = false ∧ Pqe (EB b (boxF i0 v0 a0 n0 c0)) w' base g sz I V s ∧ Below base w0 w')) := by
  obtain ⟨pv, fv, av, hk, hE⟩ := hq
  have hw1 := Nat.le_trans hw hB.size
  have hne := hE.ne hk.top
  cases ht : takeB s.left (blS s) (wdS s) (opS s) 6 with
  | true => exact (take_t hk hO.bd 6 hw1 (by decide) ht).mono fun e w' ⟨h1, h2, h3, h4⟩ => ⟨true, h1, .inl ⟨rfl, new_put hf0 hl hO (by rw [fits_new s f y hf0 hl, ht]) h2 (hE.stay (h4.block b hE.lt hne)) (hB.trans h3)⟩⟩
  | false => exact (take_f hk hO.bd 6 hw1 (by decide) (by decide) ht).mono fun e w' ⟨h1, h2, h3, h4⟩ => ⟨false, h1, .inr ⟨rfl, by rw [fits_new s f y hf0 hl, ht], ⟨_, _, _, h2, hE.stay (h4.block b hE.lt hne)⟩, hB.trans h3⟩⟩
theorem pqe_next (hO : PlOk sz s) (hq : Pqe (EB b (boxF i0 v0 a0 n0 c0)) w base g sz I V s) (hB : Below base w0 w) (hw : base ≤ w0.heap.size) :
    Calls Try.prog 31 #[.pointer (some ⟨g, 0, none⟩)] w fun e w' => e = .returned (.tuple #[]) ∧ FreshE (EB b (boxF i0 v0 a0 n0 c0)) base g sz I V s w0 w' := by
  obtain ⟨pv, fv, av, hk, hE⟩ := hq
  have hw1 := Nat.le_trans hw hB.size
  have hne := hE.ne hk.top
  have := next_any hk hO.bd hw1 (by have := hO.n; omega)
  rw [left1_nx] at this
  exact this.mono fun e w' ⟨h1, ⟨p, f, a, h2, hX⟩, h3⟩ => ⟨h1, ⟨p, f, a, h2, by
    obtain ⟨q1, q2⟩ := hX b hE.lt hne hE.1
    exact ⟨q1, q2.trans hE.2⟩⟩, hB.trans h3⟩
theorem fresh_six (hf0 : f ≠ 0) (hO : PlOk sz s) (hn : fitsP s ⟨f, y⟩ = false) (hq : FreshE (EB b (boxF i0 v0 a0 n0 c0)) base g sz I V s w0 w) (hw : base ≤ w0.heap.size) :
    Calls Try.prog 30 #[.pointer (some ⟨g, 0, none⟩), .int .i64 6] w fun e w' => e = .returned (.bool true) ∧ PreF (EB b (boxF i0 v0 a0 n0 c0)) base g sz I V s ⟨f, y⟩ w0 w' := by
  obtain ⟨⟨pv, fv, av, hk, hE⟩, hB⟩ := hq
  have hw1 := Nat.le_trans hw hB.size
  have hne := hE.ne hk.top
  obtain ⟨h1, h2⟩ := take_first hO 6 (by decide)
  exact (take_t hk h2 6 hw1 (by decide) h1).mono fun e w' ⟨h1, h2, h3, h4⟩ => ⟨h1, new_next hf0 hO hn h2 (hE.stay (h4.block b hE.lt hne)) (hB.trans h3)⟩
/-- The list of the file at hand. -/
theorem current_len (hf0 : f ≠ 0) (hl : lastS s = f) (hN : 0 < s.N) (hO : PlOk sz s) (hq : Pqe (EB b (boxF i0 v0 a0 n0 c0)) w base g sz I V s) (hw : base ≤ w.heap.size) :
    ∃ gf q a c, (∀ W, Below w.heap.size w W → W.cell? ⟨gf, q * 3 + 2, none⟩ = some (.slice a (bs (s.it (s.N - 1))).sm c)) ∧
      Calls Try.prog 29 #[.pointer (some ⟨g, 0, none⟩)] w fun e w' => e = .returned (.pointer (some ⟨gf, q * 3, none⟩)) ∧ Below w.heap.size w w' := by
  obtain ⟨pv, fv, av, hk, hE⟩ := hq
  obtain ⟨m, hm⟩ : ∃ m, s.N = m + 1 := ⟨s.N - 1, by omega⟩
  have hf := cur_few hO hN
  have h64 := hO.n
  have hl' : (bs (s.it (s.N - 1))).last = f := hl
  have hc := (bs_ok (s.it (s.N - 1))).cur (by rw [hl']; exact hf0)
  have hzm : zS s m = (bs (s.it (s.N - 1))).z := by show (bs (s.it m)).z = _; rw [show s.N - 1 = m by omega]
  rw [hm] at hk
  obtain ⟨gp, cap, rfl, -, -, -, -, -, -⟩ := hk.pm.piece (Nat.lt_succ_self m)
  obtain ⟨q, hq⟩ : ∃ q, (zS s m).nf = q + 1 := ⟨(zS s m).nf - 1, by rw [hzm]; omega⟩
  obtain ⟨gf, cf, hfv, -, -, -, -, -, c2⟩ := hk.pm.file (Nat.lt_succ_self m) (k := q) (by omega)
  have hown := hk.pm.ints m (Nat.lt_succ_self m) (q + 1) (by omega)
  obtain ⟨a, c, hav, _⟩ := own_slice hown
  rw [hq] at hfv
  refine ⟨gf, q, a, c, fun W hb => ?_, current_any hk (by omega) hw hfv (by rw [hzm] at hq; omega)⟩
  rw [cell_later hb c2, hav, ← hq, hzm, hc.2.1]
theorem preF_done {E : EP} {m : Nat} {lf bl wd : Int} {nw : Nat → Bool} {Z : Nat → Pz} {pv : Value} {fv : Nat → Value} {av : Nat → Nat → Value} (hf0 : f ≠ 0) (hT : Tgt sz s ⟨f, y⟩ m lf bl wd nw Z (zAdd (zNew (Z m) f) ((Z m).nf + 1) y)) (hm : m ≤ 64) (hnf : (Z m).nf ≤ 99)
    (hk : Pk w base g sz lf bl wd true pv fv av I V (m + 1) nw (upd Z m (zNew (Z m) f))) (hE : E pv fv av (m + 1) (upd Z m (zNew (Z m) f)) w) (hB : Below base w0 w) : PreQ E base g sz I V s ⟨f, y⟩ w0 w := by
  refine ⟨m, lf, bl, wd, nw, _, (Z m).nf + 1, ⟨pv, fv, av, hk, hE⟩, hB, hm, by rw [upd_at]; exact Nat.le_refl _, by rw [upd_at]; show (Z m).nf + 1 ≤ 100; omega, ?_, fun e => absurd e hf0, fun _ => ⟨by rw [upd_at]; rfl, Nat.succ_pos _⟩, ?_⟩
  · rw [upd_at]
    show (upd (Z m).li ((Z m).nf + 1) [] ((Z m).nf + 1)).length ≤ 100
    rw [upd_at]; decide
  · exact ⟨hT.N, hT.left, hT.bl, hT.wd, hT.nw, by rw [upd_at, upd_upd]; exact hT.Z⟩
theorem Tgt.doneE {E : EP} {x : It} {m : Nat} {lf bl wd : Int} {nw : Nat → Bool} {Z : Nat → Pz} {z : Pz} {pv : Value} {fv : Nat → Value} {av : Nat → Nat → Value} (h : Tgt sz s x m lf bl wd nw Z z) (hk : Pk w base g sz lf bl wd true pv fv av I V (m + 1) nw (upd Z m z)) (hE : E pv fv av (m + 1) (upd Z m z) w) : Pqe E w base g sz I V (pstep sz s x) := by
  refine ⟨pv, fv, av, ?_⟩
  have e : opS (pstep sz s x) = true := by unfold opS; rw [h.N]; exact decide_eq_true (Nat.succ_pos m)
  rw [h.N, h.left, h.bl, h.wd, h.nw, h.Z, e]
  exact ⟨hk, hE⟩
end
end Go.Proofs.Ytonlhkhjdnaojaa
