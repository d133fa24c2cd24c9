/-
  What lies in memory while the document reads a summary.
-/
import Derived.Test.YtkdjfhbdcfjnnaaSwAt
import Derived.Test.YtkdjfhbdcfjnnaaSwParM
namespace Go.Proofs.Ytkdjfhbdcfjnnaa
open Go.RowKit

abbrev zP7 : Array Value := #[.int .i64 0, .int .i64 0, .int .i64 0, .int .i64 0, .int .i64 0, .slice none 0 0, .slice none 0 0]
/-- The result's box, the part that is built, the words. -/
structure Dr (w : World) (W : List Nat) (e c i p x : Int) (P : Nat) (fv iv wv : Value) (wr : World) : Prop where
  res : Blo wr w.heap.size 25 zP7
  pt : Blo wr P 25 #[.int .i64 e, .int .i64 c, .int .i64 i, .int .i64 p, .int .i64 x, fv, iv]
  row : wr.ownsRow (P + 1) U8 1 wv 88 (cellsB W)
  below : Below w.heap.size w wr
  lo : w.heap.size < P
section
variable {w wr w' : World} {W : List Nat} {e c i p x : Int} {P : Nat} {fv iv wv : Value} {X : Nat → Prop}
theorem Dr.out (h : Dr w W e c i p x P fv iv wv wr) (hb : Out X wr w') (hX : ∀ g, X g → P < g ∧ wv.ownBlock ≠ some g) : Dr w W e c i p x P fv iv wv w' := by
  have hl := h.lo
  exact ⟨hb.blo h.res (fun hx => by have := (hX _ hx).1; omega), hb.blo h.pt (fun hx => by have := (hX _ hx).1; omega), hb.own h.row (fun g e hx => (hX g hx).2 e), h.below.trans (hb.below h.below.size (fun g _ hg => by have := (hX g hg).1; omega)), hl⟩
theorem Dr.later (h : Dr w W e c i p x P fv iv wv wr) (hb : Below wr.heap.size wr w') : Dr w W e c i p x P fv iv wv w' := h.out (Out.of_below (X := fun _ => False) hb) (fun _ h => h.elim)
theorem Dr.drew (h : Dr w W e c i p x P fv iv wv wr) : Dr w W e c i p x P fv iv wv wr.drew := h.later ((Below.refl _ wr).drew)
theorem Dr.rowP (h : Dr w W e c i p x P fv iv wv wr) : wv.ownBlock ≠ some P := fun e => by have := (oblo h.row e).1; omega
theorem Dr.put (h : Dr w W e c i p x P fv iv wv wr) (k : Nat) (u : Value) : Blo (wr.setCell ⟨P, k, none⟩ u) w.heap.size 25 zP7 ∧ (wr.setCell ⟨P, k, none⟩ u).ownsRow (P + 1) U8 1 wv 88 (cellsB W) ∧ Below w.heap.size w (wr.setCell ⟨P, k, none⟩ u) := by
  have hl := h.lo
  exact ⟨h.res.far (by show _ ≠ P; omega) u, own_far h.row (p := ⟨P, k, none⟩) (fun e => h.rowP e.symm) u, h.below.setCell (p := ⟨P, k, none⟩) (by show _ ≤ P; omega) u⟩
theorem Dr.put2 (h : Dr w W e c i p x P fv iv wv wr) (u : Int) : Dr w W e c u p x P fv iv wv (wr.setCell ⟨P, 2, none⟩ (.int .i64 u)) := ⟨(h.put 2 _).1, h.pt.put 2 _, (h.put 2 _).2.1, (h.put 2 _).2.2, h.lo⟩
theorem Dr.put3 (h : Dr w W e c i p x P fv iv wv wr) (u : Int) : Dr w W e c i u x P fv iv wv (wr.setCell ⟨P, 3, none⟩ (.int .i64 u)) := ⟨(h.put 3 _).1, h.pt.put 3 _, (h.put 3 _).2.1, (h.put 3 _).2.2, h.lo⟩
theorem Dr.put4 (h : Dr w W e c i p x P fv iv wv wr) (u : Int) : Dr w W e c i p u P fv iv wv (wr.setCell ⟨P, 4, none⟩ (.int .i64 u)) := ⟨(h.put 4 _).1, h.pt.put 4 _, (h.put 4 _).2.1, (h.put 4 _).2.2, h.lo⟩
theorem Dr.put5 (h : Dr w W e c i p x P fv iv wv wr) (u : Value) : Dr w W e c i p x P u iv wv (wr.setCell ⟨P, 5, none⟩ u) := ⟨(h.put 5 _).1, h.pt.put 5 _, (h.put 5 _).2.1, (h.put 5 _).2.2, h.lo⟩
theorem Dr.put6 (h : Dr w W e c i p x P fv iv wv wr) (u : Value) : Dr w W e c i p x P fv u wv (wr.setCell ⟨P, 6, none⟩ u) := ⟨(h.put 6 _).1, h.pt.put 6 _, (h.put 6 _).2.1, (h.put 6 _).2.2, h.lo⟩
theorem Dr.lt (h : Dr w W e c i p x P fv iv wv wr) : ∀ g, wv.ownBlock = some g → g < wr.heap.size := fun g e => (oblo h.row e).2.1
end
section
variable {w z0 z1 z2 z3 : World} {W : List Nat} {e c i p x : Int} {P : Nat} {fv iv wv : Value}
theorem inner_endD {FB k j : Nat} {av : Nat → Value} {fs : List Fi} {a0 a1 u : Value} {xs ys : List Int} {v v' : Value} {E : Obj} (hP : Dr w W e c i p x P fv iv wv z1) (hPF : P < FB) (hwF : ∀ g, wv.ownBlock = some g → g < FB) (hX : Blo z1 FB FN #[a0, a1, v]) (hO : z1.ownsRow (FB + 1) IT 1 v j (cellsI xs)) (hF : Fo z1 (P + 1) fv av fs k) (hl : FoLt FB fv av k)
    (hr : z3.ownsRow (FB + 1) IT 1 v' (j + 1) (cellsI xs ++ [u])) (hg : (z1.alloc E).grownBy z3 v.ownBlock) (hys : cellsI ys = cellsI xs ++ [u]) :
    Dr w W e c i p x P fv iv wv (z3.setCell ⟨FB, 2, none⟩ v') ∧ Blo (z3.setCell ⟨FB, 2, none⟩ v') FB FN #[a0, a1, v'] ∧ (z3.setCell ⟨FB, 2, none⟩ v').ownsRow (FB + 1) IT 1 v' (j + 1) (cellsI ys) ∧ Fo (z3.setCell ⟨FB, 2, none⟩ v') (P + 1) fv av fs k := by
  have o1 : Out (fun g => FB ≤ g) z1 (z1.alloc E) := Out.of_below (sup_pc z1 E)
  have o2 : Out (fun g => FB ≤ g) (z1.alloc E) z3 := Out.of_grown hg (fun g e => by have := (oblo hO e).1; omega)
  have o3 : Out (fun g => FB ≤ g) z3 (z3.setCell ⟨FB, 2, none⟩ v') := out_put z3 ⟨FB, 2, none⟩ v' (Nat.le_refl _)
  have o4 := (o1.trans o2 (fun _ _ h => h)).trans o3 (fun _ _ h => h)
  have hX3 : Blo z3 FB FN #[a0, a1, v] := (hX.alloc E).grown hg (fun e => by have := (oblo hO e.symm).1; omega)
  refine ⟨hP.out o4 (fun g hg => ⟨by omega, fun e => by have := hwF g e; omega⟩), hX3.put 2 v', ?_, hF.outB hl o4 (fun g hg => .inr hg)⟩
  rw [hys]
  exact own_far hr (p := ⟨FB, 2, none⟩) (fun e => by have h5 := (oblo hr e.symm).1; simp at h5; omega) v'
theorem file_endD {FB k nl : Nat} {av : Nat → Value} {fs : List Fi} {la : Option Addr} {lc : Nat} {v' : Value} {f : Fi} (hP : Dr w W e c i p x P fv iv wv z0) (hPF : P < FB) (hO : z0.ownsRow (FB + 1) IT 1 (.slice la nl lc) nl (cellsI f.lb)) (hF : Fo z0 (P + 1) fv av fs k) (hf : fs.getD k fi0 = f) (hnl : f.lb.length = nl) (hz : P < z0.heap.size)
    (hl : FoLt FB fv av k) (hs : SepAv av k) (hr : z2.ownsRow (P + 1) FN 3 v' (k + 1) (flo fs av k ++ [.int .i64 f.ino, .int .i64 f.ver, .slice la nl lc])) (hg : (z0.alloc (.cells #[.int .i64 f.ino, .int .i64 f.ver, .slice la nl lc] FN)).grownBy z2 fv.ownBlock) :
    Dr w W e c i p x P v' iv wv (z2.setCell ⟨P, 5, none⟩ v') ∧ (∃ av', Fo (z2.setCell ⟨P, 5, none⟩ v') (P + 1) v' av' fs (k + 1) ∧ SepAv av' (k + 1)) ∧ P < (z2.setCell ⟨P, 5, none⟩ v').heap.size := by
  have hb := sup_pc z0 (.cells #[.int .i64 f.ino, .int .i64 f.ver, .slice la nl lc] FN)
  have F1 := hF.later hb
  have F2 := F1.next (v' := v') (u := .slice la nl lc) (by rw [hf]; exact hr) hg (by rw [hf, hnl]; exact own_weak (own_later hO hb) (by omega))
  have P1 := hP.later hb
  have o2 : Out (fun g => fv.ownBlock = some g) (z0.alloc (.cells #[.int .i64 f.ino, .int .i64 f.ver, .slice la nl lc] FN)) z2 := Out.of_grown hg (fun g e => e)
  refine ⟨(P1.out o2 (fun g hg => ⟨by have := (oblo F1.row hg).1; omega, fun e => by
    obtain ⟨-, -, c1, b1⟩ := oblo F1.row hg
    obtain ⟨-, -, c2, b2⟩ := oblo P1.row e
    exact b1.apart b2 (by decide) rfl⟩)).put5 v', ⟨_, F2.out (out_put z2 ⟨P, 5, none⟩ v' (X := fun g => g = P) rfl) (fun g e _ => by omega), hs.next (fv := fv) hl.2 hO⟩, ?_⟩
  rw [World.size_setCell]
  have := hb.size
  have := hg.size
  omega
theorem ino_endD {SB k j : Nat} {av : Nat → Value} {fs : List Fi} {u : Value} {xs ys : List Int} {v' : Value} {E : Obj} (hP : Dr w W e c i p x P fv iv wv z1) (hPF : P < SB) (hO : z1.ownsRow SB IT 1 iv j (cellsI xs)) (hF : Fo z1 (P + 1) fv av fs k) (hl : FoLt SB fv av k) (hwS : ∀ g, wv.ownBlock = some g → g < SB)
    (hr : z3.ownsRow SB IT 1 v' (j + 1) (cellsI xs ++ [u])) (hg : (z1.alloc E).grownBy z3 iv.ownBlock) (hys : cellsI ys = cellsI xs ++ [u]) :
    Dr w W e c i p x P fv v' wv (z3.setCell ⟨P, 6, none⟩ v') ∧ (z3.setCell ⟨P, 6, none⟩ v').ownsRow SB IT 1 v' (j + 1) (cellsI ys) ∧ Fo (z3.setCell ⟨P, 6, none⟩ v') (P + 1) fv av fs k := by
  have o1 : Out (fun g => SB ≤ g) z1 (z1.alloc E) := Out.of_below (sup_pc z1 E)
  have o2 : Out (fun g => SB ≤ g) (z1.alloc E) z3 := Out.of_grown hg (fun g e => (oblo hO e).1)
  have o4 := o1.trans o2 (fun _ _ h => h)
  refine ⟨(hP.out o4 (fun g hg => ⟨by omega, fun e => by have := hwS g e; omega⟩)).put6 v', ?_, (hF.outB hl o4 (fun g hg => .inr hg)).out (out_put z3 ⟨P, 6, none⟩ v' (X := fun g => g = P) rfl) (fun g e _ => by omega)⟩
  rw [hys]
  exact own_far hr (p := ⟨P, 6, none⟩) (fun e => by have h5 := (oblo hr e.symm).1; simp at h5; omega) v'
end
end Go.Proofs.Ytkdjfhbdcfjnnaa
