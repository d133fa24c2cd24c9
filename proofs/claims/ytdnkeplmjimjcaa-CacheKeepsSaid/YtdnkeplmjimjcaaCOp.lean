/-
  The script of a law about the cache, as it came in.
-/
import Derived.Test.YtdnkeplmjimjcaaStructs
import Derived.Test.YtdnkeplmjimjcaaKMap
namespace Go.Proofs.Ytdnkeplmjimjcaa
open Go.RowKit

abbrev OpTy := 37
structure OpC where
  k : Int
  key : Int × Int
  b : List Nat
  raw : Bool
  dirty : Bool
def opC (ba : Option Addr) (bn bc : Nat) (x : OpC) : Array Value := #[.int .i64 x.k, .int .i64 x.key.1, .int .i64 x.key.2, .slice ba bn bc, .bool x.raw, .bool x.dirty]
structure OpCIs (w : World) (ba : Option Addr) (bn bc : Nat) (x : OpC) : Prop where
  b : BytesIn w ba bn bc x.b
  wf : wfK x.key
theorem BytesIn.below {w w' : World} {a : Option Addr} {n cap : Nat} {l : List Nat} (h : BytesIn w a n cap l) (hb : Below w.heap.size w w') : BytesIn w' a n cap l :=
  ⟨h.1, h.2.1.below hb, h.2.2.1, h.2.2.2.1, h.2.2.2.2⟩
theorem OpCIs.below {w w' : World} {ba : Option Addr} {bn bc : Nat} {x : OpC} (h : OpCIs w ba bn bc x) (hb : Below w.heap.size w w') : OpCIs w' ba bn bc x := ⟨h.b.below hb, h.wf⟩
/-- A script that came in. -/
def COps (w : World) (a : Option Addr) (len : Nat) (F : Nat → OpC) : Prop :=
  len ≤ 9223372036854775807 ∧ ∀ i, i < len → ∃ b o ba bn bc, a = some ⟨b, o, none⟩ ∧ OpCIs w ba bn bc (F i) ∧ ∀ j v, (opC ba bn bc (F i))[j]? = some v → w.cell? ⟨b, o + i * 6 + j, none⟩ = some v
theorem COps.below {w w' : World} {a : Option Addr} {len : Nat} {F : Nat → OpC} (h : COps w a len F) (hb : Below w.heap.size w w') : COps w' a len F :=
  ⟨h.1, fun i hi => by
    obtain ⟨b, o, ba, bn, bc, e, h1, h2⟩ := h.2 i hi
    exact ⟨b, o, ba, bn, bc, e, h1.below hb, fun j v hj => cell_later hb (h2 j v hj)⟩⟩
section
open Go.ChangeShapes Go.WideShapes Go.Deep
variable {H : Type} {enc : TypeId × Value → H} {w : World} {base : Nat} {held : Bool}
set_option maxRecDepth 100000 in
theorem cops_of_trod {fuel : Nat} {cs : List Value} {x : DataW H × List MemPlace}
    (h : DataW.trod enc Try.prog w base (fun _ => true) held fuel 22 cs = some x) (hw : ∀ q ∈ x.1.weights Try.prog 22, q ≤ reachBytes) :
    ∃ a len cap F, cs = [.slice a len cap] ∧ COps w a len F := by
  have hce : Try.prog.cellsOf OpTy = 6 := by kernel_rfl
  have hci : Try.prog.cellsOf 3 = 1 := by kernel_rfl
  have hck : Try.prog.cellsOf KT = 2 := by kernel_rfl
  have hcB : Try.prog.cellsOf 35 = 1 := by kernel_rfl
  have hcb : Try.prog.cellsOf 4 = 1 := by kernel_rfl
  obtain ⟨a, len, cap, rfl, hn, hl, hc, hi⟩ := open_structs Try.underlying22 Try.underlying37 h
  have key : ∀ i, i < len → ∃ p : OpC, ∃ b o ba bn bc, a = some ⟨b, o, none⟩ ∧ OpCIs w ba bn bc p ∧ ∀ j v, (opC ba bn bc p)[j]? = some v → w.cell? ⟨b, o + i * 6 + j, none⟩ = some v := by
    intro i hlt
    cases a with
    | none => have := (hn rfl).1; omega
    | some ad =>
      obtain ⟨C, hC, hcell, hf⟩ := hi ad rfl i hlt
      rw [hce] at hC hcell
      match C, hC with
      | [c0, c1, c2, c3, c4, c5], _ =>
        obtain ⟨y0, n0, t0, _⟩ := hf 0 _ rfl
        obtain ⟨y1, n1, t1, _⟩ := hf 1 _ rfl
        obtain ⟨y2, n2, t2, w2⟩ := hf 2 _ rfl
        obtain ⟨y3, n3, t3, _⟩ := hf 3 _ rfl
        obtain ⟨y4, n4, t4, _⟩ := hf 4 _ rfl
        have t0 : DataW.trod enc Try.prog w base (fun _ => true) held n0 3 (([c0, c1, c2, c3, c4, c5].drop 0).take (Try.prog.cellsOf 3)) = some y0 := t0
        have t1 : DataW.trod enc Try.prog w base (fun _ => true) held n1 KT (([c0, c1, c2, c3, c4, c5].drop 1).take (Try.prog.cellsOf KT)) = some y1 := t1
        have t2 : DataW.trod enc Try.prog w base (fun _ => true) held n2 35 (([c0, c1, c2, c3, c4, c5].drop 3).take (Try.prog.cellsOf 35)) = some y2 := t2
        have t3 : DataW.trod enc Try.prog w base (fun _ => true) held n3 4 (([c0, c1, c2, c3, c4, c5].drop 4).take (Try.prog.cellsOf 4)) = some y3 := t3
        have t4 : DataW.trod enc Try.prog w base (fun _ => true) held n4 4 (([c0, c1, c2, c3, c4, c5].drop 5).take (Try.prog.cellsOf 4)) = some y4 := t4
        rw [hci] at t0
        rw [hck] at t1
        rw [hcB] at t2
        rw [hcb] at t3 t4
        obtain ⟨xs, m', _, _, _, hxn, hel⟩ := DataW.trod_struct Try.underlying34 t1
        have u0 := hel 0 _ rfl
        have u1 := hel 1 _ rfl
        have u0 : DataW.trod enc Try.prog w base (fun _ => true) held m' 3 ((((([c0, c1, c2, c3, c4, c5].drop 1).take 2)).drop 0).take (Try.prog.cellsOf 3)) = xs[0]? := u0
        have u1 : DataW.trod enc Try.prog w base (fun _ => true) held m' 3 ((((([c0, c1, c2, c3, c4, c5].drop 1).take 2)).drop 1).take (Try.prog.cellsOf 3)) = xs[1]? := u1
        rw [hci] at u0 u1
        have hx2 : xs.length = 2 := hxn
        rw [List.getElem?_eq_getElem (by omega)] at u0 u1
        obtain ⟨x0, e0, _, _⟩ := DataW.trod_int Try.underlying3 t0
        obtain ⟨x1, e1, _, q1⟩ := DataW.trod_int Try.underlying3 u0
        obtain ⟨x2, e2, _, q2⟩ := DataW.trod_int Try.underlying3 u1
        obtain ⟨ba, bn, bc, l, e3, hB⟩ := bytesIn_of_trod Try.underlying35 Try.underlying5 (by kernel_rfl) (by kernel_rfl) t2 (fun q hq => hw q (w2 q hq))
        obtain ⟨x4, e4, _⟩ := DataW.trod_bool Try.underlying4 t3
        obtain ⟨x5, e5, _⟩ := DataW.trod_bool Try.underlying4 t4
        simp at e0 e1 e2 e3 e4 e5
        subst e0 e1 e2 e3 e4 e5
        obtain ⟨b, off, spot⟩ := ad
        have hspot : spot = none := by
          obtain ⟨C0, hC0, hcell0, _⟩ := hi ⟨b, off, spot⟩ rfl 0 (by omega)
          rw [hce] at hC0 hcell0
          have h0 := hcell0 0 C0[0] (List.getElem?_eq_getElem (by omega))
          simpa [Addr.add] using World.cell?_spot h0
        subst hspot
        refine ⟨⟨x0, (x1, x2), l, x4, x5⟩, b, off, ba, bn, bc, rfl, ⟨hB, q1, q2⟩, fun j v hj => ?_⟩
        rw [Nat.add_assoc, ← Go.WideShapes.add_plain]
        refine hcell j v ?_
        simpa [opC] using hj
  obtain ⟨F, hF⟩ : ∃ F : Nat → OpC, ∀ i, i < len → ∃ b o ba bn bc, a = some ⟨b, o, none⟩ ∧ OpCIs w ba bn bc (F i) ∧ ∀ j v, (opC ba bn bc (F i))[j]? = some v → w.cell? ⟨b, o + i * 6 + j, none⟩ = some v :=
    ⟨fun i => if h : i < len then Classical.choose (key i h) else ⟨0, (0, 0), [], false, false⟩, fun i h => by simp only [dif_pos h]; exact Classical.choose_spec (key i h)⟩
  exact ⟨a, len, cap, F, rfl, by omega, hF⟩
end
end Go.Proofs.Ytdnkeplmjimjcaa
