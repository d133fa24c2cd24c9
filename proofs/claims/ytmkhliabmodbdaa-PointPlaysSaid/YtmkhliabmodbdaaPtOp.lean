/-
  A call of the points' script, as it came in.
-/
import Derived.Test.YtmkhliabmodbdaaDkOp
import Derived.Test.YtmkhliabmodbdaaPtEq
namespace Go.Proofs.Ytmkhliabmodbdaa
open Go.RowKit

structure OpP where
  k : Int
  n : Int
  s : Int
  p : Pt
  b : List Nat
  keep : List Bool
def opP (ba : Option Addr) (bn bc : Nat) (ka : Option Addr) (kn kc : Nat) (x : OpP) : Array Value := #[.int .i64 x.k, .int .i64 x.n, .int .i64 x.s, .int .i64 x.p.e, .int .i64 x.p.c, .int .i64 x.p.n, .int .i64 x.p.f, .slice ba bn bc, .slice ka kn kc]
structure OpPs (w : World) (ba : Option Addr) (bn bc : Nat) (ka : Option Addr) (kn kc : Nat) (x : OpP) : Prop where
  b : BytesIn w ba bn bc x.b
  keep : BoolsIn w ka kn kc x.keep
  hi : x.n ≤ 9223372036854775807
  fit : FitP x.p
theorem OpPs.below {w w' : World} {ba : Option Addr} {bn bc : Nat} {ka : Option Addr} {kn kc : Nat} {x : OpP} (h : OpPs w ba bn bc ka kn kc x) (hb : Below w.heap.size w w') : OpPs w' ba bn bc ka kn kc x :=
  ⟨h.b.below hb, h.keep.below hb, h.hi, h.fit⟩
/-- A script that came in. -/
def OpsP (w : World) (a : Option Addr) (len : Nat) (F : Nat → OpP) : Prop :=
  len ≤ 9223372036854775807 ∧ ∀ i, i < len → ∃ b o ba bn bc ka kn kc, a = some ⟨b, o, none⟩ ∧ OpPs w ba bn bc ka kn kc (F i) ∧ ∀ j v, (opP ba bn bc ka kn kc (F i))[j]? = some v → w.cell? ⟨b, o + i * 9 + j, none⟩ = some v
section
open Go.ChangeShapes Go.WideShapes Go.Deep
variable {H : Type} {enc : TypeId × Value → H} {P : Program} {w : World} {base : Nat} {held : Bool}
/-- A struct of four integers. -/
theorem four_of_trod {e ti : TypeId} {fuel : Nat} {cs : List Value} {x : DataW H × List MemPlace} {f0 f1 f2 f3 : Field} (he : P.underlying e = some (.struct #[f0, f1, f2, f3]))
    (g0 : f0.type = ti ∧ f0.offset = 0) (g1 : f1.type = ti ∧ f1.offset = 1) (g2 : f2.type = ti ∧ f2.offset = 2) (g3 : f3.type = ti ∧ f3.offset = 3) (hti : P.underlying ti = some (.int .i64)) (hci : P.cellsOf ti = 1) (hl : cs.length = 4)
    (h : DataW.trod enc P w base (fun _ => true) held fuel e cs = some x) : ∃ a b c d : Int, cs = [.int .i64 a, .int .i64 b, .int .i64 c, .int .i64 d] ∧ (Lit.int .i64 a).wf = true ∧ (Lit.int .i64 b).wf = true ∧ (Lit.int .i64 c).wf = true ∧ (Lit.int .i64 d).wf = true := by
  match cs, hl with
  | [c0, c1, c2, c3], _ =>
    obtain ⟨xs, m', _, hx, _, hn, hel⟩ := DataW.trod_struct he h
    have t0 := hel 0 f0 rfl
    have t1 := hel 1 f1 rfl
    have t2 := hel 2 f2 rfl
    have t3 := hel 3 f3 rfl
    have hn4 : xs.length = 4 := by simpa using hn
    rw [List.getElem?_eq_getElem (by omega), g0.1, g0.2, hci] at t0
    rw [List.getElem?_eq_getElem (by omega), g1.1, g1.2, hci] at t1
    rw [List.getElem?_eq_getElem (by omega), g2.1, g2.2, hci] at t2
    rw [List.getElem?_eq_getElem (by omega), g3.1, g3.2, hci] at t3
    obtain ⟨x0, e0, _, q0⟩ := DataW.trod_int hti t0
    obtain ⟨x1, e1, _, q1⟩ := DataW.trod_int hti t1
    obtain ⟨x2, e2, _, q2⟩ := DataW.trod_int hti t2
    obtain ⟨x3, e3, _, q3⟩ := DataW.trod_int hti t3
    simp at e0 e1 e2 e3
    subst e0 e1 e2 e3
    exact ⟨_, _, _, _, rfl, q0, q1, q2, q3⟩
theorem opsP_of_trod {t e ti tb tB tK tP : TypeId} {fuel : Nat} {cs : List Value} {x : DataW H × List MemPlace} {f0 f1 f2 f3 f4 f5 h0 h1 h2 h3 : Field}
    (ht : P.underlying t = some (.slice e)) (he : P.underlying e = some (.struct #[f0, f1, f2, f3, f4, f5])) (hce : P.cellsOf e = 9)
    (g0 : f0.type = ti ∧ f0.offset = 0) (g1 : f1.type = ti ∧ f1.offset = 1) (g2 : f2.type = ti ∧ f2.offset = 2) (g3 : f3.type = tP ∧ f3.offset = 3) (g4 : f4.type = tB ∧ f4.offset = 7) (g5 : f5.type = tK ∧ f5.offset = 8)
    (hP : P.underlying tP = some (.struct #[h0, h1, h2, h3])) (hcP : P.cellsOf tP = 4) (p0 : h0.type = ti ∧ h0.offset = 0) (p1 : h1.type = ti ∧ h1.offset = 1) (p2 : h2.type = ti ∧ h2.offset = 2) (p3 : h3.type = ti ∧ h3.offset = 3)
    (hti : P.underlying ti = some (.int .i64)) (hci : P.cellsOf ti = 1) (htb : P.underlying tb = some .bool) (hcb : P.cellsOf tb = 1) (hbb : P.bytesOf tb = 1) {u : TypeId} (htB : P.underlying tB = some (.slice u)) (hcB : P.cellsOf tB = 1) (hu : P.underlying u = some (.int .u8)) (hcu : P.cellsOf u = 1) (hbu : P.bytesOf u = 1)
    (htK : P.underlying tK = some (.slice tb)) (hcK : P.cellsOf tK = 1)
    (h : DataW.trod enc P w base (fun _ => true) held fuel t cs = some x) (hw : ∀ q ∈ x.1.weights P t, q ≤ reachBytes) :
    ∃ a len cap F, cs = [.slice a len cap] ∧ OpsP w a len F := by
  obtain ⟨a, len, cap, rfl, hn, hl, hc, hi⟩ := open_structs ht he h
  have key : ∀ i, i < len → ∃ p : OpP, ∃ b o ba bn bc ka kn kc, a = some ⟨b, o, none⟩ ∧ OpPs w ba bn bc ka kn kc p ∧ ∀ j v, (opP ba bn bc ka kn kc p)[j]? = some v → w.cell? ⟨b, o + i * 9 + j, none⟩ = some v := by
    intro i hlt
    cases a with
    | none => have := (hn rfl).1; omega
    | some ad =>
      obtain ⟨C, hC, hcell, hf⟩ := hi ad rfl i hlt
      rw [hce] at hC hcell
      match C, hC with
      | [c0, c1, c2, c3, c4, c5, c6, c7, c8], _ =>
        obtain ⟨y0, n0, t0, _⟩ := hf 0 f0 rfl
        obtain ⟨y1, n1, t1, _⟩ := hf 1 f1 rfl
        obtain ⟨y2, n2, t2, _⟩ := hf 2 f2 rfl
        obtain ⟨y3, n3, t3, _⟩ := hf 3 f3 rfl
        obtain ⟨y4, n4, t4, w4⟩ := hf 4 f4 rfl
        obtain ⟨y5, n5, t5, w5⟩ := hf 5 f5 rfl
        rw [g0.1, g0.2, hci] at t0
        rw [g1.1, g1.2, hci] at t1
        rw [g2.1, g2.2, hci] at t2
        rw [g3.1, g3.2, hcP] at t3
        rw [g4.1, g4.2, hcB] at t4
        rw [g5.1, g5.2, hcK] at t5
        rw [g4.1] at w4
        rw [g5.1] at w5
        obtain ⟨x0, e0, _, _⟩ := DataW.trod_int hti t0
        obtain ⟨x1, e1, _, q1⟩ := DataW.trod_int hti t1
        obtain ⟨x2, e2, _, _⟩ := DataW.trod_int hti t2
        obtain ⟨pe, pc, pn, pf, e3, u0, u1, u2, u3⟩ := four_of_trod hP p0 p1 p2 p3 hti hci (by simp) t3
        obtain ⟨ba, bn, bc, l, e4, hB⟩ := bytesIn_of_trod htB hu hcu hbu t4 (fun q hq => hw q (w4 q hq))
        obtain ⟨ka, kn, kc, kl, e5, hK⟩ := boolsIn_of_trod htK htb hcb hbb t5 (fun q hq => hw q (w5 q hq))
        simp at e0 e1 e2 e3 e4 e5
        obtain ⟨e3, e6, e7, e8⟩ := e3
        subst e0 e1 e2 e3 e4 e5 e6 e7 e8
        obtain ⟨b, off, spot⟩ := ad
        have hspot : spot = none := by
          obtain ⟨C0, hC0, hcell0, _⟩ := hi ⟨b, off, spot⟩ rfl 0 (by omega)
          rw [hce] at hC0 hcell0
          have h0 := hcell0 0 C0[0] (List.getElem?_eq_getElem (by omega))
          simpa [Addr.add] using World.cell?_spot h0
        subst hspot
        refine ⟨⟨x0, x1, x2, ⟨pe, pc, pn, pf⟩, l, kl⟩, b, off, ba, bn, bc, ka, kn, kc, rfl, ⟨hB, hK, (wf_bounds q1).2, ⟨wf_bounds u0, wf_bounds u1, wf_bounds u2, wf_bounds u3⟩⟩, fun j v hj => ?_⟩
        rw [Nat.add_assoc, ← Go.WideShapes.add_plain]
        refine hcell j v ?_
        simpa [opP] using hj
  obtain ⟨F, hF⟩ : ∃ F : Nat → OpP, ∀ i, i < len → ∃ b o ba bn bc ka kn kc, a = some ⟨b, o, none⟩ ∧ OpPs w ba bn bc ka kn kc (F i) ∧ ∀ j v, (opP ba bn bc ka kn kc (F i))[j]? = some v → w.cell? ⟨b, o + i * 9 + j, none⟩ = some v :=
    ⟨fun i => if h : i < len then Classical.choose (key i h) else ⟨0, 0, 0, ⟨0, 0, 0, 0⟩, [], []⟩, fun i h => by simp only [dif_pos h]; exact Classical.choose_spec (key i h)⟩
  exact ⟨a, len, cap, F, rfl, by omega, hF⟩
end
end Go.Proofs.Ytmkhliabmodbdaa
