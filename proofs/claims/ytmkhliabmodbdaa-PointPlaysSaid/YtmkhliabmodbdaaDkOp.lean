/-
  A call of the script, as it came in.
-/
import Derived.Test.YtmkhliabmodbdaaStructs
import Derived.Test.YtmkhliabmodbdaaBools
import Derived.Test.YtmkhliabmodbdaaPairs
namespace Go.Proofs.Ytmkhliabmodbdaa
open Go.RowKit

def BoolsIn (w : World) (a : Option Addr) (n cap : Nat) (l : List Bool) : Prop := n = l.length ∧ Bools w a l ∧ (a = none → n = 0 ∧ cap = 0) ∧ n ≤ 140737488351232
structure OpT where
  k : Int
  n : Int
  s : Int
  b : List Nat
  raw : Bool
  keep : List Bool
def opA (ba : Option Addr) (bn bc : Nat) (ka : Option Addr) (kn kc : Nat) (x : OpT) : Array Value := #[.int .i64 x.k, .int .i64 x.n, .int .i64 x.s, .slice ba bn bc, .bool x.raw, .slice ka kn kc]
structure OpIs (w : World) (ba : Option Addr) (bn bc : Nat) (ka : Option Addr) (kn kc : Nat) (x : OpT) : Prop where
  b : BytesIn w ba bn bc x.b
  keep : BoolsIn w ka kn kc x.keep
  hi : x.n ≤ 9223372036854775807
theorem BytesIn.below {w w' : World} {a : Option Addr} {n cap : Nat} {l : List Nat} (h : BytesIn w a n cap l) (hb : Below w.heap.size w w') : BytesIn w' a n cap l :=
  ⟨h.1, h.2.1.below hb, h.2.2.1, h.2.2.2.1, h.2.2.2.2⟩
theorem BoolsIn.below {w w' : World} {a : Option Addr} {n cap : Nat} {l : List Bool} (h : BoolsIn w a n cap l) (hb : Below w.heap.size w w') : BoolsIn w' a n cap l :=
  ⟨h.1, h.2.1.below hb, h.2.2.1, h.2.2.2⟩
theorem OpIs.below {w w' : World} {ba : Option Addr} {bn bc : Nat} {ka : Option Addr} {kn kc : Nat} {x : OpT} (h : OpIs w ba bn bc ka kn kc x) (hb : Below w.heap.size w w') : OpIs w' ba bn bc ka kn kc x :=
  ⟨h.b.below hb, h.keep.below hb, h.hi⟩
/-- A script that came in. -/
def Ops (w : World) (a : Option Addr) (len : Nat) (F : Nat → OpT) : Prop :=
  len ≤ 9223372036854775807 ∧ ∀ i, i < len → ∃ b o ba bn bc ka kn kc, a = some ⟨b, o, none⟩ ∧ OpIs w ba bn bc ka kn kc (F i) ∧ ∀ j v, (opA ba bn bc ka kn kc (F i))[j]? = some v → w.cell? ⟨b, o + i * 6 + j, none⟩ = some v
section
open Go.ChangeShapes Go.WideShapes Go.Deep
variable {H : Type} {enc : TypeId × Value → H} {P : Program} {w : World} {base : Nat} {held : Bool}
theorem boolsIn_of_trod {t e : TypeId} {fuel : Nat} {cs : List Value} {x : DataW H × List MemPlace} (ht : P.underlying t = some (.slice e)) (he : P.underlying e = some .bool) (hc : P.cellsOf e = 1) (hb : P.bytesOf e = 1)
    (h : DataW.trod enc P w base (fun _ => true) held fuel t cs = some x) (hw : ∀ q ∈ x.1.weights P t, q ≤ reachBytes) : ∃ a n cap l, cs = [.slice a n cap] ∧ BoolsIn w a n cap l := by
  have hr : reachBytes = 140737488351232 := rfl
  rcases open_bools ht he hc h with ⟨rfl, _⟩ | ⟨a, len, cap, B, rfl, _, hl, hm, hx, hi⟩
  · exact ⟨none, 0, 0, [], rfl, rfl, Bools.nil _ _, fun _ => ⟨rfl, rfl⟩, by decide⟩
  · refine ⟨some a, len, cap, (List.range len).map B, rfl, by simp, fun hne => ?_, fun h => (by cases h), ?_⟩
    · have hlen : 0 < len := by
        rcases Nat.eq_zero_or_pos len with h0 | h0
        · subst h0; exact absurd rfl hne
        · exact h0
      obtain ⟨b, off, spot⟩ := a
      have hspot : spot = none := by simpa [Addr.add] using World.cell?_spot (hi 0 (by omega))
      subst hspot
      refine ⟨b, off, rfl, fun i hi' => ?_⟩
      have hi2 : i < len := by simpa using hi'
      rw [← Go.WideShapes.add_plain, hi i (by omega), List.getD_eq_getElem?_getD]
      simp [hi2]
    · rcases open_slice1 ht hc h with ⟨h0, _⟩ | ⟨a', len', cap', m, n', V, D, Pl, hcs, _, hl', hm', hmm, hx', _⟩
      · cases h0
      · cases hcs
        have hq := hw (((List.range len).map D).length + ((List.range (m - len)).map fun j => D (len + j)).length) (by rw [hx']; simp [DataW.weights, ht, hb])
        simp at hq
        omega
theorem ops_of_trod {t e ti tb tB tK : TypeId} {fuel : Nat} {cs : List Value} {x : DataW H × List MemPlace} {f0 f1 f2 f3 f4 f5 : Field}
    (ht : P.underlying t = some (.slice e)) (he : P.underlying e = some (.struct #[f0, f1, f2, f3, f4, f5])) (hce : P.cellsOf e = 6)
    (g0 : f0.type = ti ∧ f0.offset = 0) (g1 : f1.type = ti ∧ f1.offset = 1) (g2 : f2.type = ti ∧ f2.offset = 2) (g3 : f3.type = tB ∧ f3.offset = 3) (g4 : f4.type = tb ∧ f4.offset = 4) (g5 : f5.type = tK ∧ f5.offset = 5)
    (hti : P.underlying ti = some (.int .i64)) (hci : P.cellsOf ti = 1) (htb : P.underlying tb = some .bool) (hcb : P.cellsOf tb = 1) (hbb : P.bytesOf tb = 1) {u : TypeId} (htB : P.underlying tB = some (.slice u)) (hcB : P.cellsOf tB = 1) (hu : P.underlying u = some (.int .u8)) (hcu : P.cellsOf u = 1) (hbu : P.bytesOf u = 1)
    (htK : P.underlying tK = some (.slice tb)) (hcK : P.cellsOf tK = 1)
    (h : DataW.trod enc P w base (fun _ => true) held fuel t cs = some x) (hw : ∀ q ∈ x.1.weights P t, q ≤ reachBytes) :
    ∃ a len cap F, cs = [.slice a len cap] ∧ Ops w a len F := by
  obtain ⟨a, len, cap, rfl, hn, hl, hc, hi⟩ := open_structs ht he h
  have key : ∀ i, i < len → ∃ p : OpT, ∃ b o ba bn bc ka kn kc, a = some ⟨b, o, none⟩ ∧ OpIs w ba bn bc ka kn kc p ∧ ∀ j v, (opA ba bn bc ka kn kc p)[j]? = some v → w.cell? ⟨b, o + i * 6 + j, none⟩ = some v := by
    intro i hlt
    cases a with
    | none => have := (hn rfl).1; omega
    | some ad =>
      obtain ⟨C, hC, hcell, hf⟩ := hi ad rfl i hlt
      rw [hce] at hC hcell
      match C, hC with
      | [c0, c1, c2, c3, c4, c5], _ =>
        obtain ⟨y0, n0, t0, _⟩ := hf 0 f0 rfl
        obtain ⟨y1, n1, t1, _⟩ := hf 1 f1 rfl
        obtain ⟨y2, n2, t2, _⟩ := hf 2 f2 rfl
        obtain ⟨y3, n3, t3, w3⟩ := hf 3 f3 rfl
        obtain ⟨y4, n4, t4, _⟩ := hf 4 f4 rfl
        obtain ⟨y5, n5, t5, w5⟩ := hf 5 f5 rfl
        rw [g0.1, g0.2, hci] at t0
        rw [g1.1, g1.2, hci] at t1
        rw [g2.1, g2.2, hci] at t2
        rw [g3.1, g3.2, hcB] at t3
        rw [g4.1, g4.2, hcb] at t4
        rw [g5.1, g5.2, hcK] at t5
        rw [g3.1] at w3
        rw [g5.1] at w5
        obtain ⟨x0, e0, _, _⟩ := DataW.trod_int hti t0
        obtain ⟨x1, e1, _, q1⟩ := DataW.trod_int hti t1
        obtain ⟨x2, e2, _, _⟩ := DataW.trod_int hti t2
        obtain ⟨x4, e4, _⟩ := DataW.trod_bool htb t4
        obtain ⟨ba, bn, bc, l, e3, hB⟩ := bytesIn_of_trod htB hu hcu hbu t3 (fun q hq => hw q (w3 q hq))
        obtain ⟨ka, kn, kc, kl, e5, hK⟩ := boolsIn_of_trod htK htb hcb hbb t5 (fun q hq => hw q (w5 q hq))
        simp at e0 e1 e2 e3 e4 e5
        subst e0 e1 e2 e3 e4 e5
        obtain ⟨b, off, spot⟩ := ad
        have hspot : spot = none := by
          obtain ⟨C0, hC0, hcell0, _⟩ := hi ⟨b, off, spot⟩ rfl 0 (by omega)
          rw [hce] at hC0 hcell0
          have h0 := hcell0 0 C0[0] (List.getElem?_eq_getElem (by omega))
          simpa [Addr.add] using World.cell?_spot h0
        subst hspot
        refine ⟨⟨x0, x1, x2, l, x4, kl⟩, b, off, ba, bn, bc, ka, kn, kc, rfl, ⟨hB, hK, (wf_bounds q1).2⟩, fun j v hj => ?_⟩
        rw [Nat.add_assoc, ← Go.WideShapes.add_plain]
        refine hcell j v ?_
        simpa [opA] using hj
  obtain ⟨F, hF⟩ : ∃ F : Nat → OpT, ∀ i, i < len → ∃ b o ba bn bc ka kn kc, a = some ⟨b, o, none⟩ ∧ OpIs w ba bn bc ka kn kc (F i) ∧ ∀ j v, (opA ba bn bc ka kn kc (F i))[j]? = some v → w.cell? ⟨b, o + i * 6 + j, none⟩ = some v :=
    ⟨fun i => if h : i < len then Classical.choose (key i h) else ⟨0, 0, 0, [], false, []⟩, fun i h => by simp only [dif_pos h]; exact Classical.choose_spec (key i h)⟩
  exact ⟨a, len, cap, F, rfl, by omega, hF⟩
end
end Go.Proofs.Ytmkhliabmodbdaa
