/-
  TOp · CopyIn: these texts in one.
-/
import Derived.Test.YtcjojcihjhhpgaaPk15
import Derived.Test.YtcjojcihjhhpgaaPk20
import Derived.Test.YtcjojcihjhhpgaaPk00
import Derived.Laws.AppendOwn
import Derived.Laws.AppendOwnNone
import Derived.Deep.RegionLaw
/-
  The script of a law about trees, as it came in.
-/
namespace Go.Proofs.Ytcjojcihjhhpgaa
open Go.RowKit

abbrev OPT := 33
structure OpQ where
  k : Int
  path : ByteArray
  old : ByteArray
  pos : Int
  b : List Nat
def opQ (ba : Option Addr) (bn bc : Nat) (x : OpQ) : Array Value := #[.int .i64 x.k, .string x.path, .string x.old, .int .i64 x.pos, .slice ba bn bc]
theorem BytesIn.below {w w' : World} {a : Option Addr} {n cap : Nat} {l : List Nat} (h : BytesIn w a n cap l) (hb : Below w.heap.size w w') : BytesIn w' a n cap l :=
  ⟨h.1, h.2.1.below hb, h.2.2.1, h.2.2.2.1, h.2.2.2.2⟩
/-- A script that came in. -/
def QOps (w : World) (a : Option Addr) (len : Nat) (F : Nat → OpQ) : Prop :=
  len ≤ 9223372036854775807 ∧ ∀ i, i < len → ∃ b o ba bn bc, a = some ⟨b, o, none⟩ ∧ BytesIn w ba bn bc (F i).b ∧ ∀ j v, (opQ ba bn bc (F i))[j]? = some v → w.cell? ⟨b, o + i * 5 + j, none⟩ = some v
theorem QOps.below {w w' : World} {a : Option Addr} {len : Nat} {F : Nat → OpQ} (h : QOps w a len F) (hb : Below w.heap.size w w') : QOps w' a len F :=
  ⟨h.1, fun i hi => by
    obtain ⟨b, o, ba, bn, bc, e, h1, h2⟩ := h.2 i hi
    exact ⟨b, o, ba, bn, bc, e, h1.below hb, fun j v hj => cell_later hb (h2 j v hj)⟩⟩
section
open Go.ChangeShapes Go.WideShapes Go.Deep
variable {H : Type} {enc : TypeId × Value → H} {w : World} {base : Nat} {held : Bool}
set_option maxRecDepth 100000 in
theorem qops_of_trod {fuel : Nat} {cs : List Value} {x : DataW H × List MemPlace}
    (h : DataW.trod enc Try.prog w base (fun _ => true) held fuel 22 cs = some x) (hw : ∀ q ∈ x.1.weights Try.prog 22, q ≤ reachBytes) :
    ∃ a len cap F, cs = [.slice a len cap] ∧ QOps w a len F := by
  have hce : Try.prog.cellsOf OPT = 5 := by kernel_rfl
  have hci : Try.prog.cellsOf 3 = 1 := by kernel_rfl
  have hcs : Try.prog.cellsOf 9 = 1 := by kernel_rfl
  have hcB : Try.prog.cellsOf 31 = 1 := by kernel_rfl
  obtain ⟨a, len, cap, rfl, hn, hl, hc, hi⟩ := open_structs Try.underlying22 Try.underlying33 h
  have key : ∀ i, i < len → ∃ p : OpQ, ∃ b o ba bn bc, a = some ⟨b, o, none⟩ ∧ BytesIn w ba bn bc p.b ∧ ∀ j v, (opQ ba bn bc p)[j]? = some v → w.cell? ⟨b, o + i * 5 + j, none⟩ = some v := by
    intro i hlt
    cases a with
    | none => have := (hn rfl).1; omega
    | some ad =>
      obtain ⟨C, hC, hcell, hf⟩ := hi ad rfl i hlt
      rw [hce] at hC hcell
      match C, hC with
      | [c0, c1, c2, c3, c4], _ =>
        obtain ⟨y0, n0, t0, _⟩ := hf 0 _ rfl
        obtain ⟨y1, n1, t1, _⟩ := hf 1 _ rfl
        obtain ⟨y2, n2, t2, _⟩ := hf 2 _ rfl
        obtain ⟨y3, n3, t3, _⟩ := hf 3 _ rfl
        obtain ⟨y4, n4, t4, w4⟩ := hf 4 _ rfl
        have t0 : DataW.trod enc Try.prog w base (fun _ => true) held n0 3 (([c0, c1, c2, c3, c4].drop 0).take (Try.prog.cellsOf 3)) = some y0 := t0
        have t1 : DataW.trod enc Try.prog w base (fun _ => true) held n1 9 (([c0, c1, c2, c3, c4].drop 1).take (Try.prog.cellsOf 9)) = some y1 := t1
        have t2 : DataW.trod enc Try.prog w base (fun _ => true) held n2 9 (([c0, c1, c2, c3, c4].drop 2).take (Try.prog.cellsOf 9)) = some y2 := t2
        have t3 : DataW.trod enc Try.prog w base (fun _ => true) held n3 3 (([c0, c1, c2, c3, c4].drop 3).take (Try.prog.cellsOf 3)) = some y3 := t3
        have t4 : DataW.trod enc Try.prog w base (fun _ => true) held n4 31 (([c0, c1, c2, c3, c4].drop 4).take (Try.prog.cellsOf 31)) = some y4 := t4
        rw [hci] at t0 t3
        rw [hcs] at t1 t2
        rw [hcB] at t4
        obtain ⟨x0, e0, _, _⟩ := DataW.trod_int Try.underlying3 t0
        obtain ⟨x1, e1, _⟩ := DataW.trod_string Try.underlying9 t1
        obtain ⟨x2, e2, _⟩ := DataW.trod_string Try.underlying9 t2
        obtain ⟨x3, e3, _, _⟩ := DataW.trod_int Try.underlying3 t3
        obtain ⟨ba, bn, bc, l, e4, hB⟩ := bytesIn_of_trod Try.underlying31 Try.underlying5 (by kernel_rfl) (by kernel_rfl) t4 (fun q hq => hw q (w4 q hq))
        simp at e0 e1 e2 e3 e4
        subst e0 e1 e2 e3 e4
        obtain ⟨b, off, spot⟩ := ad
        have hspot : spot = none := by
          obtain ⟨C0, hC0, hcell0, _⟩ := hi ⟨b, off, spot⟩ rfl 0 (by omega)
          rw [hce] at hC0 hcell0
          have h0 := hcell0 0 C0[0] (List.getElem?_eq_getElem (by omega))
          simpa [Addr.add] using World.cell?_spot h0
        subst hspot
        refine ⟨⟨x0, x1, x2, x3, l⟩, b, off, ba, bn, bc, rfl, hB, fun j v hj => ?_⟩
        rw [Nat.add_assoc, ← Go.WideShapes.add_plain]
        refine hcell j v ?_
        simpa [opQ] using hj
  obtain ⟨F, hF⟩ : ∃ F : Nat → OpQ, ∀ i, i < len → ∃ b o ba bn bc, a = some ⟨b, o, none⟩ ∧ BytesIn w ba bn bc (F i).b ∧ ∀ j v, (opQ ba bn bc (F i))[j]? = some v → w.cell? ⟨b, o + i * 5 + j, none⟩ = some v :=
    ⟨fun i => if h : i < len then Classical.choose (key i h) else ⟨0, ⟨#[]⟩, ⟨#[]⟩, 0, []⟩, fun i h => by simp only [dif_pos h]; exact Classical.choose_spec (key i h)⟩
  exact ⟨a, len, cap, F, rfl, by omega, hF⟩
end
end Go.Proofs.Ytcjojcihjhhpgaa
/-
  'append([]T{}, x...)' of a slice that came in, whatever its length.
-/
namespace Go.Proofs.Ytcjojcihjhhpgaa
open Go.RowKit

section
variable {P : Program} {w : World} {o : Oper} {act : Act}
theorem op_copy_in {K : Act → World → Prop} {Q : Exit → Act → World → Prop} (s x : Operand) (t : TypeId)
    (ho : o.op = .call { callee := .builtin .append, args := #[s, x], argTypes := #[t, t] })
    (base : Nat) (e : TypeId) (z : Value) (size bytes : Nat) (ht : P.underlying t = some (.slice e)) (hi : (P.info? e).map (fun i => (i.zero, i.size, i.bytes)) = some (some z, size, bytes)) (hzs : z.cells.size = size) (hsz : 0 < size)
    (v : Value) (hs : act.eval s = v) (hown : w.ownsRow base e size v 0 [])
    (ao : Option Addr) (m c : Nat) (ys : List Value) (hx : act.eval x = .slice ao m c) (hl : ys.length = m * size) (hy : ∀ ad, ao = some ad → ∀ j u, ys[j]? = some u → w.cell? (ad.add j) = some u) (h1 : ∀ u ∈ ys, u.oneCell' = true) (hnone : ao = none → m = 0 ∧ c = 0)
    (hm : m ≤ 9223372036854775807) (hroom : m * bytes ≤ 140737488355328) (hbase : base ≤ w.heap.size)
    (h : ∀ a' cap' w', w'.ownsRow base e size (.slice a' m cap') m ys → w.grownBy w' v.ownBlock → K (act.put o.dst (.slice a' m cap')) w') : o.wp P act w K Q := by
  obtain ⟨i, hi0, hz, hs1, hb1⟩ := info_parts hi
  have fin : ∀ v' w', w'.ownsRow base e size v' m ys → w.grownBy w' v.ownBlock → K (act.put o.dst v') w' := by
    intro v' w' h1 h2
    obtain ⟨a', cap', rfl, _⟩ := own_slice h1
    exact h a' cap' w' h1 h2
  cases ao with
  | none =>
    obtain ⟨rfl, rfl⟩ := hnone rfl
    have hys : ys = [] := List.eq_nil_of_length_eq_zero (by rw [hl]; simp)
    subst hys
    have hrun := run_append_owned_none (P := P) (w := w) base t o.type e i size ht hi0 v 0 [] hown
    unfold Oper.wp
    simp [execOp, ho, resolve, invoke, builtin, hs, hx, hrun, Result.andThen]
    exact fin v w hown ⟨rfl, rfl, rfl, Nat.le_refl _, fun _ _ _ => rfl⟩
  | some ad =>
    refine wp_append_own w s x t ho base e i _ size bytes ht hi0 hz hs1 hb1 hzs hsz v 0 [] hs hown ad m c ys hx hl (hy ad rfl) h1 (by unfold maxLen; omega) (by rw [Nat.zero_add]; exact hroom) hbase ?_
    intro v' w' h1 h2 _
    rw [Nat.zero_add, List.nil_append] at h1
    exact fin v' w' h1 h2
theorem wp_copy_in {ops : Array Oper} {rest : List Oper} {Q : Exit → Act → World → Prop} (hgd : o.guard = none) (s x : Operand) (t : TypeId)
    (ho : o.op = .call { callee := .builtin .append, args := #[s, x], argTypes := #[t, t] })
    (base : Nat) (e : TypeId) (z : Value) (size bytes : Nat) (ht : P.underlying t = some (.slice e)) (hi : (P.info? e).map (fun i => (i.zero, i.size, i.bytes)) = some (some z, size, bytes)) (hzs : z.cells.size = size) (hsz : 0 < size)
    (v : Value) (hs : act.eval s = v) (hown : w.ownsRow base e size v 0 [])
    (ao : Option Addr) (m c : Nat) (ys : List Value) (hx : act.eval x = .slice ao m c) (hl : ys.length = m * size) (hy : ∀ ad, ao = some ad → ∀ j u, ys[j]? = some u → w.cell? (ad.add j) = some u) (h1 : ∀ u ∈ ys, u.oneCell' = true) (hnone : ao = none → m = 0 ∧ c = 0)
    (hm : m ≤ 9223372036854775807) (hroom : m * bytes ≤ 140737488355328) (hbase : base ≤ w.heap.size)
    (h : ∀ a' cap' w', w'.ownsRow base e size (.slice a' m cap') m ys → w.grownBy w' v.ownBlock → wpList P ops Q rest (act.put o.dst (.slice a' m cap')) w') : wpList P ops Q (o :: rest) act w :=
  wpList_plain hgd fun _ hK => op_copy_in s x t ho base e z size bytes ht hi hzs hsz v hs hown ao m c ys hx hl hy h1 hnone hm hroom hbase fun a' cap' w' h2 h3 => hK _ _ (h a' cap' w' h2 h3)
theorem step_copy_in {ops : Array Oper} {K : Act → World → Prop} {Q : Exit → Act → World → Prop} {E : Prop} (hgd : o.guard = none) (s x : Operand) (t : TypeId)
    (ho : o.op = .call { callee := .builtin .append, args := #[s, x], argTypes := #[t, t] })
    (base : Nat) (e : TypeId) (z : Value) (size bytes : Nat) (ht : P.underlying t = some (.slice e)) (hi : (P.info? e).map (fun i => (i.zero, i.size, i.bytes)) = some (some z, size, bytes)) (hzs : z.cells.size = size) (hsz : 0 < size)
    (v : Value) (hs : act.eval s = v) (hown : w.ownsRow base e size v 0 [])
    (ao : Option Addr) (m c : Nat) (ys : List Value) (hx : act.eval x = .slice ao m c) (hl : ys.length = m * size) (hy : ∀ ad, ao = some ad → ∀ j u, ys[j]? = some u → w.cell? (ad.add j) = some u) (h1 : ∀ u ∈ ys, u.oneCell' = true) (hnone : ao = none → m = 0 ∧ c = 0)
    (hm : m ≤ 9223372036854775807) (hroom : m * bytes ≤ 140737488355328) (hbase : base ≤ w.heap.size)
    (h : ∀ a' cap' w', w'.ownsRow base e size (.slice a' m cap') m ys → w.grownBy w' v.ownBlock → K (act.put o.dst (.slice a' m cap')) w') :
    if Region.wanted o (yielded ops act.tmps) = true then Oper.wp P o act w K Q else E := by
  have hw : Region.wanted o (yielded ops act.tmps) = true := by simp [Region.wanted, hgd]
  rw [if_pos hw]
  exact op_copy_in s x t ho base e z size bytes ht hi hzs hsz v hs hown ao m c ys hx hl hy h1 hnone hm hroom hbase h
end
/-- A row without elements, newly made. -/
theorem own_empty (w : World) (base : Nat) (e : TypeId) (size : Nat) (hb : base ≤ w.heap.size) : (w.alloc (.cells #[] e)).ownsRow base e size (.slice (some ⟨w.heap.size, 0, none⟩) 0 0) 0 [] :=
  ⟨by simp, .inr ⟨w.heap.size, 0, #[], rfl, hb, heap_alloc_new w _, Nat.le_refl _, by simp, by simp⟩⟩
end Go.Proofs.Ytcjojcihjhhpgaa
