/-
  OpenPair · ArrIn · LaterInv · LaterKit: these texts in one.
-/
import Derived.Test.YtlkgaefabahkoaaDoorPk00
import Derived.StillTailTactics
import Derived.Lib.SmallJoins
import Derived.ProofKit
import Derived.OpenShut
import Derived.ChangeArms
import Derived.Test.YtlkgaefabahkoaaDoorPk06
import Derived.Laws.Rows
/-
  An array of two integers that came in by value.
-/
namespace Go.Proofs.YtlkgaefabahkoaaDoor
open Go.RowKit
section
open Go.ChangeShapes Go.WideShapes Go.ChangeAt
/-- An array of two integers that came in by value. -/
theorem open_pair {H : Type} {enc : TypeId × Value → H} {P : Program} {w : World} {base : Nat} {spare : Nat → Bool} {held : Bool} {r : Reach} {b0 : Nat} {t e : TypeId} {v : Value} {d : DataW H} {p : List MemPlace}
    (hs : P.underlying t = some (.array 2 e)) (he : P.underlying e = some (.int .i64)) (hc : P.cellsOf e = 1) (hC : P.cellsOf t = 2) (hv : Value.okWide P w r b0 t v) (h : DataW.Trod enc P w base spare held t v d p) :
    ∃ x y : Int, v = .agg #[.int .i64 x, .int .i64 y] ∧ (Lit.int .i64 x).wf = true ∧ (Lit.int .i64 y).wf = true := by
  simp only [Value.okWide, hs] at hv
  obtain ⟨cs, rfl, hsz, _⟩ := hv
  obtain ⟨c0, c1, rfl⟩ := Go.Joins.array2 (hsz.trans hC)
  obtain ⟨fuel, hf⟩ := h
  obtain ⟨xs, m, rfl, hx1, hlen, hn, hel⟩ := DataW.trod_array hs hf
  have h0 := hel 0 (by decide)
  have h1 := hel 1 (by decide)
  rw [hc] at h0 h1
  rw [List.getElem?_eq_getElem (by omega)] at h0 h1
  obtain ⟨x, e1, _, wx⟩ := DataW.trod_int he h0
  obtain ⟨y, e2, _, wy⟩ := DataW.trod_int he h1
  simp [Value.cells] at e1 e2
  exact ⟨x, y, by rw [e1, e2], wx, wy⟩
end
end Go.Proofs.YtlkgaefabahkoaaDoor
/-
  Arrays of two or four integers that came in by value.
-/
namespace Go.Proofs.YtlkgaefabahkoaaDoor
open Go.RowKit
section
open Go.ChangeShapes Go.WideShapes Go.ChangeAt
theorem array4 {cs : Array Value} (h : cs.size = 4) : ∃ a b c d, cs = #[a, b, c, d] := by
  obtain ⟨l⟩ := cs
  match l, h with
  | [a, b, c, d], _ => exact ⟨a, b, c, d, rfl⟩
theorem open_quad {H : Type} {enc : TypeId × Value → H} {P : Program} {w : World} {base : Nat} {spare : Nat → Bool} {held : Bool} {r : Reach} {b0 : Nat} {t e : TypeId} {v : Value} {d : DataW H} {p : List MemPlace}
    (hs : P.underlying t = some (.array 4 e)) (he : P.underlying e = some (.int .i64)) (hc : P.cellsOf e = 1) (hC : P.cellsOf t = 4) (hv : Value.okWide P w r b0 t v) (h : DataW.Trod enc P w base spare held t v d p) :
    ∃ x y z u : Int, v = .agg #[.int .i64 x, .int .i64 y, .int .i64 z, .int .i64 u] ∧ (Lit.int .i64 x).wf = true ∧ (Lit.int .i64 y).wf = true ∧ (Lit.int .i64 z).wf = true ∧ (Lit.int .i64 u).wf = true := by
  simp only [Value.okWide, hs] at hv
  obtain ⟨cs, rfl, hsz, _⟩ := hv
  obtain ⟨c0, c1, c2, c3, rfl⟩ := array4 (hsz.trans hC)
  obtain ⟨fuel, hf⟩ := h
  obtain ⟨xs, m, rfl, hx1, hlen, hn, hel⟩ := DataW.trod_array hs hf
  have h0 := hel 0 (by decide)
  have h1 := hel 1 (by decide)
  have h2 := hel 2 (by decide)
  have h3 := hel 3 (by decide)
  rw [hc] at h0 h1 h2 h3
  rw [List.getElem?_eq_getElem (by omega)] at h0 h1 h2 h3
  obtain ⟨x, e1, _, wx⟩ := DataW.trod_int he h0
  obtain ⟨y, e2, _, wy⟩ := DataW.trod_int he h1
  obtain ⟨z, e3, _, wz⟩ := DataW.trod_int he h2
  obtain ⟨u, e4, _, wu⟩ := DataW.trod_int he h3
  simp [Value.cells] at e1 e2 e3 e4
  exact ⟨x, y, z, u, by rw [e1, e2, e3, e4], wx, wy, wz, wu⟩
set_option maxRecDepth 100000 in
theorem open_two {H : Type} {enc : TypeId × Value → H} {w : World} {base : Nat} {r : Reach} {b0 : Nat} {v : Value} {d : DataW H} {p : List MemPlace}
    (hv : Value.okWide Tryd.prog w r b0 68 v) (h : DataW.Trod enc Tryd.prog w base (fun _ => true) true 68 v d p) :
    ∃ x y : Int, v = .agg #[.int .i64 x, .int .i64 y] ∧ (Lit.int .i64 x).wf = true ∧ (Lit.int .i64 y).wf = true :=
  open_pair Tryd.underlying68 Tryd.underlying3 (by kernel_rfl) (by kernel_rfl) hv h
set_option maxRecDepth 100000 in
theorem open_four {H : Type} {enc : TypeId × Value → H} {w : World} {base : Nat} {r : Reach} {b0 : Nat} {v : Value} {d : DataW H} {p : List MemPlace}
    (hv : Value.okWide Tryd.prog w r b0 57 v) (h : DataW.Trod enc Tryd.prog w base (fun _ => true) true 57 v d p) :
    ∃ x y z u : Int, v = .agg #[.int .i64 x, .int .i64 y, .int .i64 z, .int .i64 u] ∧ (Lit.int .i64 x).wf = true ∧ (Lit.int .i64 y).wf = true ∧ (Lit.int .i64 z).wf = true ∧ (Lit.int .i64 u).wf = true :=
  open_quad Tryd.underlying57 Tryd.underlying3 (by kernel_rfl) (by kernel_rfl) hv h
end
end Go.Proofs.YtlkgaefabahkoaaDoor
/-
  A drawn region whose operations only make new memory: which slot holds what, told by facts that outlive new memory.
-/
namespace Go.Proofs.YtlkgaefabahkoaaDoor
open Go.RowKit

abbrev ObjL := Value → World → Prop
def LaterP (p : ObjL) : Prop := ∀ v W W', Below W.heap.size W W' → p v W → p v W'
structure GL (R : List (Nat × ObjL)) (T : List (Nat × Value)) (w : World) (D : Nat → Bool) (X : Nat → Value) (W : World) : Prop where
  b : Below w.heap.size w W
  rows : ∀ x ∈ R, D x.1 = true → x.2 (X x.1) W
  dt : DetO T D X
def keysL (R : List (Nat × ObjL)) : Prop := ∀ x ∈ R, ∀ y ∈ R, x.1 = y.1 → x = y
section
variable {R : List (Nat × ObjL)} {T : List (Nat × Value)} {w W W' : World} {D : Nat → Bool} {X : Nat → Value}
theorem GL.start (hw : Below w.heap.size w W) : GL R T w (fun _ => false) X W := ⟨hw, fun _ _ h => (by cases h), fun _ _ h => (by cases h)⟩
theorem GL.tell (h : GL R T w D X W) (hs : ∀ x ∈ R, LaterP x.2) (i : Nat) (v : Value) (hb : Below W.heap.size W W') (hR : ∀ x ∈ R, x.1 ≠ i) (hv : ∀ x ∈ T, x.1 = i → x.2 = v) : GL R T w (updD D i) (updV X i v) W' :=
  ⟨h.b.trans (hb.mono h.b.size), fun x hx hd => by
    rw [updD_ne D i (hR x hx)] at hd
    rw [updV_ne X i v (hR x hx)]
    exact hs x hx _ _ _ hb (h.rows x hx hd), h.dt.set i v hv⟩
theorem GL.fresh (h : GL R T w D X W) (hk : keysL R) (hs : ∀ x ∈ R, LaterP x.2) (i : Nat) (v : Value) (z : ObjL) (hz : (i, z) ∈ R) (hb : Below W.heap.size W W') (ho : z v W') (hT : ∀ x ∈ T, x.1 ≠ i) : GL R T w (updD D i) (updV X i v) W' :=
  ⟨h.b.trans (hb.mono h.b.size), fun x hx hd => by
    by_cases e : x.1 = i
    · have := hk x hx _ hz e
      subst this
      rw [updV_at]; exact ho
    · rw [updD_ne D i e] at hd
      rw [updV_ne X i v e]
      exact hs x hx _ _ _ hb (h.rows x hx hd), fun x hx hd => by
    rw [updV_ne X i v (hT x hx)]
    rw [updD_ne D i (hT x hx)] at hd
    exact h.dt x hx hd⟩
end
end Go.Proofs.YtlkgaefabahkoaaDoor
/-
  A whole struct loaded in a drawn region whose operations only make new memory.
-/
namespace Go.Proofs.YtlkgaefabahkoaaDoor
open Go.RowKit
section
variable {P : Program} {ops : Array Oper} {Q : Exit → Act → World → Prop} {o : Oper} {a : Act} {w : World} {K : Act → World → Prop} {E : Prop}
theorem stepO_load_row (hw : Region.wanted o (yielded ops a.tmps) = true) (ty : TypeId) (x : Operand) (ho : o.op = .load ty x)
    (g : Nat) (hx : a.eval x = .pointer (some ⟨g, 0, none⟩)) (t : TypeId) (cs : Array Value) (fr : Nat × Nat) (d : TypeDesc) (hg : w.heap[g]? = some (.cells cs t fr))
    (hu : P.underlying ty = some d) (hd : (match d with | .struct _ | .array _ _ => true | _ => false) = true) (hi : (P.info? ty).map (·.size) = some cs.size)
    (hk : K (a.put o.dst (.agg cs)) w) : if Region.wanted o (yielded ops a.tmps) = true then Oper.wp P o a w K Q else E := by
  refine stepO_run (v := .agg cs) (w' := w) hw ?_ hk
  unfold execOp
  simp only [ho, hx, Instr.loadAt, Instr.sureAddr, Sem.run_bind, Sem.run_pure, Result.andThen_ok, run_loadVar_row w g t ty cs fr d hg hu hd hi]
end
end Go.Proofs.YtlkgaefabahkoaaDoor
