/-
  An array of two words that came in by value.
-/
import Derived.Test.YtkdjfhbdcfjnnaaSwOne
import Derived.StillTailTactics
import Derived.Lib.SmallJoins
import Derived.ProofKit
import Derived.OpenShut
import Derived.ChangeArms
namespace Go.Proofs.Ytkdjfhbdcfjnnaa
open Go.RowKit
section
open Go.ChangeShapes Go.WideShapes Go.ChangeAt
theorem u32_bd {n : Int} (h : (Lit.int .u32 n).wf = true) : 0 ≤ n ∧ n < 4294967296 := by
  simp [Lit.wf, IntKind.min, IntKind.max, IntKind.signed, IntKind.bits] at h
  omega
theorem open_pair32 {H : Type} {enc : TypeId × Value → H} {P : Program} {w : World} {base : Nat} {spare : Nat → Bool} {held : Bool} {r : Reach} {b0 : Nat} {t e : TypeId} {v : Value} {d : DataW H} {p : List MemPlace}
    (hs : P.underlying t = some (.array 2 e)) (he : P.underlying e = some (.int .u32)) (hc : P.cellsOf e = 1) (hC : P.cellsOf t = 2) (hv : Value.okWide P w r b0 t v) (h : DataW.Trod enc P w base spare held t v d p) :
    ∃ x y : Nat, v = .agg #[.int .u32 (x : Nat), .int .u32 (y : Nat)] ∧ x < 4294967296 ∧ y < 4294967296 := by
  simp only [Value.okWide, hs] at hv
  obtain ⟨cs, rfl, hsz, _⟩ := hv
  obtain ⟨c0, c1, rfl⟩ := Go.Joins.array2 (hsz.trans hC)
  obtain ⟨fuel, hf⟩ := h
  obtain ⟨xs, m, rfl, hx1, hlen, hn, hel⟩ := DataW.trod_array hs hf
  have h0 := hel 0 (by decide)
  have h1 := hel 1 (by decide)
  rw [hc] at h0 h1
  rw [List.getElem?_eq_getElem (by omega)] at h0 h1
  obtain ⟨x, e1, _, wx⟩ := DataW.trod_int he h0
  obtain ⟨y, e2, _, wy⟩ := DataW.trod_int he h1
  simp [Value.cells] at e1 e2
  have bx := u32_bd wx
  have yb := u32_bd wy
  refine ⟨x.toNat, y.toNat, ?_, by omega, by omega⟩
  rw [e1, e2, Int.toNat_of_nonneg bx.1, Int.toNat_of_nonneg yb.1]
end
end Go.Proofs.Ytkdjfhbdcfjnnaa
