/-
  An inode that came in by value, opened to its numbers.
-/
import Derived.Test.YtfkobamemehkdaaDoorInSame
import Derived.OpenShut
import Derived.Lib.SmallJoins
namespace Go.Proofs.YtfkobamemehkdaaDoor
open Go.RowKit
section
open Go.ChangeShapes Go.WideShapes Go.ChangeAt
theorem bounds_u32' {n : Int} (h : (Lit.int .u32 n).wf = true) : 0 ≤ n ∧ n < 4294967296 := by
  simp [Lit.wf, IntKind.min, IntKind.max, IntKind.signed, IntKind.bits] at h
  omega
theorem open_ino {H : Type} {enc : TypeId × Value → H} {w : World} {base : Nat} {spare : Nat → Bool} {held : Bool} {r : Reach} {b0 : Nat} {v : Value} {d : DataW H} {p : List MemPlace}
    (hv : Value.okWide Tryd.prog w r b0 25 v) (h : DataW.Trod enc Tryd.prog w base spare held 25 v d p) :
    ∃ (a b c d s : Int) (p0 p1 p2 p3 p4 p5 p6 p7 p8 : Nat), v = .agg (ino a b c d s p0 p1 p2 p3 p4 p5 p6 p7 p8) ∧ FitI a b c d s p0 p1 p2 p3 p4 p5 p6 p7 p8 := by
  obtain ⟨cs, rfl, hsz⟩ := okWide_struct Tryd.underlying25 hv
  obtain ⟨l⟩ := cs
  match l, hsz.trans cells_ino with
  | [c0, c1, c2, c3, c4, c5, c6, c7, c8, c9, c10, c11, c12, c13], _ =>
    obtain ⟨fuel, hf⟩ := h
    obtain ⟨xs, n, _, hx, _, hlen, hg⟩ := DataW.trod_struct Tryd.underlying25 hf
    have hlen6 : xs.length = 6 := hlen
    have h0 := hg 0 _ rfl
    rw [List.getElem?_eq_getElem (by omega)] at h0
    obtain ⟨x0, e0, _, w0⟩ := DataW.trod_int Tryd.underlying3 h0
    simp [Value.cells, cells_int] at e0
    subst e0
    have h1 := hg 1 _ rfl
    rw [List.getElem?_eq_getElem (by omega)] at h1
    obtain ⟨x1, e1, _, w1⟩ := DataW.trod_int Tryd.underlying3 h1
    simp [Value.cells, cells_int] at e1
    subst e1
    have h2 := hg 2 _ rfl
    rw [List.getElem?_eq_getElem (by omega)] at h2
    obtain ⟨x2, e2, _, w2⟩ := DataW.trod_int Tryd.underlying3 h2
    simp [Value.cells, cells_int] at e2
    subst e2
    have h3 := hg 3 _ rfl
    rw [List.getElem?_eq_getElem (by omega)] at h3
    obtain ⟨x3, e3, _, w3⟩ := DataW.trod_int Tryd.underlying3 h3
    simp [Value.cells, cells_int] at e3
    subst e3
    have h4 := hg 4 _ rfl
    rw [List.getElem?_eq_getElem (by omega)] at h4
    obtain ⟨x4, e4, _, w4⟩ := DataW.trod_int Tryd.underlying3 h4
    simp [Value.cells, cells_int] at e4
    subst e4
    have h5 := hg 5 _ rfl
    rw [List.getElem?_eq_getElem (by omega)] at h5
    obtain ⟨ys, m, _, _, _, hl9, hel⟩ := DataW.trod_array Tryd.underlying23 h5
    have k0 := hel 0 (by decide)
    rw [cells_u32, List.getElem?_eq_getElem (by omega)] at k0
    obtain ⟨y0, f0, _, u0⟩ := DataW.trod_int Tryd.underlying22 k0
    simp [Value.cells, cells_arr] at f0
    subst f0
    have b0 := bounds_u32' u0
    obtain ⟨z0, rfl⟩ := Int.eq_ofNat_of_zero_le b0.1
    have k1 := hel 1 (by decide)
    rw [cells_u32, List.getElem?_eq_getElem (by omega)] at k1
    obtain ⟨y1, f1, _, u1⟩ := DataW.trod_int Tryd.underlying22 k1
    simp [Value.cells, cells_arr] at f1
    subst f1
    have b1 := bounds_u32' u1
    obtain ⟨z1, rfl⟩ := Int.eq_ofNat_of_zero_le b1.1
    have k2 := hel 2 (by decide)
    rw [cells_u32, List.getElem?_eq_getElem (by omega)] at k2
    obtain ⟨y2, f2, _, u2⟩ := DataW.trod_int Tryd.underlying22 k2
    simp [Value.cells, cells_arr] at f2
    subst f2
    have b2 := bounds_u32' u2
    obtain ⟨z2, rfl⟩ := Int.eq_ofNat_of_zero_le b2.1
    have k3 := hel 3 (by decide)
    rw [cells_u32, List.getElem?_eq_getElem (by omega)] at k3
    obtain ⟨y3, f3, _, u3⟩ := DataW.trod_int Tryd.underlying22 k3
    simp [Value.cells, cells_arr] at f3
    subst f3
    have b3 := bounds_u32' u3
    obtain ⟨z3, rfl⟩ := Int.eq_ofNat_of_zero_le b3.1
    have k4 := hel 4 (by decide)
    rw [cells_u32, List.getElem?_eq_getElem (by omega)] at k4
    obtain ⟨y4, f4, _, u4⟩ := DataW.trod_int Tryd.underlying22 k4
    simp [Value.cells, cells_arr] at f4
    subst f4
    have b4 := bounds_u32' u4
    obtain ⟨z4, rfl⟩ := Int.eq_ofNat_of_zero_le b4.1
    have k5 := hel 5 (by decide)
    rw [cells_u32, List.getElem?_eq_getElem (by omega)] at k5
    obtain ⟨y5, f5, _, u5⟩ := DataW.trod_int Tryd.underlying22 k5
    simp [Value.cells, cells_arr] at f5
    subst f5
    have b5 := bounds_u32' u5
    obtain ⟨z5, rfl⟩ := Int.eq_ofNat_of_zero_le b5.1
    have k6 := hel 6 (by decide)
    rw [cells_u32, List.getElem?_eq_getElem (by omega)] at k6
    obtain ⟨y6, f6, _, u6⟩ := DataW.trod_int Tryd.underlying22 k6
    simp [Value.cells, cells_arr] at f6
    subst f6
    have b6 := bounds_u32' u6
    obtain ⟨z6, rfl⟩ := Int.eq_ofNat_of_zero_le b6.1
    have k7 := hel 7 (by decide)
    rw [cells_u32, List.getElem?_eq_getElem (by omega)] at k7
    obtain ⟨y7, f7, _, u7⟩ := DataW.trod_int Tryd.underlying22 k7
    simp [Value.cells, cells_arr] at f7
    subst f7
    have b7 := bounds_u32' u7
    obtain ⟨z7, rfl⟩ := Int.eq_ofNat_of_zero_le b7.1
    have k8 := hel 8 (by decide)
    rw [cells_u32, List.getElem?_eq_getElem (by omega)] at k8
    obtain ⟨y8, f8, _, u8⟩ := DataW.trod_int Tryd.underlying22 k8
    simp [Value.cells, cells_arr] at f8
    subst f8
    have b8 := bounds_u32' u8
    obtain ⟨z8, rfl⟩ := Int.eq_ofNat_of_zero_le b8.1
    exact ⟨x0, x1, x2, x3, x4, z0, z1, z2, z3, z4, z5, z6, z7, z8, rfl, Go.bounds_i64 w0, Go.bounds_i64 w1, Go.bounds_i64 w2, Go.bounds_i64 w3, Go.bounds_i64 w4, by omega, by omega, by omega, by omega, by omega, by omega, by omega, by omega, by omega⟩
end
end Go.Proofs.YtfkobamemehkdaaDoor
