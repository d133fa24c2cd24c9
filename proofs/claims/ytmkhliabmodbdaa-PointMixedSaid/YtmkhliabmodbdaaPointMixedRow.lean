/-
  a block with some sectors of one point and some of another one, of unlike Epoch or Count, is no point's
-/
import Derived.Test.YtmkhliabmodbdaaPtMixL
import Derived.Test.YtmkhliabmodbdaaRows
import Derived.ProofKit
import Derived.OpenShut
import Derived.ShutString
import Derived.ChangeOld
import Derived.Below
import Derived.Lib.SmallJoins
namespace Go.Proofs.Ytmkhliabmodbdaa.pointMixed
open Go.ChangeShapes Go.WideShapes Go.ChangeAt Go.RowKit
open Go.ChangeMaps (open_string shut_string)
set_option linter.unusedVariables false

theorem own : ownKnob Try.prog.godebug = none := by kernel_rfl
theorem laidOut : laidOutB Try.prog = true := by kernel_rfl

set_option maxRecDepth 100000 in
theorem lifted (os : Os) (started : os.Started) (H : Type) (enc : TypeId × Value → H) :
    ReturnsInHanded {} Try.checked os 8 .any (Rows.pointMixedSpec.pre6 enc Try.prog Try.f8 Rows.pointMixedRow.domain false)
      (Rows.pointMixedSpec.post enc Try.prog Try.f8 false true false false) := by
  refine returnsInHanded_of_change (C := Try.checked) own started (by kernel_rfl) Try.func8
    (ChangeSpec.witness6 (enc := enc) (C := Try.checked) false ⟨#[], #[.agg #[.int .i64 0, .int .i64 0, .int .i64 0, .int .i64 0], .agg #[.int .i64 0, .int .i64 0, .int .i64 0, .int .i64 0], .int .u8 0], []⟩ 8 (by kernel_rfl) (by kernel_rfl) (by kernel_rfl) (by kernel_rfl)) ?_
  intro W base args ds gs before hval0 hW hcnd _
  have hval : ∀ (j : Nat) t v, Try.f8.params[j]? = some t → args[j]? = some v → Value.okWide Try.prog W .any base t v := hval0
  have hW' := hW
  obtain ⟨p, q, hA0, hV, rfl, hfz, hnd⟩ := hW
  have hA : DataW.TrodAll enc Try.prog W 0 (fun _ => true) true Try.f8.params.toList args.toList ds p := hA0
  rw [Try.params8] at hA hval
  obtain ⟨v0, vs0, d0, ds0, p0, q0, hargs, rfl, rfl, h0, r0⟩ := trodAll_cons hA
  obtain ⟨v1, vs1, d1, ds1, p1, q1, rfl, rfl, rfl, h1, r1⟩ := trodAll_cons r0
  obtain ⟨v2, vs2, d2, ds2, p2, q2, rfl, rfl, rfl, h2, r2⟩ := trodAll_cons r1
  obtain ⟨rfl, rfl, rfl⟩ := trodAll_nil r2
  obtain rfl : args = #[v0, v1, v2] := by cases args; simp_all
  obtain ⟨rfl, rfl⟩ := trodVars_none hV
  have k0 := h0
  have lt0 : ∀ x ∈ p0, x.block < W.heap.size := by obtain ⟨m, hm⟩ := k0; exact DataW.trod_lt m _ _ _ hm
  have k1 := h1
  have lt1 : ∀ x ∈ p1, x.block < W.heap.size := by obtain ⟨m, hm⟩ := k1; exact DataW.trod_lt m _ _ _ hm
  have k2 := h2
  have lt2 : ∀ x ∈ p2, x.block < W.heap.size := by obtain ⟨m, hm⟩ := k2; exact DataW.trod_lt m _ _ _ hm
  have e0 := h0
  obtain ⟨c0x, c0y, c0z, c0u, y0x, y0y, y0z, y0u, m0, rfl, hd0, hp0, hy0x, hy0y, hy0z, hy0u⟩ := Go.Joins.open_agg4 Try.underlying35 (by kernel_rfl) (show Try.prog.cellsOf 35 = 4 by kernel_rfl) (hval 0 35 v0 rfl rfl) e0
  clear e0 hd0 hp0
  obtain ⟨a0x, f0x, g0x, w0x⟩ := DataW.trod_int Try.underlying3 hy0x
  simp only [List.cons.injEq, and_true] at f0x
  subst f0x
  clear hy0x g0x
  obtain ⟨a0y, f0y, g0y, w0y⟩ := DataW.trod_int Try.underlying3 hy0y
  simp only [List.cons.injEq, and_true] at f0y
  subst f0y
  clear hy0y g0y
  obtain ⟨a0z, f0z, g0z, w0z⟩ := DataW.trod_int Try.underlying3 hy0z
  simp only [List.cons.injEq, and_true] at f0z
  subst f0z
  clear hy0z g0z
  obtain ⟨a0u, f0u, g0u, w0u⟩ := DataW.trod_int Try.underlying3 hy0u
  simp only [List.cons.injEq, and_true] at f0u
  subst f0u
  clear hy0u g0u
  have e1 := h1
  obtain ⟨c1x, c1y, c1z, c1u, y1x, y1y, y1z, y1u, m1, rfl, hd1, hp1, hy1x, hy1y, hy1z, hy1u⟩ := Go.Joins.open_agg4 Try.underlying35 (by kernel_rfl) (show Try.prog.cellsOf 35 = 4 by kernel_rfl) (hval 1 35 v1 rfl rfl) e1
  clear e1 hd1 hp1
  obtain ⟨a1x, f1x, g1x, w1x⟩ := DataW.trod_int Try.underlying3 hy1x
  simp only [List.cons.injEq, and_true] at f1x
  subst f1x
  clear hy1x g1x
  obtain ⟨a1y, f1y, g1y, w1y⟩ := DataW.trod_int Try.underlying3 hy1y
  simp only [List.cons.injEq, and_true] at f1y
  subst f1y
  clear hy1y g1y
  obtain ⟨a1z, f1z, g1z, w1z⟩ := DataW.trod_int Try.underlying3 hy1z
  simp only [List.cons.injEq, and_true] at f1z
  subst f1z
  clear hy1z g1z
  obtain ⟨a1u, f1u, g1u, w1u⟩ := DataW.trod_int Try.underlying3 hy1u
  simp only [List.cons.injEq, and_true] at f1u
  subst f1u
  clear hy1u g1u
  have e2 := h2
  obtain ⟨a2, rfl, hd2, hp2, w2⟩ := open_int Try.underlying5 (hval 2 5 v2 rfl rfl) e2
  clear e2
  clear hA0 hval0
  simp only [List.append_nil] at hW'
  refine (pointMixed_walk a0x a0y a0z a0u a1x a1y a1z a1u a2 W w0x w0y w0z w0u w1x w1y w1z w1u w2).mono fun e W' ⟨he, bel⟩ => ?_
  subst he
  exact ⟨_, rfl, _, _, _, [], _, [], hW', trodAll_mk1 (shut_bool Try.underlying4 _), (trodAll_cons_mk (Below.trod laidOut (by kernel_rfl) (of_decide_eq_true (by kernel_rfl)) k0 bel lt0) (trodAll_cons_mk (Below.trod laidOut (by kernel_rfl) (of_decide_eq_true (by kernel_rfl)) k1 bel lt1) (trodAll_cons_mk (Below.trod laidOut (by kernel_rfl) (of_decide_eq_true (by kernel_rfl)) k2 bel lt2) trodAll_mk0))), rfl, bel.frame _, fun h => by cases h⟩

theorem row : Rows.PointMixedSaid :=
  OpenClaim.holds_of_wide 8 Try.f8 rfl rfl rfl rfl rfl rfl rfl ⟨rfl, rfl, rfl, rfl, rfl⟩ rfl rfl rfl rfl rfl (by kernel_rfl) Try.func8 (by kernel_rfl)
    (of_decide_eq_true (by kernel_rfl)) (by unfold Func.isWrapper; first | (rw [if_pos (by decide +kernel)]; kernel_rfl) | (rw [if_neg (by decide +kernel)]; exact ⟨rfl, rfl⟩))
    (fun os started H enc _ => lifted os started H enc)

/-- ████ THE STATEMENT ████ -/
theorem proved : Rows.PointMixedSaid := row
#print axioms proved
end Go.Proofs.Ytmkhliabmodbdaa.pointMixed
