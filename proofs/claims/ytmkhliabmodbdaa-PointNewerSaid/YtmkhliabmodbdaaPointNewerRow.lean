/-
  of any two points at most one is newer; it goes through; of like Epochs and Counts none is
-/
import Derived.Test.YtmkhliabmodbdaaPtNewLaw
import Derived.Test.YtmkhliabmodbdaaRows
import Derived.ProofKit
import Derived.OpenShut
import Derived.ShutString
import Derived.ChangeOld
import Derived.Below
import Derived.Lib.SmallJoins
namespace Go.Proofs.Ytmkhliabmodbdaa.pointNewer
open Go.ChangeShapes Go.WideShapes Go.ChangeAt Go.RowKit
open Go.ChangeMaps (open_string shut_string)
set_option linter.unusedVariables false

theorem own : ownKnob Try.prog.godebug = none := by kernel_rfl
theorem laidOut : laidOutB Try.prog = true := by kernel_rfl

set_option maxRecDepth 100000 in
theorem lifted (os : Os) (started : os.Started) (H : Type) (enc : TypeId × Value → H) :
    ReturnsInHanded {} Try.checked os 6 .any (Rows.pointNewerSpec.pre6 enc Try.prog Try.f6 Rows.pointNewerRow.domain false)
      (Rows.pointNewerSpec.post enc Try.prog Try.f6 false true false false) := by
  refine returnsInHanded_of_change (C := Try.checked) own started (by kernel_rfl) Try.func6
    (ChangeSpec.witness6 (enc := enc) (C := Try.checked) false ⟨#[], #[.agg #[.int .i64 0, .int .i64 0, .int .i64 0, .int .i64 0], .agg #[.int .i64 0, .int .i64 0, .int .i64 0, .int .i64 0], .agg #[.int .i64 0, .int .i64 0, .int .i64 0, .int .i64 0]], []⟩ 8 (by kernel_rfl) (by kernel_rfl) (by kernel_rfl) (by kernel_rfl)) ?_
  intro W base args ds gs before hval0 hW hcnd _
  have hval : ∀ (j : Nat) t v, Try.f6.params[j]? = some t → args[j]? = some v → Value.okWide Try.prog W .any base t v := hval0
  have hW' := hW
  obtain ⟨p, q, hA0, hV, rfl, hfz, hnd⟩ := hW
  have hA : DataW.TrodAll enc Try.prog W 0 (fun _ => true) true Try.f6.params.toList args.toList ds p := hA0
  rw [Try.params6] at hA hval
  obtain ⟨v0, vs0, d0, ds0, p0, q0, hargs, rfl, rfl, h0, r0⟩ := trodAll_cons hA
  obtain ⟨v1, vs1, d1, ds1, p1, q1, rfl, rfl, rfl, h1, r1⟩ := trodAll_cons r0
  obtain ⟨v2, vs2, d2, ds2, p2, q2, rfl, rfl, rfl, h2, r2⟩ := trodAll_cons r1
  obtain ⟨rfl, rfl, rfl⟩ := trodAll_nil r2
  obtain rfl : args = #[v0, v1, v2] := by cases args; simp_all
  obtain ⟨rfl, rfl⟩ := trodVars_none hV
  have k0 := h0
  have lt0 : ∀ x ∈ p0, x.block < W.heap.size := by obtain ⟨m, hm⟩ := k0; exact DataW.trod_lt m _ _ _ hm
  have k1 := h1
  have lt1 : ∀ x ∈ p1, x.block < W.heap.size := by obtain ⟨m, hm⟩ := k1; exact DataW.trod_lt m _ _ _ hm
  have k2 := h2
  have lt2 : ∀ x ∈ p2, x.block < W.heap.size := by obtain ⟨m, hm⟩ := k2; exact DataW.trod_lt m _ _ _ hm
  have e0 := h0
  obtain ⟨c0x, c0y, c0z, c0u, y0x, y0y, y0z, y0u, m0, rfl, hd0, hp0, hy0x, hy0y, hy0z, hy0u⟩ := Go.Joins.open_agg4 Try.underlying35 (by kernel_rfl) (show Try.prog.cellsOf 35 = 4 by kernel_rfl) (hval 0 35 v0 rfl rfl) e0
  clear e0 hd0 hp0
  obtain ⟨a0x, f0x, g0x, w0x⟩ := DataW.trod_int Try.underlying3 hy0x
  simp only [List.cons.injEq, and_true] at f0x
  subst f0x
  clear hy0x g0x
  obtain ⟨a0y, f0y, g0y, w0y⟩ := DataW.trod_int Try.underlying3 hy0y
  simp only [List.cons.injEq, and_true] at f0y
  subst f0y
  clear hy0y g0y
  obtain ⟨a0z, f0z, g0z, w0z⟩ := DataW.trod_int Try.underlying3 hy0z
  simp only [List.cons.injEq, and_true] at f0z
  subst f0z
  clear hy0z g0z
  obtain ⟨a0u, f0u, g0u, w0u⟩ := DataW.trod_int Try.underlying3 hy0u
  simp only [List.cons.injEq, and_true] at f0u
  subst f0u
  clear hy0u g0u
  have e1 := h1
  obtain ⟨c1x, c1y, c1z, c1u, y1x, y1y, y1z, y1u, m1, rfl, hd1, hp1, hy1x, hy1y, hy1z, hy1u⟩ := Go.Joins.open_agg4 Try.underlying35 (by kernel_rfl) (show Try.prog.cellsOf 35 = 4 by kernel_rfl) (hval 1 35 v1 rfl rfl) e1
  clear e1 hd1 hp1
  obtain ⟨a1x, f1x, g1x, w1x⟩ := DataW.trod_int Try.underlying3 hy1x
  simp only [List.cons.injEq, and_true] at f1x
  subst f1x
  clear hy1x g1x
  obtain ⟨a1y, f1y, g1y, w1y⟩ := DataW.trod_int Try.underlying3 hy1y
  simp only [List.cons.injEq, and_true] at f1y
  subst f1y
  clear hy1y g1y
  obtain ⟨a1z, f1z, g1z, w1z⟩ := DataW.trod_int Try.underlying3 hy1z
  simp only [List.cons.injEq, and_true] at f1z
  subst f1z
  clear hy1z g1z
  obtain ⟨a1u, f1u, g1u, w1u⟩ := DataW.trod_int Try.underlying3 hy1u
  simp only [List.cons.injEq, and_true] at f1u
  subst f1u
  clear hy1u g1u
  have e2 := h2
  obtain ⟨c2x, c2y, c2z, c2u, y2x, y2y, y2z, y2u, m2, rfl, hd2, hp2, hy2x, hy2y, hy2z, hy2u⟩ := Go.Joins.open_agg4 Try.underlying35 (by kernel_rfl) (show Try.prog.cellsOf 35 = 4 by kernel_rfl) (hval 2 35 v2 rfl rfl) e2
  clear e2 hd2 hp2
  obtain ⟨a2x, f2x, g2x, w2x⟩ := DataW.trod_int Try.underlying3 hy2x
  simp only [List.cons.injEq, and_true] at f2x
  subst f2x
  clear hy2x g2x
  obtain ⟨a2y, f2y, g2y, w2y⟩ := DataW.trod_int Try.underlying3 hy2y
  simp only [List.cons.injEq, and_true] at f2y
  subst f2y
  clear hy2y g2y
  obtain ⟨a2z, f2z, g2z, w2z⟩ := DataW.trod_int Try.underlying3 hy2z
  simp only [List.cons.injEq, and_true] at f2z
  subst f2z
  clear hy2z g2z
  obtain ⟨a2u, f2u, g2u, w2u⟩ := DataW.trod_int Try.underlying3 hy2u
  simp only [List.cons.injEq, and_true] at f2u
  subst f2u
  clear hy2u g2u
  clear hA0 hval0
  simp only [List.append_nil] at hW'
  refine (pointNewer_walk a0x a0y a0z a0u a1x a1y a1z a1u a2x a2y a2z a2u W w0x w0y w0z w0u w1x w1y w1z w1u w2x w2y w2z w2u).mono fun e W' ⟨he, bel⟩ => ?_
  subst he
  exact ⟨_, rfl, _, _, _, [], _, [], hW', trodAll_mk1 (shut_bool Try.underlying4 _), (trodAll_cons_mk (Below.trod laidOut (by kernel_rfl) (of_decide_eq_true (by kernel_rfl)) k0 bel lt0) (trodAll_cons_mk (Below.trod laidOut (by kernel_rfl) (of_decide_eq_true (by kernel_rfl)) k1 bel lt1) (trodAll_cons_mk (Below.trod laidOut (by kernel_rfl) (of_decide_eq_true (by kernel_rfl)) k2 bel lt2) trodAll_mk0))), rfl, bel.frame _, fun h => by cases h⟩

theorem row : Rows.PointNewerSaid :=
  OpenClaim.holds_of_wide 6 Try.f6 rfl rfl rfl rfl rfl rfl rfl ⟨rfl, rfl, rfl, rfl, rfl⟩ rfl rfl rfl rfl rfl (by kernel_rfl) Try.func6 (by kernel_rfl)
    (of_decide_eq_true (by kernel_rfl)) (by unfold Func.isWrapper; first | (rw [if_pos (by decide +kernel)]; kernel_rfl) | (rw [if_neg (by decide +kernel)]; exact ⟨rfl, rfl⟩))
    (fun os started H enc _ => lifted os started H enc)

/-- ████ THE STATEMENT ████ -/
theorem proved : Rows.PointNewerSaid := row
#print axioms proved
end Go.Proofs.Ytmkhliabmodbdaa.pointNewer
