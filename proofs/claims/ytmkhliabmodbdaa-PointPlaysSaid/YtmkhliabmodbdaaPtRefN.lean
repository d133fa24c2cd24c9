/-
  The walks of the law's ref and the document's Newer.
-/
import Derived.Test.YtmkhliabmodbdaaPtAwake
namespace Go.Proofs.Ytmkhliabmodbdaa
open Go.RowKit

abbrev RPT := 42
set_option maxHeartbeats 1000000 in
theorem ref_any (e c n f : Int) (w : World) : Calls Try.prog 14 #[.agg #[.int .i64 e, .int .i64 c, .int .i64 n, .int .i64 f]] w fun e' w' => e' = .returned (.agg #[.int .i64 e, .int .i64 c, .int .i64 n, .int .i64 f]) ∧ Below w.heap.size w w' := by
  go_enter Try.func14, Try.ntmps14
  go_wp2
  refine bodyPost_ret (v := .agg #[.int .i64 e, .int .i64 c, .int .i64 n, .int .i64 f]) ?_ rfl ⟨rfl, ?_⟩
  · simp [results, Try.results14, go_sem]
  · first
      | exact ((Below.refl _ _).alloc (Nat.le_refl _) _).alloc (by simp) _
      | exact below_4 (((Below.refl _ _).alloc (Nat.le_refl _) _).alloc (by simp) _) (by omega)
set_option maxHeartbeats 2000000 in
theorem refNewer_any (e c n f e2 c2 n2 f2 : Int) (w : World) : Calls Try.prog 34 #[.agg #[.int .i64 e, .int .i64 c, .int .i64 n, .int .i64 f], .agg #[.int .i64 e2, .int .i64 c2, .int .i64 n2, .int .i64 f2]] w fun e' w' => e' = .returned (.bool (newB ⟨e, c, n, f⟩ ⟨e2, c2, n2, f2⟩)) ∧ Below w.heap.size w w' := by
  have hbb : ∀ o1 o2, Below w.heap.size w ((w.alloc o1).alloc o2) := fun o1 o2 => ((Below.refl _ _).alloc (Nat.le_refl _) _).alloc (by simp) _
  have HBB := Lib.hid hbb
  clear hbb
  by_cases h1 : e2 < e
  · have hv : newB ⟨e, c, n, f⟩ ⟨e2, c2, n2, f2⟩ = true := (newB_iff _ _).2 (.inl h1)
    rw [hv]
    clear hv
    go_enter Try.func34, Try.ntmps34
    go_wp2
    go_ret
    exact ⟨rfl, HBB.out _ _⟩
  · by_cases h2 : e = e2
    · subst h2
      by_cases h3 : c2 < c
      · have hv : newB ⟨e, c, n, f⟩ ⟨e, c2, n2, f2⟩ = true := (newB_iff _ _).2 (.inr ⟨rfl, h3⟩)
        rw [hv]
        clear hv
        have hq : (e == e) = true := by simp
        go_enter Try.func34, Try.ntmps34
        go_wp2
        go_ret
        exact ⟨rfl, HBB.out _ _⟩
      · have hv : newB ⟨e, c, n, f⟩ ⟨e, c2, n2, f2⟩ = false := (newB_false _ _).2 (fun h => by unfold NewP at h; simp only at h; omega)
        rw [hv]
        clear hv
        have hq : (e == e) = true := by simp
        go_enter Try.func34, Try.ntmps34
        go_wp2
        go_ret
        exact ⟨rfl, HBB.out _ _⟩
    · have hv : newB ⟨e, c, n, f⟩ ⟨e2, c2, n2, f2⟩ = false := (newB_false _ _).2 (fun h => by unfold NewP at h; simp only at h; omega)
      rw [hv]
      clear hv
      have hq : (e == e2) = false := by rw [beq_eq_false_iff_ne]; exact h2
      clear h2
      go_enter Try.func34, Try.ntmps34
      go_wp2
      go_ret
      exact ⟨rfl, HBB.out _ _⟩
end Go.Proofs.Ytmkhliabmodbdaa
