/-
  The walks of points: outside, Check, Compare, Or, Newer.
-/
import Derived.Test.YtmkhliabmodbdaaPtMath
import Derived.Test.YtmkhliabmodbdaaRows
import Derived.Test.YtmkhliabmodbdaaQuiet
namespace Go.Proofs.Ytmkhliabmodbdaa
open Go.RowKit

abbrev PNT := 35
theorem sup_pt (w : World) (o : Obj) : Below w.heap.size w (w.alloc o) := (Below.refl _ _).alloc (Nat.le_refl _) o
set_option maxHeartbeats 400000 in
theorem outside_any (v m : Int) (w : World) : Calls Try.prog 50 #[.int .i64 v, .int .i64 m] w fun e w' => e = .returned (.bool (decide (v < 0 ∨ m < v))) ∧ w = w' := by
  by_cases h : v < 0
  · go_enter Try.func50, Try.ntmps50
    go_wp2
    go_ret
    exact ⟨by simp [h], rfl⟩
  · by_cases h2 : m < v
    · go_enter Try.func50, Try.ntmps50
      go_wp2
      go_ret
      exact ⟨by simp [h2], rfl⟩
    · go_enter Try.func50, Try.ntmps50
      go_wp2
      go_ret
      exact ⟨by simp [h, h2], rfl⟩
theorem outside_no (v m : Int) (w : World) (h : 0 ≤ v ∧ v ≤ m) : Calls Try.prog 50 #[.int .i64 v, .int .i64 m] w fun e w' => e = .returned (.bool false) ∧ w = w' :=
  (outside_any v m w).mono fun _ _ ⟨h1, h2⟩ => ⟨by rw [h1, decide_eq_false (by omega)], h2⟩
theorem outside_yes (v m : Int) (w : World) (h : v < 0 ∨ m < v) : Calls Try.prog 50 #[.int .i64 v, .int .i64 m] w fun e w' => e = .returned (.bool true) ∧ w = w' :=
  (outside_any v m w).mono fun _ _ ⟨h1, h2⟩ => ⟨by rw [h1, decide_eq_true h], h2⟩
set_option maxHeartbeats 1000000 in
theorem check_yes (e c n f : Int) (w : World) (h : Good4 ⟨e, c, n, f⟩) : Calls Try.prog 30 #[.agg #[.int .i64 e, .int .i64 c, .int .i64 n, .int .i64 f]] w fun e w' => e = .returned (.int .i64 0) ∧ Below w.heap.size w w' := by
  obtain ⟨h1, h2, h3, h4⟩ := h
  simp only at h1 h2 h3 h4
  go_enter Try.func30, Try.ntmps30
  go_wp2_with fail
  refine (outside_no e 65535 _ h1).mono ?_
  rintro e w' ⟨rfl, rfl⟩
  go_wp2_with fail
  refine (outside_no c 65535 _ h2).mono ?_
  rintro e w' ⟨rfl, rfl⟩
  go_wp2_with fail
  refine (outside_no n 4095 _ h3).mono ?_
  rintro e w' ⟨rfl, rfl⟩
  go_wp2_with fail
  refine (outside_no f 4095 _ h4).mono ?_
  rintro e w' ⟨rfl, rfl⟩
  go_wp2
  go_ret
  exact ⟨rfl, sup_pt _ _⟩
set_option maxHeartbeats 2000000 in
theorem check_no (e c n f : Int) (w : World) (h : ¬ Good4 ⟨e, c, n, f⟩) : Calls Try.prog 30 #[.agg #[.int .i64 e, .int .i64 c, .int .i64 n, .int .i64 f]] w fun e w' => e = .returned (.int .i64 22) ∧ Below w.heap.size w w' := by
  by_cases h1 : 0 ≤ e ∧ e ≤ 65535
  · by_cases h2 : 0 ≤ c ∧ c ≤ 65535
    · by_cases h3 : 0 ≤ n ∧ n ≤ 4095
      · have h4 : f < 0 ∨ 4095 < f := by
          by_cases q : 0 ≤ f ∧ f ≤ 4095
          · exact absurd ⟨h1, h2, h3, q⟩ h
          · omega
        clear h
        go_enter Try.func30, Try.ntmps30
        go_wp2_with fail
        refine (outside_no e 65535 _ h1).mono ?_
        rintro e w' ⟨rfl, rfl⟩
        go_wp2_with fail
        refine (outside_no c 65535 _ h2).mono ?_
        rintro e w' ⟨rfl, rfl⟩
        go_wp2_with fail
        refine (outside_no n 4095 _ h3).mono ?_
        rintro e w' ⟨rfl, rfl⟩
        go_wp2_with fail
        refine (outside_yes f 4095 _ h4).mono ?_
        rintro e w' ⟨rfl, rfl⟩
        go_wp2
        go_ret
        exact ⟨rfl, sup_pt _ _⟩
      · have h3' : n < 0 ∨ 4095 < n := by omega
        clear h
        go_enter Try.func30, Try.ntmps30
        go_wp2_with fail
        refine (outside_no e 65535 _ h1).mono ?_
        rintro e w' ⟨rfl, rfl⟩
        go_wp2_with fail
        refine (outside_no c 65535 _ h2).mono ?_
        rintro e w' ⟨rfl, rfl⟩
        go_wp2_with fail
        refine (outside_yes n 4095 _ h3').mono ?_
        rintro e w' ⟨rfl, rfl⟩
        go_wp2
        go_ret
        exact ⟨rfl, sup_pt _ _⟩
    · have h2' : c < 0 ∨ 65535 < c := by omega
      clear h
      go_enter Try.func30, Try.ntmps30
      go_wp2_with fail
      refine (outside_no e 65535 _ h1).mono ?_
      rintro e w' ⟨rfl, rfl⟩
      go_wp2_with fail
      refine (outside_yes c 65535 _ h2').mono ?_
      rintro e w' ⟨rfl, rfl⟩
      go_wp2
      go_ret
      exact ⟨rfl, sup_pt _ _⟩
  · have h1' : e < 0 ∨ 65535 < e := by omega
    clear h
    go_enter Try.func30, Try.ntmps30
    go_wp2_with fail
    refine (outside_yes e 65535 _ h1').mono ?_
    rintro e w' ⟨rfl, rfl⟩
    go_wp2
    go_ret
    exact ⟨rfl, sup_pt _ _⟩
set_option maxHeartbeats 400000 in
theorem nan_any (a : Int) (w : World) : Calls Try.prog 55 #[.int .i64 a] w fun e w' => e = .returned (.bool false) ∧ w = w' := by
  have h : (a != a) = false := by simp
  go_enter Try.func55, Try.ntmps55
  go_wp2
  go_ret
  exact ⟨rfl, rfl⟩
set_option maxHeartbeats 1000000 in
theorem compare_any (a b : Int) (w : World) : Calls Try.prog 54 #[.int .i64 a, .int .i64 b] w fun e w' => e = .returned (.int .i64 (cmpV a b)) ∧ w = w' := by
  by_cases h1 : a < b
  · have hv : cmpV a b = -1 := if_pos h1
    rw [hv]
    clear hv
    go_enter Try.func54, Try.ntmps54
    go_wp2_with fail
    refine (nan_any a _).mono ?_
    rintro e w' ⟨rfl, rfl⟩
    go_wp2_with fail
    refine (nan_any b _).mono ?_
    rintro e w' ⟨rfl, rfl⟩
    go_wp2
    go_ret
    exact ⟨rfl, rfl⟩
  · by_cases h2 : b < a
    · have hv : cmpV a b = 1 := by unfold cmpV; rw [if_neg h1, if_pos h2]
      rw [hv]
      clear hv
      go_enter Try.func54, Try.ntmps54
      go_wp2_with fail
      refine (nan_any a _).mono ?_
      rintro e w' ⟨rfl, rfl⟩
      go_wp2_with fail
      refine (nan_any b _).mono ?_
      rintro e w' ⟨rfl, rfl⟩
      go_wp2
      go_ret
      exact ⟨rfl, rfl⟩
    · have hv : cmpV a b = 0 := by unfold cmpV; rw [if_neg h1, if_neg h2]
      rw [hv]
      clear hv
      go_enter Try.func54, Try.ntmps54
      go_wp2_with fail
      refine (nan_any a _).mono ?_
      rintro e w' ⟨rfl, rfl⟩
      go_wp2_with fail
      refine (nan_any b _).mono ?_
      rintro e w' ⟨rfl, rfl⟩
      go_wp2
      go_ret
      exact ⟨rfl, rfl⟩
set_option maxHeartbeats 1000000 in
theorem or_any (a b : Int) (g : Nat) (w : World) (h0 : w.cell? ⟨g, 0, none⟩ = some (.int .i64 a)) (h1 : w.cell? ⟨g, 1, none⟩ = some (.int .i64 b)) :
    Calls Try.prog 53 #[.slice (some ⟨g, 0, none⟩) 2 2] w fun e w' => e = .returned (.int .i64 (orV a b)) ∧ w = w' := by
  by_cases ha : a = 0
  · have hv : orV a b = b := if_pos ha
    rw [hv]
    clear hv
    subst ha
    by_cases hb : b = 0
    · subst hb
      go_enter Try.func53, Try.ntmps53
      go_wp2
      refine wp_loop_rounds 3 ?_
      rw [rounds_succ]
      go_wp2
      rw [rounds_succ]
      go_wp2
      rw [rounds_succ]
      go_wp2
      go_ret
      exact ⟨rfl, rfl⟩
    · have hb' : (b != 0) = true := by simpa using hb
      go_enter Try.func53, Try.ntmps53
      go_wp2
      refine wp_loop_rounds 2 ?_
      rw [rounds_succ]
      go_wp2
      rw [rounds_succ]
      go_wp2
      go_ret
      exact ⟨rfl, rfl⟩
  · have hv : orV a b = a := if_neg ha
    have ha' : (a != 0) = true := by simpa using ha
    rw [hv]
    clear hv
    go_enter Try.func53, Try.ntmps53
    go_wp2
    refine wp_loop_rounds 1 ?_
    rw [rounds_succ]
    go_wp2
    go_ret
    exact ⟨rfl, rfl⟩
end Go.Proofs.Ytmkhliabmodbdaa
