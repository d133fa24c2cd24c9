/-
  Pack: take, last, current.
-/
import Derived.Test.YtonlhkhjdnaojaaPcNext
import Derived.Test.YtonlhkhjdnaojaaQuiet
namespace Go.Proofs.Ytonlhkhjdnaojaa
open Go.RowKit

section
variable {w w' : World} {base g N : Nat} {sz lf bl wd : Int} {op : Bool} {pv : Value} {fv : Nat → Value} {av : Nat → Nat → Value} {I V : Nat → Int} {nw : Nat → Bool} {Z : Nat → Pz}
theorem Pk.at_ (h : Pk w base g sz lf bl wd op pv fv av I V N nw Z) : (∀ y : Kept w, y.at_.cell? ⟨g, 0, none⟩ = some pv) ∧ (∀ y : Kept w, y.at_.cell? ⟨g, 2, none⟩ = some (.int .i64 lf)) ∧ (∀ y : Kept w, y.at_.cell? ⟨g, 3, none⟩ = some (.int .i64 bl)) ∧ (∀ y : Kept w, y.at_.cell? ⟨g, 4, none⟩ = some (.int .i64 wd)) ∧ (∀ y : Kept w, y.at_.cell? ⟨g, 5, none⟩ = some (.bool op)) :=
  ⟨fun y => (h.top.later y.below).cell 0, fun y => (h.top.later y.below).cell 2, fun y => (h.top.later y.below).cell 3, fun y => (h.top.later y.below).cell 4, fun y => (h.top.later y.below).cell 5⟩
set_option maxHeartbeats 2000000 in
theorem take_yes (h : Pk w base g sz lf bl wd true pv fv av I V N nw Z) (c : Int) (hw : base ≤ w.heap.size) (h1 : ¬ lf < bl + 1) (h2 : ¬ 88 < wd + c) (hb0 : 0 ≤ bl) (hl1 : lf ≤ 100) (hw0 : 0 ≤ wd) (hc0 : 0 ≤ c) :
    Calls Try.prog 30 #[.pointer (some ⟨g, 0, none⟩), .int .i64 c] w fun e w' => e = .returned (.bool true) ∧ Pk w' base g sz lf (bl + 1) (wd + c) true pv fv av I V N nw Z ∧ Below base w w' ∧ Out (fun q => q = g) w w' := by
  have H := Lib.hid h
  obtain ⟨-, t2, t3, t4, t5⟩ := h.at_
  have hw1 : wd ≤ 88 := by omega
  have hc1 : c ≤ 88 := by omega
  have d1 : decide (lf < bl + 1) = false := decide_eq_false h1
  have d2 : decide (88 < wd + c) = false := decide_eq_false h2
  clear h
  go_enter Try.func30, Try.ntmps30
  go_wp2_with fail
  refine wp_region_kept (by kernel_rfl) (by kernel_rfl) ?_
  repeat (first | go_big_quiet_step (fail) | (simp only [d1, d2]; go_big_quiet_step (fail)))
  refine wpQuiet_nil ?_
  rintro W ⟨wx, rfl⟩
  have H1 := Lib.hid (H.out.later wx.below)
  have B1 := Lib.hid (wx.below.mono hw)
  have O1 := Lib.hid (Out.of_below (X := fun q => q = g) wx.below)
  clear t2 t3 t4 t5 H
  generalize wx.at_ = w1 at *
  have u3 := H1.out.top.cell 3
  have u4 := H1.out.top.cell 4
  have g3 := H1.out.top.frozen 3
  have g4 := H1.out.top.frozen 4
  simp at u3 u4
  go_wp2
  go_ret
  have q1 := H1.out.put 3 (.int .i64 (bl + 1)) (lf' := lf) (bl' := bl + 1) (wd' := wd) (op' := true) rfl
  have q2 := q1.put 4 (.int .i64 (wd + c)) (lf' := lf) (bl' := bl + 1) (wd' := wd + c) (op' := true) rfl
  exact ⟨rfl, q2, (B1.out.setCell (p := ⟨g, 3, none⟩) q2.bg _).setCell (p := ⟨g, 4, none⟩) q2.bg _, (O1.out.trans (out_put (X := fun q => q = g) w1 ⟨g, 3, none⟩ _ rfl) (fun _ _ h => h)).trans (out_put (X := fun q => q = g) _ ⟨g, 4, none⟩ _ rfl) (fun _ _ h => h)⟩
set_option maxHeartbeats 2000000 in
theorem take_words (h : Pk w base g sz lf bl wd true pv fv av I V N nw Z) (c : Int) (hw : base ≤ w.heap.size) (h1 : ¬ lf < bl + 1) (h2 : 88 < wd + c) (hb0 : 0 ≤ bl) (hl1 : lf ≤ 100) (hw0 : 0 ≤ wd) (hc0 : 0 ≤ c) (hw1 : wd ≤ 1000) (hc1 : c ≤ 1000) :
    Calls Try.prog 30 #[.pointer (some ⟨g, 0, none⟩), .int .i64 c] w fun e w' => e = .returned (.bool false) ∧ Pk w' base g sz lf bl wd true pv fv av I V N nw Z ∧ Below base w w' ∧ Out (fun q => q = g) w w' := by
  have H := Lib.hid h
  obtain ⟨-, t2, t3, t4, t5⟩ := h.at_
  have d1 : decide (lf < bl + 1) = false := decide_eq_false h1
  have d2 : decide (88 < wd + c) = true := decide_eq_true h2
  clear h
  go_enter Try.func30, Try.ntmps30
  go_wp2_with fail
  refine wp_region_kept (by kernel_rfl) (by kernel_rfl) ?_
  repeat (first | go_big_quiet_step (fail) | (simp only [d1, d2]; go_big_quiet_step (fail)))
  refine wpQuiet_nil ?_
  rintro W ⟨wx, rfl⟩
  have H1 := Lib.hid (H.out.later wx.below)
  have B1 := Lib.hid (wx.below.mono hw)
  have O1 := Lib.hid (Out.of_below (X := fun q => q = g) wx.below)
  clear t2 t3 t4 t5 H
  go_wp2
  go_ret
  exact ⟨rfl, H1.out, B1.out, O1.out⟩
set_option maxHeartbeats 2000000 in
theorem take_left (h : Pk w base g sz lf bl wd true pv fv av I V N nw Z) (c : Int) (hw : base ≤ w.heap.size) (h1 : lf < bl + 1) (hb0 : 0 ≤ bl) (hb1 : bl ≤ 1000) :
    Calls Try.prog 30 #[.pointer (some ⟨g, 0, none⟩), .int .i64 c] w fun e w' => e = .returned (.bool false) ∧ Pk w' base g sz lf bl wd true pv fv av I V N nw Z ∧ Below base w w' ∧ Out (fun q => q = g) w w' := by
  have H := Lib.hid h
  obtain ⟨-, t2, t3, t4, t5⟩ := h.at_
  clear h
  go_enter Try.func30, Try.ntmps30
  go_wp2_with fail
  refine wp_region_kept (by kernel_rfl) (by kernel_rfl) ?_
  repeat (go_big_quiet_step (fail))
  refine wpQuiet_nil ?_
  rintro W ⟨wx, rfl⟩
  have H1 := Lib.hid (H.out.later wx.below)
  have B1 := Lib.hid (wx.below.mono hw)
  have O1 := Lib.hid (Out.of_below (X := fun q => q = g) wx.below)
  clear t2 t3 t4 t5 H
  go_wp2
  go_ret
  exact ⟨rfl, H1.out, B1.out, O1.out⟩
set_option maxHeartbeats 2000000 in
theorem take_shut (h : Pk w base g sz lf bl wd false pv fv av I V N nw Z) (c : Int) (hw : base ≤ w.heap.size) :
    Calls Try.prog 30 #[.pointer (some ⟨g, 0, none⟩), .int .i64 c] w fun e w' => e = .returned (.bool false) ∧ Pk w' base g sz lf bl wd false pv fv av I V N nw Z ∧ Below base w w' ∧ Out (fun q => q = g) w w' := by
  have H := Lib.hid h
  obtain ⟨-, t2, t3, t4, t5⟩ := h.at_
  clear h
  go_enter Try.func30, Try.ntmps30
  go_wp2_with fail
  refine wp_region_kept (by kernel_rfl) (by kernel_rfl) ?_
  repeat (go_big_quiet_step (fail))
  refine wpQuiet_nil ?_
  rintro W ⟨wx, rfl⟩
  have H1 := Lib.hid (H.out.later wx.below)
  have B1 := Lib.hid (wx.below.mono hw)
  have O1 := Lib.hid (Out.of_below (X := fun q => q = g) wx.below)
  clear t2 t3 t4 t5 H
  go_wp2
  go_ret
  exact ⟨rfl, H1.out, B1.out, O1.out⟩
set_option maxHeartbeats 2000000 in
theorem last_any {gp cap : Nat} (h : Pk w base g sz lf bl wd op (.slice (some ⟨gp, 0, none⟩) N cap) fv av I V N nw Z) (hN : 0 < N) (hN1 : N ≤ 1000) (hw : base ≤ w.heap.size) :
    Calls Try.prog 32 #[.pointer (some ⟨g, 0, none⟩)] w fun e w' => e = .returned (.pointer (some ⟨gp, (N - 1) * 3, none⟩)) ∧ Below w.heap.size w w' := by
  obtain ⟨t0, -, -, -, -⟩ := h.at_
  clear h
  obtain ⟨n, rfl⟩ : ∃ n, N = n + 1 := ⟨N - 1, by omega⟩
  have hz1 : wrap64 (((n + 1 : Nat) : Int) - 1) = (n : Int) := by rw [IntWalk.wrap64_in _ (by omega)]; omega
  have hz2 : (0 : Int) ≤ (n : Int) := by omega
  have hz3 : (n : Int) < ((n + 1 : Nat) : Int) := by omega
  go_enter Try.func32, Try.ntmps32
  go_wp2_with fail
  refine wp_region_kept (by kernel_rfl) (by kernel_rfl) ?_
  repeat (go_big_quiet_step (fail))
  refine wpQuiet_nil ?_
  rintro W ⟨wx, rfl⟩
  have B1 := Lib.hid wx.below
  go_wp2
  go_ret
  exact ⟨by simp, B1.out⟩
end
end Go.Proofs.Ytonlhkhjdnaojaa
