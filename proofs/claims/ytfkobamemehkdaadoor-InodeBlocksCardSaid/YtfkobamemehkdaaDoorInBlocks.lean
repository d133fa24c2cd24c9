/-
  The walk of InodeBlocks: how many blocks hold any number of bytes.
-/
import Derived.Test.YtfkobamemehkdaaDoorInAwake
import Derived.OpenShut
namespace Go.Proofs.YtfkobamemehkdaaDoor
open Go.RowKit

set_option maxHeartbeats 400000 in
theorem refBlocks_any (s : Int) (w : World) (h1 : s ≤ 9223372036854775807) : Calls Tryd.prog 21 #[.int .i64 s] w fun e w' => e = .returned (.int .i64 (blocksM s)) ∧ w = w' := by
  by_cases h : s ≤ 0
  · have e : blocksM s = 0 := by unfold blocksM; rw [if_pos (by omega)]
    rw [e]
    clear e
    go_enter Tryd.func21, Tryd.ntmps21
    go_wp2
    go_ret
    exact ⟨rfl, rfl⟩
  · have hp : 0 ≤ s := by omega
    by_cases hr : 0 < s % 64
    · have e : blocksM s = s / 64 + 1 := by unfold blocksM; rw [if_neg (by omega)]; omega
      rw [e]
      clear e
      have hq : 0 ≤ s / 64 ∧ s / 64 ≤ 9223372036854775000 := by omega
      go_enter Tryd.func21, Tryd.ntmps21
      go_wp2
      go_ret
      exact ⟨rfl, rfl⟩
    · have e : blocksM s = s / 64 := by unfold blocksM; rw [if_neg (by omega)]; omega
      rw [e]
      clear e
      go_enter Tryd.func21, Tryd.ntmps21
      go_wp2
      go_ret
      exact ⟨rfl, rfl⟩
set_option maxHeartbeats 600000 in
theorem inodeBlocks_walk (s : Int) (w : World) (hL : Tab w ∧ 0 < w.heap.size) (hs : (Lit.int .i64 s).wf = true) :
    Calls Tryd.prog 6 #[.int .i64 s] w fun e w' => e = .returned (.bool true) ∧ Below w.heap.size w w' := by
  have hb := Go.bounds_i64 hs
  have HA := Lib.hid (awake_any w hL.1 hL.2)
  have H1 := Lib.hid (fun W => blocks_any s W hb.2)
  have H2 := Lib.hid (fun W => refBlocks_any s W hb.2)
  clear hL hs
  by_cases h : s ≤ 0
  · have e : blocksM s = 0 := by unfold blocksM; rw [if_pos (by omega)]
    rw [e] at H1 H2
    clear e
    go_enter Tryd.func6, Tryd.ntmps6
    go_wp2_with fail
    refine HA.out.mono ?_
    rintro e w1 ⟨rfl, hb1⟩
    have HB1 := Lib.hid hb1
    clear hb1
    go_wp2_with fail
    refine (H1.out _).mono ?_
    rintro e w2 ⟨rfl, rfl⟩
    go_wp2_with fail
    refine (H2.out _).mono ?_
    rintro e w2 ⟨rfl, rfl⟩
    go_wp2_with fail
    go_ret
    exact ⟨by first | rfl | simp, HB1.out⟩
  · have e : 1 ≤ blocksM s ∧ blocksM s ≤ 9223372036854775000 ∧ 1 ≤ s - (blocksM s - 1) * 64 ∧ s - (blocksM s - 1) * 64 ≤ 64 := by unfold blocksM; rw [if_neg (by omega)]; omega
    generalize blocksM s = q at *
    have hn : (q != q) = false := by simp
    go_enter Tryd.func6, Tryd.ntmps6
    go_wp2_with fail
    refine HA.out.mono ?_
    rintro e w1 ⟨rfl, hb1⟩
    have HB1 := Lib.hid hb1
    clear hb1
    go_wp2_with fail
    refine (H1.out _).mono ?_
    rintro e w2 ⟨rfl, rfl⟩
    go_wp2_with fail
    refine (H2.out _).mono ?_
    rintro e w2 ⟨rfl, rfl⟩
    go_wp2_with fail
    go_ret
    exact ⟨by first | rfl | simp, HB1.out⟩
end Go.Proofs.YtfkobamemehkdaaDoor
