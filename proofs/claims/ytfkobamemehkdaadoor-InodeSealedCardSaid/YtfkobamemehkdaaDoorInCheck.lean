/-
  The walks of an inode's check.
-/
import Derived.Test.YtfkobamemehkdaaDoorInWalks
namespace Go.Proofs.YtfkobamemehkdaaDoor
open Go.RowKit

set_option maxHeartbeats 800000 in
theorem check_good (a b c d s : Int) (p0 p1 p2 p3 p4 p5 p6 p7 p8 : Nat) (w : World) (h : GoodI a b c d s) :
    Calls Tryd.prog 13 #[.agg (ino a b c d s p0 p1 p2 p3 p4 p5 p6 p7 p8)] w fun e w' => e = .returned (.int .i64 0) ∧ Below w.heap.size w w' := by
  obtain ⟨h1, h2, h3, h4, h5, h6, h7, h8, h9, h10⟩ := h
  have HB := Lib.hid (sup_below w)
  have hc : c = 0 ∨ c = 1 ∨ c = 2 := by omega
  clear h5 h6
  rcases hc with rfl | rfl | rfl
  all_goals
    go_enter Tryd.func13, Tryd.ntmps13
    go_wp2
    go_ret
    exact ⟨rfl, HB.out _⟩
set_option maxHeartbeats 1600000 in
theorem check_bad (a b c d s : Int) (p0 p1 p2 p3 p4 p5 p6 p7 p8 : Nat) (w : World) (h : ¬ GoodI a b c d s) :
    Calls Tryd.prog 13 #[.agg (ino a b c d s p0 p1 p2 p3 p4 p5 p6 p7 p8)] w fun e w' => e = .returned (.int .i64 22) ∧ Below w.heap.size w w' := by
  have HB := Lib.hid (sup_below w)
  have key : a < 1 ∨ (1 ≤ a ∧ 200 < a) ∨ (1 ≤ a ∧ a ≤ 200 ∧ b < 0) ∨ (1 ≤ a ∧ a ≤ 200 ∧ 0 ≤ b ∧ 65535 < b) ∨ (1 ≤ a ∧ a ≤ 200 ∧ 0 ≤ b ∧ b ≤ 65535 ∧ (c < 0 ∨ 2 < c)) ∨
      (1 ≤ a ∧ a ≤ 200 ∧ 0 ≤ b ∧ b ≤ 65535 ∧ (c = 0 ∨ c = 1 ∨ c = 2) ∧ d < 0) ∨ (1 ≤ a ∧ a ≤ 200 ∧ 0 ≤ b ∧ b ≤ 65535 ∧ (c = 0 ∨ c = 1 ∨ c = 2) ∧ 0 ≤ d ∧ 100 < d) ∨
      (1 ≤ a ∧ a ≤ 200 ∧ 0 ≤ b ∧ b ≤ 65535 ∧ (c = 0 ∨ c = 1 ∨ c = 2) ∧ 0 ≤ d ∧ d ≤ 100 ∧ s < 0) ∨ (1 ≤ a ∧ a ≤ 200 ∧ 0 ≤ b ∧ b ≤ 65535 ∧ (c = 0 ∨ c = 1 ∨ c = 2) ∧ 0 ≤ d ∧ d ≤ 100 ∧ 0 ≤ s ∧ 38400 < s) := by
    unfold GoodI at h
    omega
  clear h
  rcases key with h1 | ⟨h1, h2⟩ | ⟨h1, h2, h3⟩ | ⟨h1, h2, h3, h4⟩ | ⟨h1, h2, h3, h4, h5⟩ | ⟨h1, h2, h3, h4, h5, h6⟩ | ⟨h1, h2, h3, h4, h5, h6, h7⟩ | ⟨h1, h2, h3, h4, h5, h6, h7, h8⟩ | ⟨h1, h2, h3, h4, h5, h6, h7, h8, h9⟩
  case inr.inr.inr.inr.inl =>
    have c0 : (c != 0) = true := by simpa using (by omega : ¬ c = 0)
    have c1 : (c != 1) = true := by simpa using (by omega : ¬ c = 1)
    have c2 : (c != 2) = true := by simpa using (by omega : ¬ c = 2)
    clear h5
    go_enter Tryd.func13, Tryd.ntmps13
    go_wp2
    go_ret
    exact ⟨rfl, HB.out _⟩
  all_goals
    first
      | (rcases h5 with rfl | rfl | rfl <;> (go_enter Tryd.func13, Tryd.ntmps13; go_wp2; go_ret; exact ⟨rfl, HB.out _⟩))
      | (go_enter Tryd.func13, Tryd.ntmps13; go_wp2; go_ret; exact ⟨rfl, HB.out _⟩)
end Go.Proofs.YtfkobamemehkdaaDoor
