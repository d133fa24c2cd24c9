/-
  The walks of an inode's check.
-/
import Derived.Test.YtfkobamemehkdaaDoorInWalks
namespace Go.Proofs.YtfkobamemehkdaaDoor
open Go.RowKit

def chkV (a b c d s : Int) : Int := if 1 ≤ a ∧ a ≤ 200 ∧ 0 ≤ b ∧ b ≤ 65535 ∧ 0 ≤ c ∧ c ≤ 2 ∧ 0 ≤ d ∧ d ≤ 100 ∧ 0 ≤ s ∧ s ≤ 38400 then 0 else 22
set_option maxHeartbeats 1600000 in
theorem check_any (a b c d s : Int) (p0 p1 p2 p3 p4 p5 p6 p7 p8 : Nat) (w : World) :
    Calls Tryd.prog 13 #[.agg (ino a b c d s p0 p1 p2 p3 p4 p5 p6 p7 p8)] w fun e w' => e = .returned (.int .i64 (chkV a b c d s)) ∧ Below w.heap.size w w' := by
  have HB := Lib.hid (sup_below w)
  have hcs : c = 0 ∨ c = 1 ∨ c = 2 ∨ ¬ (0 ≤ c ∧ c ≤ 2) := by omega
  rcases hcs with rfl | rfl | rfl | hn
  · go_enter Tryd.func13, Tryd.ntmps13
    go_wp2
    all_goals
      go_ret
      first
        | (have e : chkV a b 0 d s = 22 := if_neg (by omega)
           rw [e]
           exact ⟨rfl, HB.out _⟩)
        | (have e : chkV a b 0 d s = 0 := if_pos (by omega)
           rw [e]
           exact ⟨rfl, HB.out _⟩)
  · go_enter Tryd.func13, Tryd.ntmps13
    go_wp2
    all_goals
      go_ret
      first
        | (have e : chkV a b 1 d s = 22 := if_neg (by omega)
           rw [e]
           exact ⟨rfl, HB.out _⟩)
        | (have e : chkV a b 1 d s = 0 := if_pos (by omega)
           rw [e]
           exact ⟨rfl, HB.out _⟩)
  · go_enter Tryd.func13, Tryd.ntmps13
    go_wp2
    all_goals
      go_ret
      first
        | (have e : chkV a b 2 d s = 22 := if_neg (by omega)
           rw [e]
           exact ⟨rfl, HB.out _⟩)
        | (have e : chkV a b 2 d s = 0 := if_pos (by omega)
           rw [e]
           exact ⟨rfl, HB.out _⟩)
  · have c0 : (c != 0) = true := by simpa using (by omega : ¬ c = 0)
    have c1 : (c != 1) = true := by simpa using (by omega : ¬ c = 1)
    have c2 : (c != 2) = true := by simpa using (by omega : ¬ c = 2)
    go_enter Tryd.func13, Tryd.ntmps13
    go_wp2
    all_goals
      go_ret
      first
        | (have e : chkV a b c d s = 22 := if_neg (by omega)
           rw [e]
           exact ⟨rfl, HB.out _⟩)
        | (have e : chkV a b c d s = 0 := if_pos (by omega)
           rw [e]
           exact ⟨rfl, HB.out _⟩)
theorem check_good (a b c d s : Int) (p0 p1 p2 p3 p4 p5 p6 p7 p8 : Nat) (w : World) (h : GoodI a b c d s) :
    Calls Tryd.prog 13 #[.agg (ino a b c d s p0 p1 p2 p3 p4 p5 p6 p7 p8)] w fun e w' => e = .returned (.int .i64 0) ∧ Below w.heap.size w w' := by
  have := check_any a b c d s p0 p1 p2 p3 p4 p5 p6 p7 p8 w
  rw [show chkV a b c d s = 0 from if_pos h] at this
  exact this
theorem check_bad (a b c d s : Int) (p0 p1 p2 p3 p4 p5 p6 p7 p8 : Nat) (w : World) (h : ¬ GoodI a b c d s) :
    Calls Tryd.prog 13 #[.agg (ino a b c d s p0 p1 p2 p3 p4 p5 p6 p7 p8)] w fun e w' => e = .returned (.int .i64 22) ∧ Below w.heap.size w w' := by
  have := check_any a b c d s p0 p1 p2 p3 p4 p5 p6 p7 p8 w
  rw [show chkV a b c d s = 22 from if_neg h] at this
  exact this
end Go.Proofs.YtfkobamemehkdaaDoor
