/-
  The walk of whether an inode is good, as the document has it.
-/
import Derived.Test.YtfkobamemehkdaaDoorInWalks
namespace Go.Proofs.YtfkobamemehkdaaDoor
open Go.RowKit

def goodB (a b c d s : Int) : Bool := decide (1 ≤ a ∧ a ≤ 200 ∧ 0 ≤ b ∧ b ≤ 65535 ∧ 0 ≤ c ∧ c ≤ 2 ∧ 0 ≤ d ∧ d ≤ 100 ∧ 0 ≤ s ∧ s ≤ 38400)
set_option maxHeartbeats 1600000 in
theorem refGood_any (a b c d s : Int) (p0 p1 p2 p3 p4 p5 p6 p7 p8 : Nat) (w : World) :
    Calls Tryd.prog 12 #[.agg (ino a b c d s p0 p1 p2 p3 p4 p5 p6 p7 p8)] w fun e w' => e = .returned (.bool (goodB a b c d s)) ∧ Below w.heap.size w w' := by
  have HB := Lib.hid (sup_below w)
  go_enter Tryd.func12, Tryd.ntmps12
  go_wp2
  all_goals
    go_ret
    first
      | (have e : goodB a b c d s = false := decide_eq_false (by omega)
         rw [e]
         exact ⟨rfl, HB.out _⟩)
      | (have e : goodB a b c d s = decide (s ≤ 38400) := decide_eq_decide.2 (by omega)
         rw [e]
         exact ⟨rfl, HB.out _⟩)
      | (have e : goodB a b c d s = true := decide_eq_true (by omega)
         rw [e]
         exact ⟨rfl, HB.out _⟩)
theorem refGood_yes (a b c d s : Int) (p0 p1 p2 p3 p4 p5 p6 p7 p8 : Nat) (w : World) (h : GoodI a b c d s) :
    Calls Tryd.prog 12 #[.agg (ino a b c d s p0 p1 p2 p3 p4 p5 p6 p7 p8)] w fun e w' => e = .returned (.bool true) ∧ Below w.heap.size w w' := by
  have := refGood_any a b c d s p0 p1 p2 p3 p4 p5 p6 p7 p8 w
  rw [show goodB a b c d s = true from decide_eq_true h] at this
  exact this
theorem refGood_no (a b c d s : Int) (p0 p1 p2 p3 p4 p5 p6 p7 p8 : Nat) (w : World) (h : ¬ GoodI a b c d s) :
    Calls Tryd.prog 12 #[.agg (ino a b c d s p0 p1 p2 p3 p4 p5 p6 p7 p8)] w fun e w' => e = .returned (.bool false) ∧ Below w.heap.size w w' := by
  have := refGood_any a b c d s p0 p1 p2 p3 p4 p5 p6 p7 p8 w
  rw [show goodB a b c d s = false from decide_eq_false h] at this
  exact this
end Go.Proofs.YtfkobamemehkdaaDoor
