/-
  Two lists of numbers held against each other.
-/
import Derived.Test.YtkdjfhbdcfjnnaaMem
import Derived.Test.YtkdjfhbdcfjnnaaRows
import Derived.Deep.QuietTactic
import Derived.BigQuiet
namespace Go.Proofs.Ytkdjfhbdcfjnnaa
open Go.RowKit

theorem ie_drewN {B : Nat} {a w : World} (h : Below B a w) (n : Nat) : Below B a (w.drewN n) := ⟨h.os, h.tape, h.output, h.size, h.block⟩
/-- Are two lists of numbers the same? -/
def InsOut (w : World) (l m : List Int) (e : Ending) (w' : World) : Prop := e = .returned (.bool (decide (l = m))) ∧ Below w.heap.size w w'
set_option maxHeartbeats 400000 in
theorem ints_len (a b : Option Addr) (n k c d : Nat) (w : World) (h : n ≠ k) :
    Calls Try.prog 32 #[.slice a n c, .slice b k d] w fun e w' => e = .returned (.bool false) ∧ w = w' := by
  have hb : ((n : Int) == (k : Int)) = false := by simpa using (by omega : ¬ (n : Int) = (k : Int))
  have hb' : ((n : Int) != (k : Int)) = true := by simpa using (by omega : ¬ (n : Int) = (k : Int))
  have HB := Lib.hid hb
  go_enter Try.func32, Try.ntmps32
  go_wp2
  go_ret
  exact ⟨rfl, rfl⟩
def IntsRel (w : World) (l m : List Int) (n : Nat) (t : Value) (wr : World) : Prop := ∃ k q : Nat, t = .int .i64 k ∧ k ≤ n ∧ l.take k = m.take k ∧ wr = w.drewN q
set_option maxHeartbeats 600000 in
theorem ints_same (l m : List Int) (a b : Option Addr) (n c d : Nat) (w : World) (hl : n = l.length) (hm : n = m.length) (hn : n < 1000000000) (ha : Ints w a l) (hb : Ints w b m) :
    Calls Try.prog 32 #[.slice a n c, .slice b n d] w fun e w' => e = .returned (.bool (decide (l = m))) ∧ Below w.heap.size w w' := by
  have HL := Lib.hid hl
  have HM := Lib.hid hm
  have HA := Lib.hid ha
  have HB := Lib.hid hb
  have hb0 : ((n : Int) != (n : Int)) = false := by simp
  clear hl hm ha hb
  go_enter Try.func32, Try.ntmps32
  go_wp2
  go_loopw [13, 5] (fun t _ wr => IntsRel w l m n t wr) (fun t _ _ => n - (intOf t).toNat)
  case atStart => exact ⟨0, 0, rfl, by omega, by simp, rfl⟩
  case round =>
    obtain ⟨k, q, rfl, hk, hp, rfl⟩ := hrel
    have HP := Lib.hid hp
    clear hp
    by_cases hlt : k < n
    · obtain ⟨b1, o1, rfl, h1⟩ := HA.out (by intro e; have := HL.out; rw [e] at this; simp at this; omega)
      obtain ⟨b2, o2, rfl, h2⟩ := HB.out (by intro e; have := HM.out; rw [e] at this; simp at this; omega)
      have x1 := h1 k (by have := HL.out; omega)
      have x2 := h2 k (by have := HM.out; omega)
      have e1 : Hid (l.take (k + 1) = l.take k ++ [l.getD k 0]) := by
        show _ = _
        rw [List.take_add_one, List.getD_eq_getElem?_getD, List.getElem?_eq_getElem (by have := HL.out; omega)]; rfl
      have e2 : Hid (m.take (k + 1) = m.take k ++ [m.getD k 0]) := by
        show _ = _
        rw [List.take_add_one, List.getD_eq_getElem?_getD, List.getElem?_eq_getElem (by have := HM.out; omega)]; rfl
      clear h1 h2
      generalize l.getD k 0 = x at *
      generalize m.getD k 0 = y at *
      have z0 : (0 : Int) ≤ (k : Int) := by omega
      have z1 : (k : Int) < (n : Int) := by omega
      by_cases hxy : x = y
      · subst hxy
        have hc : (x != x) = false := by simp
        go_wp2_with fail
        go_quiet (fail)
        go_wp2
        go_roundw
        case rel => exact ⟨k + 1, _, by go_num, by omega, by rw [e1.out, e2.out, HP.out], rfl⟩
        case measure => simp [intOf]; omega
      · have hc : (x != y) = true := by simpa using hxy
        have hne : Hid (decide (l = m) = false) := by
          show _ = _
          apply decide_eq_false
          intro e
          subst e
          have := e1.out.symm.trans e2.out
          have := List.append_cancel_left this
          simp at this
          exact hxy this
        go_wp2_with fail
        go_quiet (fail)
        go_wp2
        go_ret
        rw [hne.out]
        exact ⟨rfl, ie_drewN (ie_drewN (Below.refl _ _) _) _⟩
    · obtain rfl : k = n := by omega
      have heq : Hid (decide (l = m) = true) := by
        show _ = _
        apply decide_eq_true
        have := HP.out
        rw [List.take_of_length_le (by have := HL.out; omega), List.take_of_length_le (by have := HM.out; omega)] at this
        exact this
      go_wp2
      go_ret
      rw [heq.out]
      exact ⟨rfl, ie_drewN (Below.refl _ _) _⟩
theorem ints_any (l m : List Int) (a b : Option Addr) (n k c d : Nat) (w : World) (hl : n = l.length) (hm : k = m.length) (hn : n < 1000000000) (ha : Ints w a l) (hb : Ints w b m) :
    Calls Try.prog 32 #[.slice a n c, .slice b k d] w fun e w' => e = .returned (.bool (decide (l = m))) ∧ Below w.heap.size w w' := by
  by_cases h : n = k
  · subst h
    exact ints_same l m a b n c d w hl hm hn ha hb
  · have hne : decide (l = m) = false := decide_eq_false (fun e => h (by rw [hl, hm, e]))
    rw [hne]
    exact (ints_len a b n k c d w h).mono fun e w' ⟨h1, h2⟩ => ⟨h1, by rw [← h2]; exact Below.refl _ _⟩
end Go.Proofs.Ytkdjfhbdcfjnnaa
