/-
  Lists of texts in memory; two of them held against each other; what is wrong with one.
-/
import Derived.Test.YtkgkjjkefifpaaaNaMath
import Derived.Test.YtkgkjjkefifpaaaRow
import Derived.Deep.RegionHeld
import Derived.Deep.DeepCutAuto
namespace Go.Proofs.Ytkgkjjkefifpaaa
open Go.RowKit

abbrev STR := 9
abbrev SLS := 23
/-- What a slice of texts that is read holds. -/
def Strs (w : World) (a : Option Addr) (l : List ByteArray) : Prop := l ≠ [] → ∃ b o, a = some ⟨b, o, none⟩ ∧ ∀ i, i < l.length → w.cell? ⟨b, o + i, none⟩ = some (.string (l.getD i ⟨#[]⟩))
theorem Strs.nil (w : World) (a : Option Addr) : Strs w a [] := fun h => absurd rfl h
theorem Strs.below {w w' : World} {a : Option Addr} {l : List ByteArray} (h : Strs w a l) (hb : Below w.heap.size w w') : Strs w' a l := fun hl => by
  obtain ⟨b, o, ha, hc⟩ := h hl
  exact ⟨b, o, ha, fun i hi => cell_later hb (hc i hi)⟩
def cellsS (l : List ByteArray) : List Value := l.map Value.string
theorem cellsS_length (l : List ByteArray) : (cellsS l).length = l.length := by simp [cellsS]
theorem cellsS_get (l : List ByteArray) (i : Nat) (hi : i < l.length) : (cellsS l)[i]? = some (.string (l.getD i ⟨#[]⟩)) := by
  simp [cellsS, List.getD_eq_getElem?_getD, List.getElem?_eq_getElem hi]
theorem cellsS_append (l m : List ByteArray) : cellsS l ++ cellsS m = cellsS (l ++ m) := by simp [cellsS]
theorem Strs.own {w : World} {base : Nat} {e : TypeId} {a : Option Addr} {n cap : Nat} {l : List ByteArray} (h : w.ownsRow base e 1 (.slice a n cap) n (cellsS l)) : Strs w a l := fun hl => by
  have hlen : n = l.length := by have := h.1; rw [cellsS_length, Nat.mul_one] at this; exact this.symm
  rcases id h.2 with ⟨h1, h0⟩ | ⟨g, c, cur, h1, _⟩
  · exact absurd (List.eq_nil_of_length_eq_zero (by omega)) hl
  · cases h1
    exact ⟨g, 0, rfl, fun i hi => by rw [Nat.zero_add, h.cellAt i (by omega), cellsS_get l i hi]⟩
theorem Strs.laid (w : World) (l : List ByteArray) (cs : Array Value) (t : TypeId) (h : cs.toList = cellsS l) : Strs (w.alloc (.cells cs t)) (some ⟨w.heap.size, 0, none⟩) l := fun _ =>
  ⟨w.heap.size, 0, rfl, fun i hi => by rw [Nat.zero_add, (blo_laid w t cs).cell i, ← Array.getElem?_toList, h, cellsS_get l i hi]⟩
theorem Strs.take {w : World} {a : Option Addr} {l : List ByteArray} (h : Strs w a l) (k : Nat) : Strs w a (l.take k) := fun hl => by
  obtain ⟨b, o, ha, hc⟩ := h (fun e => hl (by rw [e]; simp))
  exact ⟨b, o, ha, fun i hi => by
    rw [List.length_take] at hi
    rw [hc i (by omega), List.getD_eq_getElem?_getD, List.getD_eq_getElem?_getD, List.getElem?_take_of_lt (by omega)]⟩
theorem sDrewN {B : Nat} {a w : World} (h : Below B a w) (n : Nat) : Below B a (w.drewN n) := ⟨h.os, h.tape, h.output, h.size, h.block⟩
set_option maxHeartbeats 400000 in
theorem texts_len (a b : Option Addr) (n k c d : Nat) (w : World) (h : n ≠ k) :
    Calls Try.prog 12 #[.slice a n c, .slice b k d] w fun e w' => e = .returned (.bool false) ∧ w = w' := by
  have hb : ((n : Int) == (k : Int)) = false := by simpa using (by omega : ¬ (n : Int) = (k : Int))
  have hb' : ((n : Int) != (k : Int)) = true := by simpa using (by omega : ¬ (n : Int) = (k : Int))
  go_enter Try.func12, Try.ntmps12
  go_wp2
  go_ret
  exact ⟨rfl, rfl⟩
def TxRel (w : World) (l m : List ByteArray) (n : Nat) (t : Value) (wr : World) : Prop := ∃ k q : Nat, t = .int .i64 k ∧ k ≤ n ∧ l.take k = m.take k ∧ wr = w.drewN q
theorem toList_ne {x y : ByteArray} (h : x ≠ y) : (x.toList == y.toList) = false := beq_eq_false_iff_ne.2 fun e => h (by rw [Lib.toList_data, Lib.toList_data] at e; exact str_ext e)
set_option maxHeartbeats 1000000 in
theorem texts_same (l m : List ByteArray) (a b : Option Addr) (n c d : Nat) (w : World) (hl : n = l.length) (hm : n = m.length) (hn : n < 1000000000) (ha : Strs w a l) (hb : Strs w b m) :
    Calls Try.prog 12 #[.slice a n c, .slice b n d] w fun e w' => e = .returned (.bool (decide (l = m))) ∧ Below w.heap.size w w' := by
  have HL := Lib.hid hl
  have HM := Lib.hid hm
  have HA := Lib.hid ha
  have HB := Lib.hid hb
  have hb0 : ((n : Int) != (n : Int)) = false := by simp
  clear hl hm ha hb
  go_enter Try.func12, Try.ntmps12
  go_wp2
  go_loopw [13, 5] (fun t _ wr => TxRel w l m n t wr) (fun t _ _ => n - (intOf t).toNat)
  case atStart => exact ⟨0, 0, rfl, by omega, by simp, rfl⟩
  case round =>
    obtain ⟨k, q, rfl, hk, hp, rfl⟩ := hrel
    have HP := Lib.hid hp
    clear hp
    by_cases hlt : k < n
    · obtain ⟨b1, o1, rfl, h1⟩ := HA.out (by intro e; have := HL.out; rw [e] at this; simp at this; omega)
      obtain ⟨b2, o2, rfl, h2⟩ := HB.out (by intro e; have := HM.out; rw [e] at this; simp at this; omega)
      have x1 := h1 k (by have := HL.out; omega)
      have x2 := h2 k (by have := HM.out; omega)
      have e1 : Hid (l.take (k + 1) = l.take k ++ [l.getD k ⟨#[]⟩]) := by
        show _ = _
        rw [List.take_add_one, List.getD_eq_getElem?_getD, List.getElem?_eq_getElem (by have := HL.out; omega)]; rfl
      have e2 : Hid (m.take (k + 1) = m.take k ++ [m.getD k ⟨#[]⟩]) := by
        show _ = _
        rw [List.take_add_one, List.getD_eq_getElem?_getD, List.getElem?_eq_getElem (by have := HM.out; omega)]; rfl
      clear h1 h2
      generalize l.getD k ⟨#[]⟩ = x at *
      generalize m.getD k ⟨#[]⟩ = y at *
      have z0 : (0 : Int) ≤ (k : Int) := by omega
      have z1 : (k : Int) < (n : Int) := by omega
      by_cases hxy : x = y
      · subst hxy
        have hc : (x.toList != x.toList) = false := by simp
        go_wp2_with fail
        go_quiet (fail)
        go_wp2
        exact ⟨⟨k + 1, _, by go_num, by omega, by rw [e1.out, e2.out, HP.out], rfl⟩, by simp [intOf]; omega⟩
      · have hc : (x.toList == y.toList) = false := toList_ne hxy
        have hc' : (!(x.toList == y.toList)) = true := by rw [hc]; rfl
        have hne : Hid (decide (l = m) = false) := by
          show _ = _
          apply decide_eq_false
          intro e
          subst e
          have := e1.out.symm.trans e2.out
          have := List.append_cancel_left this
          simp at this
          exact hxy this
        go_wp2_with fail
        go_quiet (fail)
        go_wp2
        go_ret
        rw [hne.out]
        exact ⟨rfl, sDrewN (sDrewN (Below.refl _ _) _) _⟩
    · obtain rfl : k = n := by omega
      have heq : Hid (decide (l = m) = true) := by
        show _ = _
        apply decide_eq_true
        have := HP.out
        rw [List.take_of_length_le (by have := HL.out; omega), List.take_of_length_le (by have := HM.out; omega)] at this
        exact this
      go_wp2
      go_ret
      rw [heq.out]
      exact ⟨rfl, sDrewN (Below.refl _ _) _⟩
theorem texts_any (l m : List ByteArray) (a b : Option Addr) (n k c d : Nat) (w : World) (hl : n = l.length) (hm : k = m.length) (hn : n < 1000000000) (ha : Strs w a l) (hb : Strs w b m) :
    Calls Try.prog 12 #[.slice a n c, .slice b k d] w fun e w' => e = .returned (.bool (decide (l = m))) ∧ Below w.heap.size w w' := by
  by_cases h : n = k
  · subst h
    exact texts_same l m a b n c d w hl hm hn ha hb
  · have hne : decide (l = m) = false := decide_eq_false (fun e => h (by rw [hl, hm, e]))
    rw [hne]
    exact (texts_len a b n k c d w h).mono fun e w' ⟨h1, h2⟩ => ⟨h1, by rw [← h2]; exact Below.refl _ _⟩
/-! check: the first error of the names. -/
theorem chkL_at {l : List ByteArray} {k : Nat} (hk : k < l.length) (h : chkL (l.take k) = 0) : chkL (l.take (k + 1)) = nmE (l.getD k ⟨#[]⟩) ∧ (nmE (l.getD k ⟨#[]⟩) ≠ 0 → chkL l = nmE (l.getD k ⟨#[]⟩)) := by
  have e1 : l.take (k + 1) = l.take k ++ [l.getD k ⟨#[]⟩] := by rw [List.take_add_one, List.getD_eq_getElem?_getD, List.getElem?_eq_getElem hk]; rfl
  constructor
  · rw [e1, chkL_append_ok h]
    simp only [chkL]
    split
    · rename_i h0; exact h0.symm
    · rfl
  · intro hne
    have e2 : l = l.take k ++ l.getD k ⟨#[]⟩ :: l.drop (k + 1) := by
      conv => lhs; rw [← List.take_append_drop (k + 1) l, e1]
      rw [List.append_assoc]; rfl
    conv => lhs; rw [e2]
    exact chkL_bad h hne _
set_option maxHeartbeats 1000000 in
theorem check_any (l : List ByteArray) (a : Option Addr) (n c : Nat) (w : World) (hl : n = l.length) (hn : n < 1000000000) (ha : Strs w a l) :
    Calls Try.prog 20 #[.slice a n c] w fun e w' => e = .returned (.int .i64 (chkL l)) ∧ Below w.heap.size w w' := by
  have HL := Lib.hid hl
  have HA := Lib.hid ha
  have HB0 := Lib.hid (Below.refl w.heap.size w)
  clear hl ha
  go_enter Try.func20, Try.ntmps20
  go_wp2
  go_loopw [8, 4, 5] (fun t _ _ wr => ∃ k : Nat, t = .int .i64 k ∧ k ≤ n ∧ chkL (l.take k) = 0 ∧ Below w.heap.size w wr) (fun t _ _ _ => n - (intOf t).toNat)
  case atStart => exact ⟨0, rfl, by omega, by simp [chkL], HB0.out⟩
  case round =>
    obtain ⟨k, rfl, hk, hp, hbw⟩ := hrel
    have HP := Lib.hid hp
    have HBw := Lib.hid hbw
    clear hp hbw
    by_cases hlt : k < n
    · obtain ⟨b1, o1, rfl, h1⟩ := (HA.out.below HBw.out) (by intro e; have := HL.out; rw [e] at this; simp at this; omega)
      have x1 := h1 k (by have := HL.out; omega)
      obtain ⟨q1, q2⟩ := chkL_at (by have := HL.out; omega) HP.out
      have HQ1 := Lib.hid q1
      have HQ2 := Lib.hid q2
      have HN := Lib.hid (name_any (l.getD k ⟨#[]⟩))
      clear h1 q1 q2
      generalize l.getD k ⟨#[]⟩ = x at *
      have z0 : (0 : Int) ≤ (k : Int) := by omega
      have z1 : (k : Int) < (n : Int) := by omega
      by_cases hx : nmE x = 0
      · rw [hx] at HN HQ1
        clear hx HQ2
        go_wp2_with (go_at_call 24; refine (HN.out _).mono ?_; rintro e w' ⟨rfl, hw⟩; have HW := Lib.hid hw; clear hw)
        go_roundw
        case rel => exact ⟨k + 1, by go_num, by omega, HQ1.out, HBw.out.trans (HW.out.mono HBw.out.size)⟩
        case measure => simp [intOf]; omega
      · have HE := Lib.hid (HQ2.out hx)
        have h3 : (nmE x != 0) = true := by simpa using hx
        clear HQ1 HQ2
        generalize nmE x = z at *
        go_wp2_with (go_at_call 24; refine (HN.out _).mono ?_; rintro e w' ⟨rfl, hw⟩; have HW := Lib.hid hw; clear hw)
        go_ret
        exact ⟨by rw [HE.out]; rfl, HBw.out.trans (HW.out.mono HBw.out.size)⟩
    · obtain rfl : k = n := by omega
      have HE : Hid (chkL l = 0) := by
        show _ = _
        have := HP.out
        rwa [List.take_of_length_le (by have := HL.out; omega)] at this
      go_wp2
      go_ret
      exact ⟨by rw [HE.out]; rfl, HBw.out⟩
end Go.Proofs.Ytkgkjjkefifpaaa
