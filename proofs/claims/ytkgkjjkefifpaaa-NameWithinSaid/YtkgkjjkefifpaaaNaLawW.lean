/-
  NameWithin.
-/
import Derived.Test.YtkgkjjkefifpaaaNaWith
import Derived.Test.YtkgkjjkefifpaaaNaOpen
namespace Go.Proofs.Ytkgkjjkefifpaaa
open Go.RowKit

def begF (l m : List ByteArray) (i : Nat) : Bool := decide (l.length ≤ m.length) && decide (l.take i = m.take i)
theorem begF_end (l m : List ByteArray) (i : Nat) (h1 : i ≤ l.length) (h2 : i ≤ m.length) (h : ¬ (i < l.length ∧ i < m.length)) : begF l m i = wiB l m := by
  unfold begF wiB
  by_cases hle : l.length ≤ m.length
  · obtain rfl : i = l.length := by omega
    rw [List.take_of_length_le (Nat.le_refl _)]
  · rw [decide_eq_false hle]; rfl
theorem begF_succ (l m : List ByteArray) (i : Nat) (h1 : i < l.length) (h2 : i < m.length) : begF l m (i + 1) = (begF l m i && decide (l.getD i ⟨#[]⟩ = m.getD i ⟨#[]⟩)) := by
  have e1 : l.take (i + 1) = l.take i ++ [l.getD i ⟨#[]⟩] := by rw [List.take_add_one, List.getD_eq_getElem?_getD, List.getElem?_eq_getElem h1]; rfl
  have e2 : m.take (i + 1) = m.take i ++ [m.getD i ⟨#[]⟩] := by rw [List.take_add_one, List.getD_eq_getElem?_getD, List.getElem?_eq_getElem h2]; rfl
  unfold begF
  rw [Bool.and_assoc, e1, e2]
  congr 1
  rw [Bool.eq_iff_iff, Bool.and_eq_true, decide_eq_true_eq, decide_eq_true_eq, decide_eq_true_eq]
  constructor
  · intro h
    have hl : (l.take i).length = (m.take i).length := by rw [List.length_take, List.length_take]; omega
    obtain ⟨h3, h4⟩ := List.append_inj h hl
    exact ⟨h3, by simpa using h4⟩
  · rintro ⟨h3, h4⟩; rw [h3, h4]
theorem wiB_self (l : List ByteArray) : wiB l l = true := by unfold wiB; rw [List.take_of_length_le (Nat.le_refl _)]; simp
theorem wiB_nil (l : List ByteArray) : wiB [] l = true := by unfold wiB; simp
theorem wiB_take (m : List ByteArray) (i : Nat) (h : i < m.length) : wiB (m.take i) m = true := by
  unfold wiB
  have : (m.take i).length = i := by rw [List.length_take]; omega
  rw [this]; simp; omega
theorem wiB_no (m : List ByteArray) (i : Nat) (h : i < m.length) : wiB m (m.take i) = false := by
  unfold wiB
  rw [decide_eq_false (by rw [List.length_take]; omega)]; rfl
def WiR (w : World) (l m : List ByteArray) (v5 v6 : Value) (W : World) : Prop := ∃ i : Nat, i ≤ l.length ∧ i ≤ m.length ∧ v6 = .int .i64 i ∧ v5 = .bool (begF l m i) ∧ Below w.heap.size w W
def WjR (w : World) (k : Nat) (v68 : Value) (W : World) : Prop := ∃ i : Nat, i ≤ k ∧ v68 = .int .i64 i ∧ Below w.heap.size w W
set_option maxRecDepth 100000 in
set_option maxHeartbeats 8000000 in
theorem nameWithin_walk (a : Option Addr) (n c : Nat) (l : List ByteArray) (b : Option Addr) (k d : Nat) (m : List ByteArray) (w : World) (ha : StrsIn w a n c l) (hb : StrsIn w b k d m) :
    Calls Try.prog 6 #[.slice a n c, .slice b k d] w fun e w' => e = .returned (.bool true) ∧ Below w.heap.size w w' := by
  have again : ∀ (_ : 100 < n ∨ 100 < k), Calls Try.prog 6 #[.slice a n c, .slice b k d] w fun e w' => e = .returned (.bool true) ∧ Below w.heap.size w w' := fun h => by
    clear ha hb
    by_cases h1 : 100 < n
    · have h1' : (100 : Int) < (n : Int) := by omega
      clear h h1
      go_enter Try.func6, Try.ntmps6
      go_wp2_with fail
      refine (awake_any _).mono ?_
      rintro e w1 ⟨rfl, hb1⟩
      have HB1 := Lib.hid hb1
      clear hb1
      go_wp2_with fail
      refine (awake_any _).mono ?_
      rintro e w2 ⟨rfl, hb2⟩
      have HB2 := Lib.hid (HB1.out.trans (hb2.mono HB1.out.size))
      clear hb2 HB1
      go_wp2_with fail
      go_ret
      exact ⟨rfl, HB2.out⟩
    · have h1' : ¬ (100 : Int) < (n : Int) := by omega
      have h2' : (100 : Int) < (k : Int) := by omega
      clear h h1
      go_enter Try.func6, Try.ntmps6
      go_wp2_with fail
      refine (awake_any _).mono ?_
      rintro e w1 ⟨rfl, hb1⟩
      have HB1 := Lib.hid hb1
      clear hb1
      go_wp2_with fail
      refine (awake_any _).mono ?_
      rintro e w2 ⟨rfl, hb2⟩
      have HB2 := Lib.hid (HB1.out.trans (hb2.mono HB1.out.size))
      clear hb2 HB1
      go_wp2_with fail
      go_ret
      exact ⟨rfl, HB2.out⟩
  by_cases hbig : 100 < n ∨ 100 < k
  · exact again hbig
  · clear again
    have h1' : ¬ (100 : Int) < (n : Int) := by omega
    have h2' : ¬ (100 : Int) < (k : Int) := by omega
    have HA := Lib.hid ha
    have HB := Lib.hid hb
    have HBg := Lib.hid hbig
    have HLn := Lib.hid ha.len
    have HLk := Lib.hid hb.len
    have hst : Hid ((.bool (decide (n ≤ k)) : Value) = .bool (begF l m 0)) := by
      show _ = _
      unfold begF
      rw [← ha.len, ← hb.len]
      simp
    clear ha hb hbig
    go_enter Try.func6, Try.ntmps6
    go_wp2_with fail
    refine (awake_any _).mono ?_
    rintro e w1 ⟨rfl, hb1⟩
    have HB1 := Lib.hid hb1
    clear hb1
    go_wp2_with fail
    go_loopw [5, 6] (fun v5 v6 wr => WiR w l m v5 v6 wr) (fun _ v6 _ => n - (intOf v6).toNat)
    case atStart => exact ⟨0, Nat.zero_le _, Nat.zero_le _, rfl, hst.out, HB1.out⟩
    case round =>
      obtain ⟨i, hi1, hi2, rfl, rfl, hbw⟩ := hrel
      have HW := Lib.hid hbw
      have HI1 := Lib.hid hi1
      have HI2 := Lib.hid hi2
      clear hbw hst
      by_cases hlt : i < n ∧ i < k
      · obtain ⟨hl1, hl2⟩ := hlt
        have z0 : (0 : Int) ≤ (i : Int) := by omega
        have z1 : (i : Int) < (n : Int) := by omega
        have z2 : (i : Int) < (k : Int) := by omega
        have HS := Lib.hid (begF_succ l m i (by rw [← HLn.out]; exact hl1) (by rw [← HLk.out]; exact hl2))
        obtain ⟨b1, o1, rfl, c1⟩ := (HA.out.rd.below HW.out) (by intro e; have := HLn.out; rw [e] at this; simp at this; omega)
        obtain ⟨b2, o2, rfl, c2⟩ := (HB.out.rd.below HW.out) (by intro e; have := HLk.out; rw [e] at this; simp at this; omega)
        have x1 := c1 i (by rw [← HLn.out]; exact hl1)
        have x2 := c2 i (by rw [← HLk.out]; exact hl2)
        have HL1 : Hid (i < n) := hl1
        have HL2 : Hid (i < k) := hl2
        clear c1 c2 hi1 hi2 hl1 hl2
        generalize l.getD i ⟨#[]⟩ = x at *
        generalize m.getD i ⟨#[]⟩ = y at *
        cases hbg : begF l m i
        · rw [hbg] at HS
          have HE : Hid (begF l m (i + 1) = false) := by show _ = _; rw [HS.out]; rfl
          clear hbg HS x1 x2
          go_wp2_with fail
          go_quiet (fail)
          go_wp2_with fail
          exact ⟨⟨i + 1, by rw [← HLn.out]; exact HL1.out, by rw [← HLk.out]; exact HL2.out, by go_num, by rw [HE.out], sDrewN HW.out _⟩, by simp [intOf]; have := HL1.out; omega⟩
        · rw [hbg] at HS
          by_cases hxy : x = y
          · subst hxy
            have HE : Hid (begF l m (i + 1) = true) := by show _ = _; rw [HS.out]; simp
            have hc : (x.toList == x.toList) = true := by simp
            clear hbg HS
            go_wp2_with fail
            go_quiet (fail)
            go_wp2_with fail
            exact ⟨⟨i + 1, by rw [← HLn.out]; exact HL1.out, by rw [← HLk.out]; exact HL2.out, by go_num, by rw [HE.out], sDrewN HW.out _⟩, by simp [intOf]; have := HL1.out; omega⟩
          · have HE : Hid (begF l m (i + 1) = false) := by show _ = _; rw [HS.out, decide_eq_false hxy]; rfl
            have hc := toList_ne hxy
            clear hbg HS hxy
            go_wp2_with fail
            go_quiet (fail)
            go_wp2_with fail
            exact ⟨⟨i + 1, by rw [← HLn.out]; exact HL1.out, by rw [← HLk.out]; exact HL2.out, by go_num, by rw [HE.out], sDrewN HW.out _⟩, by simp [intOf]; have := HL1.out; omega⟩
      · have HEnd := Lib.hid (begF_end l m i HI1.out HI2.out (by rw [← HLn.out, ← HLk.out]; exact hlt))
        rw [HEnd.out]
        have HW1 : Hid (∀ W, Below w.heap.size w W → Calls Try.prog 17 #[.slice a n c, .slice b k d] W fun e w' => e = .returned (.bool (wiB l m)) ∧ Below W.heap.size W w') := fun W hW =>
          within_any l m a b n k c d W HLn.out HLk.out HB.out.le (by have := HBg.out; omega) HB.out.add0 (HA.out.rd.below hW) (HB.out.rd.below hW)
        have HW2 : Hid (∀ W, Below w.heap.size w W → Calls Try.prog 17 #[.slice a n c, .slice a n c] W fun e w' => e = .returned (.bool true) ∧ Below W.heap.size W w') := fun W hW => by
          have := within_any l l a a n n c c W HLn.out HLn.out HA.out.le (by have := HBg.out; omega) HA.out.add0 (HA.out.rd.below hW) (HA.out.rd.below hW)
          rwa [wiB_self] at this
        have HW3 : Hid (∀ W, Below w.heap.size w W → Calls Try.prog 17 #[.slice none 0 0, .slice b k d] W fun e w' => e = .returned (.bool true) ∧ Below W.heap.size W w') := fun W hW => by
          have := within_any [] m none b 0 k 0 d W rfl HLk.out HB.out.le (by have := HBg.out; omega) HB.out.add0 (Strs.nil _ _) (HB.out.rd.below hW)
          rwa [wiB_nil] at this
        have HCut : Hid (∀ j, j ≤ d → ∀ W, (Instr.slice SLS (.slice b k d) none (some (.int .i64 (j : Int))) none).run Try.prog W = .ok (.slice b j d) W) := fun j hj => cutS_any b k d j HB.out.add0 hj
        have HW4 : Hid (∀ j, j < k → ∀ W, Below w.heap.size w W → Calls Try.prog 17 #[.slice b j d, .slice b k d] W fun e w' => e = .returned (.bool true) ∧ Below W.heap.size W w') := fun j hj W hW => by
          have := within_any (m.take j) m b b j k d d W (by rw [List.length_take, ← HLk.out]; omega) HLk.out HB.out.le (by have := HBg.out; omega) HB.out.add0 ((HB.out.rd.below hW).take j) (HB.out.rd.below hW)
          rwa [wiB_take m j (by rw [← HLk.out]; exact hj)] at this
        have HW5 : Hid (∀ j, j < k → ∀ W, Below w.heap.size w W → Calls Try.prog 17 #[.slice b k d, .slice b j d] W fun e w' => e = .returned (.bool false) ∧ Below W.heap.size W w') := fun j hj W hW => by
          have := within_any m (m.take j) b b k j d d W HLk.out (by rw [List.length_take, ← HLk.out]; omega) (by have := HB.out.le; omega) (by have := HBg.out; omega) HB.out.add0 (HB.out.rd.below hW) ((HB.out.rd.below hW).take j)
          rwa [wiB_no m j (by rw [← HLk.out]; exact hj)] at this
        have HKd : Hid (k ≤ d) := HB.out.le
        have hng : ¬ ((i : Int) < (n : Int) ∧ (i : Int) < (k : Int)) := by omega
        have hbb : (wiB l m == wiB l m) = true := by simp
        have hbb' : (wiB l m != wiB l m) = false := by simp
        by_cases hin : i < n
        · have y1 : (i : Int) < (n : Int) := by omega
          have y2 : ¬ (i : Int) < (k : Int) := by omega
          clear hi1 hi2 hlt HEnd HI1 HI2 hng hin HA HB HBg HLn HLk h1' h2'
          generalize wiB l m = r at *
          go_wp2_with fail
          refine (HW1.out _ HW.out).mono ?_
          rintro e w2 ⟨rfl, hb2⟩
          have HX2 := Lib.hid (HW.out.trans (hb2.mono HW.out.size))
          clear hb2 HW
          go_wp2_with fail
          refine (HW2.out _ HX2.out).mono ?_
          rintro e w3 ⟨rfl, hb3⟩
          have HX3 := Lib.hid (HX2.out.trans (hb3.mono HX2.out.size))
          clear hb3 HX2
          go_wp2_with fail
          refine (HW3.out _ HX3.out).mono ?_
          rintro e w4 ⟨rfl, hb4⟩
          have HX4 := Lib.hid (HX3.out.trans (hb4.mono HX3.out.size))
          clear hb4 HX3 HW1 HW2 HW3
          go_wp2_with fail
          go_loopw [7, 68] (fun _ v68 wr => WjR w k v68 wr) (fun _ v68 _ => k - (intOf v68).toNat)
          case atStart => exact ⟨0, Nat.zero_le _, rfl, HX4.out⟩
          case round =>
            obtain ⟨j, hj, rfl, hbw⟩ := hrel
            have HX5 := Lib.hid hbw
            clear hbw
            by_cases hjk : j < k
            · have y3 : (j : Int) < (k : Int) := by omega
              have hcut := HCut.out j (by have := HKd.out; omega)
              have HJ : Hid (j < k) := hjk
              clear hj hjk HX4
              go_wp2_with fail
              refine (HW4.out j HJ.out _ HX5.out).mono ?_
              rintro e w6 ⟨rfl, hb6⟩
              have HX6 := Lib.hid (HX5.out.trans (hb6.mono HX5.out.size))
              clear hb6 HX5
              go_wp2_with fail
              refine (HW5.out j HJ.out _ HX6.out).mono ?_
              rintro e w7 ⟨rfl, hb7⟩
              have HX7 := Lib.hid (HX6.out.trans (hb7.mono HX6.out.size))
              clear hb7 HX6
              go_wp2_with fail
              go_roundw
              case rel => exact ⟨j + 1, HJ.out, by go_num, HX7.out⟩
              case measure => simp [intOf]; have := HJ.out; omega
            · obtain rfl : j = k := by omega
              go_wp2_with fail
              go_ret
              exact ⟨rfl, HX5.out⟩
        · have y1 : ¬ (i : Int) < (n : Int) := by omega
          clear hi1 hi2 hlt HEnd HI1 HI2 hng hin HA HB HBg HLn HLk h1' h2'
          generalize wiB l m = r at *
          go_wp2_with fail
          refine (HW1.out _ HW.out).mono ?_
          rintro e w2 ⟨rfl, hb2⟩
          have HX2 := Lib.hid (HW.out.trans (hb2.mono HW.out.size))
          clear hb2 HW
          go_wp2_with fail
          refine (HW2.out _ HX2.out).mono ?_
          rintro e w3 ⟨rfl, hb3⟩
          have HX3 := Lib.hid (HX2.out.trans (hb3.mono HX2.out.size))
          clear hb3 HX2
          go_wp2_with fail
          refine (HW3.out _ HX3.out).mono ?_
          rintro e w4 ⟨rfl, hb4⟩
          have HX4 := Lib.hid (HX3.out.trans (hb4.mono HX3.out.size))
          clear hb4 HX3 HW1 HW2 HW3
          go_wp2_with fail
          go_loopw [7, 68] (fun _ v68 wr => WjR w k v68 wr) (fun _ v68 _ => k - (intOf v68).toNat)
          case atStart => exact ⟨0, Nat.zero_le _, rfl, HX4.out⟩
          case round =>
            obtain ⟨j, hj, rfl, hbw⟩ := hrel
            have HX5 := Lib.hid hbw
            clear hbw
            by_cases hjk : j < k
            · have y3 : (j : Int) < (k : Int) := by omega
              have hcut := HCut.out j (by have := HKd.out; omega)
              have HJ : Hid (j < k) := hjk
              clear hj hjk HX4
              go_wp2_with fail
              refine (HW4.out j HJ.out _ HX5.out).mono ?_
              rintro e w6 ⟨rfl, hb6⟩
              have HX6 := Lib.hid (HX5.out.trans (hb6.mono HX5.out.size))
              clear hb6 HX5
              go_wp2_with fail
              refine (HW5.out j HJ.out _ HX6.out).mono ?_
              rintro e w7 ⟨rfl, hb7⟩
              have HX7 := Lib.hid (HX6.out.trans (hb7.mono HX6.out.size))
              clear hb7 HX6
              go_wp2_with fail
              go_roundw
              case rel => exact ⟨j + 1, HJ.out, by go_num, HX7.out⟩
              case measure => simp [intOf]; have := HJ.out; omega
            · obtain rfl : j = k := by omega
              go_wp2_with fail
              go_ret
              exact ⟨rfl, HX5.out⟩
end Go.Proofs.Ytkgkjjkefifpaaa
