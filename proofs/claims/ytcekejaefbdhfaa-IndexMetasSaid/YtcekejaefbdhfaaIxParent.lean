/-
  The walks of To of what is no block, Parent, the law's level, and of two lists of numbers held against each other.
-/
import Derived.Test.YtcekejaefbdhfaaIxTo
namespace Go.Proofs.Ytcekejaefbdhfaa
open Go.RowKit

theorem isB_lev (n : Int) (h : isB n = true) : lvOf n ≤ rLev (fOf n) := by
  have hr := rLev_bd (fOf n)
  unfold isB at h
  unfold lvOf fOf at *
  by_cases h0 : 0 ≤ n
  · simp only [h0, if_true] at hr ⊢; exact hr.1
  · simp only [h0, if_false] at h ⊢
    have key : ∀ f l, startsB f l = true → l ≤ rLev f := by intro f l e; simp [startsB] at e; omega
    by_cases h1 : startsB (-n) 1 = true
    · simp only [h1, if_true]; exact key _ _ h1
    · have h1' : startsB (-n) 1 = false := by simpa using h1
      by_cases h2 : startsB (-n - 1) 2 = true
      · rw [h1', h2]; exact key _ _ h2
      · have h2' : startsB (-n - 1) 2 = false := by simpa using h2
        rw [h1', h2'] at h ⊢
        exact key _ _ (by simpa using h)
/-- What To answers of a block, with a letter for how long its path is. -/
def ToN (w : World) (R : Int) (k : Nat) (ms ss : List Int) (e : Ending) (w' : World) : Prop :=
  ∃ a1 c1 a2 c2, e = .returned (.tuple #[.agg #[.int .i64 R, .slice a1 k c1, .slice a2 k c2], .int .i64 0]) ∧ Ints w' a1 ms ∧ Ints w' a2 ss ∧ k ≤ c1 ∧ k ≤ c2 ∧ Below w.heap.size w w'
theorem metas_len (f lv : Int) : (metasM f lv).length = (pathM f lv).length := by simp [metasM]
theorem slots_len (f lv : Int) : (slotsM f lv).length = (pathM f lv).length := by simp [slotsM]
theorem steps_len : ∀ (k : Nat) (f F L : Int), (stepsM k f F L).length = k
  | 0, _, _, _ => rfl
  | k + 1, f, F, L => by simp [stepsM, steps_len k]
theorem path_len (f lv : Int) : (pathM f lv).length = (rLev f - lv).toNat := steps_len _ _ _ _
theorem to_n (n : Int) (w : World) (hn : -9223372036854775808 ≤ n) (h : isB n = true) (k : Nat) (hk : k = (pathM (fOf n) (lvOf n)).length) :
    Calls Try.prog 13 #[.int .i64 n] w (ToN w (rPtr (fOf n)) k (metasM (fOf n) (lvOf n)) (slotsM (fOf n) (lvOf n))) :=
  (to_yes n w hn h (isB_lev n h)).mono fun e w' ⟨a1, c1, a2, c2, he, h1, h2, h3, h4, h5⟩ => by
    rw [metas_len] at h3 he
    rw [slots_len] at h4 he
    rw [← hk] at h3 h4 he
    exact ⟨a1, c1, a2, c2, he, h1, h2, h3, h4, h5⟩
set_option maxHeartbeats 400000 in
theorem to_no (n : Int) (w : World) (hn : -9223372036854775808 ≤ n) (h : isB n = false) :
    Calls Try.prog 13 #[.int .i64 n] w fun e w' => e = .returned (.tuple #[.agg #[.int .i64 0, .slice none 0 0, .slice none 0 0], .int .i64 22]) ∧ Below w.heap.size w w' := by
  have HF : Hid (∀ W, Calls Try.prog 23 #[.int .i64 n] W (FoundNo W)) := fun W => find_no n W hn h
  clear hn h
  go_enter Try.func13, Try.ntmps13
  have G0 := Lib.hid (blo_laid w 30 #[.int .i64 0, .slice none 0 0, .slice none 0 0])
  have HB0 := Lib.hid (sup_below w (.cells #[.int .i64 0, .slice none 0 0, .slice none 0 0] 30))
  go_wp2_with fail
  refine (HF.out _).mono ?_
  rintro e w1 ⟨f, l, rfl, hb1⟩
  have G1 := Lib.hid (G0.out.later hb1)
  have HB1 : Hid (Below w.heap.size w w1) := HB0.out.trans (hb1.mono HB0.out.size)
  have hz1 : w.heap.size < w1.heap.size := G1.out.lt
  clear hb1 G0 HB0
  have c0 := G1.out.cell 0
  have c1 := G1.out.cell 1
  have c2 := G1.out.cell 2
  have f0 := G1.out.frozen 0
  have f1 := G1.out.frozen 1
  have f2 := G1.out.frozen 2
  simp at c0 c1 c2
  go_wp2
  have B3 := (((G1.out.put 0 (.int .i64 0)).put 1 (.slice none 0 0)).put 2 (.slice none 0 0)).alloc (.cells #[.int .i64 f, .int .i64 l] 52)
  have hb2 := (((HB1.out.setCell (p := ⟨w.heap.size, 0, none⟩) (Nat.le_refl _) (.int .i64 0)).setCell (p := ⟨w.heap.size, 1, none⟩) (Nat.le_refl _) (.slice none 0 0)).setCell (p := ⟨w.heap.size, 2, none⟩) (Nat.le_refl _) (.slice none 0 0))
  have hb3 := hb2.alloc hb2.size (.cells #[.int .i64 f, .int .i64 l] 52)
  generalize ((((w1.setCell ⟨w.heap.size, 0, none⟩ (.int .i64 0)).setCell ⟨w.heap.size, 1, none⟩ (.slice none 0 0)).setCell ⟨w.heap.size, 2, none⟩ (.slice none 0 0)).alloc (.cells #[.int .i64 f, .int .i64 l] 52)) = W at B3 hb3 ⊢
  have q0 := B3.cell 0
  have q1 := B3.cell 1
  have q2 := B3.cell 2
  simp at q0 q1 q2
  refine bodyPost_ret (v := .tuple #[.agg #[.int .i64 0, .slice none 0 0, .slice none 0 0], .int .i64 22]) ?_ rfl ⟨rfl, hb3⟩
  simp [results, Try.results13, go_sem, q0, q1, q2]
/-- A block's parent, and the pointer in it. -/
def parM (f lv : Int) : Int := (metasM f lv).getLastD 600
def slotM (f lv : Int) : Int := if pathM f lv = [] then rPtr f else (slotsM f lv).getLastD 0
theorem last_get (l : List Int) (k : Nat) (d : Int) (h : l.length = k + 1) : l.getD k 0 = l.getLastD d := by
  have hne : l ≠ [] := by intro e; rw [e] at h; cases h
  rw [List.getLastD_eq_getLast?, List.getLast?_eq_getElem?, List.getD_eq_getElem?_getD, h]
  simp [List.getElem?_eq_getElem (show k < l.length by omega)]
set_option maxHeartbeats 600000 in
theorem parent_yes (n : Int) (w : World) (hn : -9223372036854775808 ≤ n) (h : isB n = true) :
    Calls Try.prog 18 #[.int .i64 n] w fun e w' => e = .returned (.tuple #[.int .i64 (parM (fOf n) (lvOf n)), .int .i64 (slotM (fOf n) (lvOf n)), .int .i64 0]) ∧ Below w.heap.size w w' := by
  rcases hk : (pathM (fOf n) (lvOf n)).length with _ | k
  · have hp : pathM (fOf n) (lvOf n) = [] := List.eq_nil_of_length_eq_zero hk
    have e1 : parM (fOf n) (lvOf n) = 600 := by simp [parM, metasM, hp]
    have e2 : slotM (fOf n) (lvOf n) = rPtr (fOf n) := by simp [slotM, hp]
    rw [e1, e2]
    have HT := Lib.hid (fun W => to_n n W hn h 0 hk.symm)
    clear e1 e2 hp hk hn h
    generalize rPtr (fOf n) = R at *
    generalize metasM (fOf n) (lvOf n) = ms at *
    generalize slotsM (fOf n) (lvOf n) = ss at *
    go_enter Try.func18, Try.ntmps18
    go_wp2_with fail
    refine (HT.out _).mono ?_
    rintro e w1 ⟨a1, c1, a2, c2, rfl, hi1, hi2, hc1, hc2, hb1⟩
    have HB1 := Lib.hid hb1
    clear hi1 hi2 hb1 HT
    go_wp2_with fail
    go_quiet (fail)
    go_wp2
    go_ret3
    exact ⟨rfl, below_drewN (HB1.out.alloc HB1.out.size _) _⟩
  · have HL1 := last_get (metasM (fOf n) (lvOf n)) k 600 (by rw [metas_len, hk])
    have HL2 := last_get (slotsM (fOf n) (lvOf n)) k 0 (by rw [slots_len, hk])
    have hne : pathM (fOf n) (lvOf n) ≠ [] := by intro e; rw [e] at hk; cases hk
    have e1 : parM (fOf n) (lvOf n) = (metasM (fOf n) (lvOf n)).getD k 0 := HL1.symm
    have e2 : slotM (fOf n) (lvOf n) = (slotsM (fOf n) (lvOf n)).getD k 0 := by rw [slotM, if_neg hne]; exact HL2.symm
    rw [e1, e2]
    have HT := Lib.hid (fun W => to_n n W hn h (k + 1) hk.symm)
    have hlm : (metasM (fOf n) (lvOf n)).length = k + 1 := by rw [metas_len, hk]
    have hls : (slotsM (fOf n) (lvOf n)).length = k + 1 := by rw [slots_len, hk]
    have hk3 : k ≤ 3 := by have := rLev_bd (fOf n); have := lvOf_bd n; rw [path_len] at hk; omega
    have HLM := Lib.hid hlm
    have HLS := Lib.hid hls
    clear e1 e2 hne hk hn h HL1 HL2 hlm hls
    generalize rPtr (fOf n) = R at *
    generalize metasM (fOf n) (lvOf n) = ms at *
    generalize slotsM (fOf n) (lvOf n) = ss at *
    obtain ⟨m, hm⟩ : ∃ m, m = ms.getD k 0 := ⟨_, rfl⟩
    obtain ⟨s, hs⟩ : ∃ s, s = ss.getD k 0 := ⟨_, rfl⟩
    rw [← hm, ← hs]
    have HMM := Lib.hid hm
    have HSS := Lib.hid hs
    clear hm hs
    go_enter Try.func18, Try.ntmps18
    go_wp2_with fail
    refine (HT.out _).mono ?_
    rintro e w1 ⟨a1, c1, a2, c2, rfl, hi1, hi2, hc1, hc2, hb1⟩
    have HB1 := Lib.hid hb1
    obtain ⟨b1, o1, rfl, hd1⟩ := hi1 (by intro e; have := HLM.out; rw [e] at this; cases this)
    obtain ⟨b2, o2, rfl, hd2⟩ := hi2 (by intro e; have := HLS.out; rw [e] at this; cases this)
    have x1 := hd1 k (by have := HLM.out; omega)
    have x2 := hd2 k (by have := HLS.out; omega)
    rw [← HMM.out] at x1
    rw [← HSS.out] at x2
    have y1 := fun o => cell_later (sup_below w1 o) x1
    have y2 := fun o => cell_later (sup_below w1 o) x2
    clear hd1 hd2 hi1 hi2 hb1 HT
    have z0 : (0 : Int) ≤ (k : Int) := by omega
    have z1 : (k : Int) < (k : Int) + 1 := by omega
    go_wp2_with fail
    go_quiet (fail)
    go_wp2
    go_ret3
    exact ⟨rfl, below_drewN (HB1.out.alloc HB1.out.size _) _⟩
set_option maxHeartbeats 400000 in
theorem parent_no (n : Int) (w : World) (hn : -9223372036854775808 ≤ n) (h : isB n = false) :
    Calls Try.prog 18 #[.int .i64 n] w fun e w' => e = .returned (.tuple #[.int .i64 0, .int .i64 0, .int .i64 22]) ∧ Below w.heap.size w w' := by
  have HT := Lib.hid (fun W => to_no n W hn h)
  clear hn h
  go_enter Try.func18, Try.ntmps18
  go_wp2_with fail
  refine (HT.out _).mono ?_
  rintro e w1 ⟨rfl, hb1⟩
  have HB1 := Lib.hid hb1
  clear hb1
  go_wp2
  go_ret3
  exact ⟨rfl, HB1.out.alloc HB1.out.size _⟩
set_option maxHeartbeats 400000 in
theorem lawLevel_yes (n : Int) (w : World) (hn : -9223372036854775808 ≤ n) (h : isB n = true) :
    Calls Try.prog 22 #[.int .i64 n] w fun e w' => e = .returned (.int .i64 (lvOf n)) ∧ Below w.heap.size w w' := by
  have HT := Lib.hid (fun W => level_yes n W hn h)
  clear hn h
  generalize lvOf n = L at *
  go_enter Try.func22, Try.ntmps22
  go_wp2_with fail
  refine (HT.out _).mono ?_
  rintro e w1 ⟨rfl, hb1⟩
  have HB1 := Lib.hid hb1
  clear hb1
  go_wp2
  go_ret
  exact ⟨rfl, HB1.out⟩
/-- Are two lists of numbers the same? -/
def InsOut (w : World) (l m : List Int) (e : Ending) (w' : World) : Prop := e = .returned (.bool (decide (l = m))) ∧ Below w.heap.size w w'
set_option maxHeartbeats 400000 in
theorem ints_len (a b : Option Addr) (n k c d : Nat) (w : World) (h : n ≠ k) :
    Calls Try.prog 19 #[.slice a n c, .slice b k d] w fun e w' => e = .returned (.bool false) ∧ w = w' := by
  have hb : ((n : Int) == (k : Int)) = false := by simpa using (by omega : ¬ (n : Int) = (k : Int))
  have hb' : ((n : Int) != (k : Int)) = true := by simpa using (by omega : ¬ (n : Int) = (k : Int))
  have HB := Lib.hid hb
  go_enter Try.func19, Try.ntmps19
  go_wp2
  go_ret
  exact ⟨rfl, rfl⟩
def IntsRel (w : World) (l m : List Int) (n : Nat) (t : Value) (wr : World) : Prop := ∃ k q : Nat, t = .int .i64 k ∧ k ≤ n ∧ l.take k = m.take k ∧ wr = w.drewN q
set_option maxHeartbeats 600000 in
theorem ints_same (l m : List Int) (a b : Option Addr) (n c d : Nat) (w : World) (hl : n = l.length) (hm : n = m.length) (hn : n < 1000000000) (ha : Ints w a l) (hb : Ints w b m) :
    Calls Try.prog 19 #[.slice a n c, .slice b n d] w fun e w' => e = .returned (.bool (decide (l = m))) ∧ Below w.heap.size w w' := by
  have HL := Lib.hid hl
  have HM := Lib.hid hm
  have HA := Lib.hid ha
  have HB := Lib.hid hb
  have hb0 : ((n : Int) != (n : Int)) = false := by simp
  clear hl hm ha hb
  go_enter Try.func19, Try.ntmps19
  go_wp2
  go_loopw [13, 5] (fun t _ wr => IntsRel w l m n t wr) (fun t _ _ => n - (intOf t).toNat)
  case atStart => exact ⟨0, 0, rfl, by omega, by simp, rfl⟩
  case round =>
    obtain ⟨k, q, rfl, hk, hp, rfl⟩ := hrel
    have HP := Lib.hid hp
    clear hp
    by_cases hlt : k < n
    · obtain ⟨b1, o1, rfl, h1⟩ := HA.out (by intro e; have := HL.out; rw [e] at this; simp at this; omega)
      obtain ⟨b2, o2, rfl, h2⟩ := HB.out (by intro e; have := HM.out; rw [e] at this; simp at this; omega)
      have x1 := h1 k (by have := HL.out; omega)
      have x2 := h2 k (by have := HM.out; omega)
      have e1 : Hid (l.take (k + 1) = l.take k ++ [l.getD k 0]) := by
        show _ = _
        rw [List.take_add_one, List.getD_eq_getElem?_getD, List.getElem?_eq_getElem (by have := HL.out; omega)]; rfl
      have e2 : Hid (m.take (k + 1) = m.take k ++ [m.getD k 0]) := by
        show _ = _
        rw [List.take_add_one, List.getD_eq_getElem?_getD, List.getElem?_eq_getElem (by have := HM.out; omega)]; rfl
      clear h1 h2
      generalize l.getD k 0 = x at *
      generalize m.getD k 0 = y at *
      have z0 : (0 : Int) ≤ (k : Int) := by omega
      have z1 : (k : Int) < (n : Int) := by omega
      by_cases hxy : x = y
      · subst hxy
        have hc : (x != x) = false := by simp
        go_wp2_with fail
        go_quiet (fail)
        go_wp2
        go_roundw
        case rel => exact ⟨k + 1, _, by go_num, by omega, by rw [e1.out, e2.out, HP.out], rfl⟩
        case measure => simp [intOf]; omega
      · have hc : (x != y) = true := by simpa using hxy
        have hne : Hid (decide (l = m) = false) := by
          show _ = _
          apply decide_eq_false
          intro e
          subst e
          have := e1.out.symm.trans e2.out
          have := List.append_cancel_left this
          simp at this
          exact hxy this
        go_wp2_with fail
        go_quiet (fail)
        go_wp2
        go_ret
        rw [hne.out]
        exact ⟨rfl, below_drewN (below_drewN (Below.refl _ _) _) _⟩
    · obtain rfl : k = n := by omega
      have heq : Hid (decide (l = m) = true) := by
        show _ = _
        apply decide_eq_true
        have := HP.out
        rw [List.take_of_length_le (by have := HL.out; omega), List.take_of_length_le (by have := HM.out; omega)] at this
        exact this
      go_wp2
      go_ret
      rw [heq.out]
      exact ⟨rfl, below_drewN (Below.refl _ _) _⟩
theorem ints_any (l m : List Int) (a b : Option Addr) (n k c d : Nat) (w : World) (hl : n = l.length) (hm : k = m.length) (hn : n < 1000000000) (ha : Ints w a l) (hb : Ints w b m) :
    Calls Try.prog 19 #[.slice a n c, .slice b k d] w fun e w' => e = .returned (.bool (decide (l = m))) ∧ Below w.heap.size w w' := by
  by_cases h : n = k
  · subst h
    exact ints_same l m a b n c d w hl hm hn ha hb
  · have hne : decide (l = m) = false := decide_eq_false (fun e => h (by rw [hl, hm, e]))
    rw [hne]
    exact (ints_len a b n k c d w h).mono fun e w' ⟨h1, h2⟩ => ⟨h1, by rw [← h2]; exact Below.refl _ _⟩
end Go.Proofs.Ytcekejaefbdhfaa
