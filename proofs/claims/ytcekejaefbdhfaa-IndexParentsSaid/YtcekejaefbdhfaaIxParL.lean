/-
  The walk of IndexParents.
-/
import Derived.Test.YtcekejaefbdhfaaIxPaths
import Derived.Deep.DeepCutAuto
namespace Go.Proofs.Ytcekejaefbdhfaa
open Go.RowKit

/-- What a block's path has of its parent's. -/
def parB (n : Int) : Bool :=
  if isB n = true then
    if metasM (fOf n) (lvOf n) = [] then decide (parM (fOf n) (lvOf n) = 600 ∧ slotM (fOf n) (lvOf n) = rPtr (fOf n))
    else decide (isB (parM (fOf n) (lvOf n)) = true ∧ parM (fOf n) (lvOf n) = (metasM (fOf n) (lvOf n)).getD ((metasM (fOf n) (lvOf n)).length - 1) 0 ∧ slotM (fOf n) (lvOf n) = (slotsM (fOf n) (lvOf n)).getD ((metasM (fOf n) (lvOf n)).length - 1) 0 ∧
      metasM (fOf (parM (fOf n) (lvOf n))) (lvOf (parM (fOf n) (lvOf n))) ++ [parM (fOf n) (lvOf n)] = metasM (fOf n) (lvOf n) ∧ slotsM (fOf (parM (fOf n) (lvOf n))) (lvOf (parM (fOf n) (lvOf n))) ++ [slotM (fOf n) (lvOf n)] = slotsM (fOf n) (lvOf n) ∧ rPtr (fOf (parM (fOf n) (lvOf n))) = rPtr (fOf n) ∧
      -700 ≤ parM (fOf n) (lvOf n) ∧ parM (fOf n) (lvOf n) ≤ 700 ∧ (metasM (fOf n) (lvOf n)).length ≤ 3)
  else true
theorem par_in : (List.range 1400).all (fun i => parB ((i : Int) - 700)) = true := by decide +kernel
theorem par_all (n : Int) : parB n = true := by
  by_cases h : n < -700 ∨ 600 ≤ n
  · unfold parB; rw [isB_far h, if_neg (by decide)]
  · have := List.all_eq_true.1 par_in (n + 700).toNat (List.mem_range.2 (by omega))
    rwa [show (((n + 700).toNat : Nat) : Int) - 700 = n by omega] at this
set_option maxRecDepth 100000 in
set_option maxHeartbeats 4000000 in
theorem parents_no (n : Int) (w : World) (hn1 : -9223372036854775808 ≤ n) (hn2 : n ≤ 9223372036854775807) (h : isB n = false) :
    Calls Try.prog 4 #[.int .i64 n] w fun e w' => e = .returned (.bool true) ∧ Below w.heap.size w w' := by
  have HAw := Lib.hid (awake_any w)
  have HP := Lib.hid (fun W => parent_no n W hn1 h)
  have HF : Hid (∀ W, Calls Try.prog 14 #[.int .i64 n] W fun e w' => e = .returned (.tuple #[.agg #[.int .i64 0, .int .i64 0, .int .i64 0, .int .i64 0, .slice none 0 0, .slice none 0 0], .bool false]) ∧ Below W.heap.size W w') := fun W => (find_any n W hn1 hn2).mono fun e w' ho => by
    rw [wantM, if_neg (by rw [h]; decide)] at ho
    exact ho
  clear h hn1 hn2
  go_enter Try.func4, Try.ntmps4
  go_wp2_with fail
  refine HAw.out.mono ?_
  rintro e w1 ⟨rfl, hb1⟩
  have HB1 := Lib.hid hb1
  clear hb1 HAw
  go_wp2_with fail
  refine (HP.out _).mono ?_
  rintro e w2 ⟨rfl, hb2⟩
  have HB2 := Lib.hid (HB1.out.trans (hb2.mono HB1.out.size))
  clear hb2 HB1
  go_wp2_with fail
  refine (HF.out _).mono ?_
  rintro e w5 ⟨rfl, hb5⟩
  have hal := sup_below w5 (.cells #[.int .i64 0, .int .i64 0, .int .i64 0, .int .i64 0, .slice none 0 0, .slice none 0 0] MET)
  have HB5 := Lib.hid ((HB2.out.trans (hb5.mono HB2.out.size)).trans (hal.mono (HB2.out.trans (hb5.mono HB2.out.size)).size))
  clear hb5 HB2 hal
  go_wp2
  go_ret
  exact ⟨rfl, HB5.out⟩
set_option maxRecDepth 100000 in
set_option maxHeartbeats 4000000 in
theorem parents_root (n : Int) (w : World) (hn1 : -9223372036854775808 ≤ n) (hn2 : n ≤ 9223372036854775807) (h : isB n = true) (hms : metasM (fOf n) (lvOf n) = []) :
    Calls Try.prog 4 #[.int .i64 n] w fun e w' => e = .returned (.bool true) ∧ Below w.heap.size w w' := by
  have HAw := Lib.hid (awake_any w)
  have HP := Lib.hid (fun W => parent_yes n W hn1 h)
  have HF : Hid (∀ W, Calls Try.prog 14 #[.int .i64 n] W (FindO W (some ⟨n, lvOf n, fOf n, rPtr (fOf n), metasM (fOf n) (lvOf n), slotsM (fOf n) (lvOf n)⟩))) := fun W => by
    have := find_any n W hn1 hn2
    rwa [wantM, if_pos h] at this
  have HKm := Lib.hid (metas_len (fOf n) (lvOf n))
  have HKs := Lib.hid (slots_len (fOf n) (lvOf n))
  have hpa := par_all n
  unfold parB at hpa
  rw [if_pos h] at hpa
  rw [if_pos hms, decide_eq_true_eq] at hpa
  obtain ⟨hp1, hp2⟩ := hpa
  rw [hp1, hp2] at HP
  have hk0 : (pathM (fOf n) (lvOf n)).length = 0 := by rw [← metas_len, hms]; rfl
  rw [hk0] at HKm HKs
  have HKp : Hid ((0 : Nat) = 0) := rfl
  clear h hn1 hn2 hp1 hp2 hms hk0
  generalize hkp : (0 : Nat) = kp at HKm HKs HKp
  subst hkp
  generalize metasM (fOf n) (lvOf n) = ms at *
  generalize slotsM (fOf n) (lvOf n) = ss at *
  generalize rPtr (fOf n) = R at *
  generalize fOf n = f at *
  generalize lvOf n = lv at *
  go_enter Try.func4, Try.ntmps4
  go_wp2_with fail
  refine HAw.out.mono ?_
  rintro e w1 ⟨rfl, hb1⟩
  have HB1 := Lib.hid hb1
  clear hb1 HAw
  go_wp2_with fail
  refine (HP.out _).mono ?_
  rintro e w2 ⟨rfl, hb2⟩
  have HB2 := Lib.hid (HB1.out.trans (hb2.mono HB1.out.size))
  clear hb2 HB1
  go_wp2_with fail
  refine (HF.out _).mono ?_
  rintro e w5 ⟨am, cm, as_, cs_, rfl, hj1, hj2, _, _, hb5⟩
  rw [HKm.out]
  rw [HKs.out]
  have hal := sup_below w5 (.cells #[.int .i64 n, .int .i64 lv, .int .i64 f, .int .i64 R, .slice am 0 cm, .slice as_ 0 cs_] MET)
  have HM5 := Lib.hid (blo_laid w5 MET #[.int .i64 n, .int .i64 lv, .int .i64 f, .int .i64 R, .slice am 0 cm, .slice as_ 0 cs_])
  have HJ1 := Lib.hid (hj1.below hal)
  have HJ2 := Lib.hid (hj2.below hal)
  have HB5 := Lib.hid ((HB2.out.trans (hb5.mono HB2.out.size)).trans (hal.mono (HB2.out.trans (hb5.mono HB2.out.size)).size))
  clear hb5 HB2 hal hj1 hj2
  go_wp2
  go_ret
  exact ⟨rfl, HB5.out⟩
set_option maxRecDepth 100000 in
set_option maxHeartbeats 4000000 in
theorem parents_deep (n : Int) (w : World) (hn1 : -9223372036854775808 ≤ n) (hn2 : n ≤ 9223372036854775807) (h : isB n = true) (hms : metasM (fOf n) (lvOf n) ≠ []) :
    Calls Try.prog 4 #[.int .i64 n] w fun e w' => e = .returned (.bool true) ∧ Below w.heap.size w w' := by
  have HAw := Lib.hid (awake_any w)
  have HP := Lib.hid (fun W => parent_yes n W hn1 h)
  have HF : Hid (∀ W, Calls Try.prog 14 #[.int .i64 n] W (FindO W (some ⟨n, lvOf n, fOf n, rPtr (fOf n), metasM (fOf n) (lvOf n), slotsM (fOf n) (lvOf n)⟩))) := fun W => by
    have := find_any n W hn1 hn2
    rwa [wantM, if_pos h] at this
  have HKm := Lib.hid (metas_len (fOf n) (lvOf n))
  have HKs := Lib.hid (slots_len (fOf n) (lvOf n))
  have hpa := par_all n
  unfold parB at hpa
  rw [if_pos h] at hpa
  rw [if_neg hms, decide_eq_true_eq] at hpa
  obtain ⟨hp1, hp2, hp3, hp4, hp5, hp6, hp7, hp8, hp9⟩ := hpa
  have hkn : (pathM (fOf n) (lvOf n)).length ≠ 0 := by rw [← metas_len]; exact fun e => hms (List.eq_nil_of_length_eq_zero e)
  have HTp := Lib.hid (fun W => to_n (parM (fOf n) (lvOf n)) W (by omega) hp1 _ rfl)
  have HTn := Lib.hid (fun W => to_n n W hn1 h _ rfl)
  have HLm := Lib.hid (metas_len (fOf (parM (fOf n) (lvOf n))) (lvOf (parM (fOf n) (lvOf n))))
  have HLs := Lib.hid (slots_len (fOf (parM (fOf n) (lvOf n))) (lvOf (parM (fOf n) (lvOf n))))
  rw [metas_len] at hp2 hp3 hp9
  rw [hp6] at HTp
  clear h hn1 hn2 hms hp1 hp6
  generalize metasM (fOf (parM (fOf n) (lvOf n))) (lvOf (parM (fOf n) (lvOf n))) = qs at *
  generalize slotsM (fOf (parM (fOf n) (lvOf n))) (lvOf (parM (fOf n) (lvOf n))) = rs at *
  generalize (pathM (fOf (parM (fOf n) (lvOf n))) (lvOf (parM (fOf n) (lvOf n)))).length = kq at *
  generalize parM (fOf n) (lvOf n) = par at *
  generalize slotM (fOf n) (lvOf n) = slo at *
  generalize (pathM (fOf n) (lvOf n)).length = kp at *
  generalize metasM (fOf n) (lvOf n) = ms at *
  generalize slotsM (fOf n) (lvOf n) = ss at *
  generalize rPtr (fOf n) = R at *
  generalize fOf n = f at *
  generalize lvOf n = lv at *
  obtain ⟨k1, hkp⟩ : ∃ k1, kp = k1 + 1 := ⟨kp - 1, by omega⟩
  rw [show kp - 1 = k1 by omega] at hp2 hp3
  have HM4 := Lib.hid hp4
  have HS5 := Lib.hid hp5
  have HP2 := Lib.hid hp2
  have HP3 := Lib.hid hp3
  have HKp := Lib.hid hkp
  have kk : ¬ (kp : Int) = 0 := by omega
  have kkb : ((kp : Int) == 0) = false := by simpa using kk
  have kkm : (kp : Int) - 1 = (k1 : Int) := by omega
  have kkl : (k1 : Int) < (kp : Int) := by omega
  clear hp2 hp3 hp4 hp5 hkn hkp
  go_enter Try.func4, Try.ntmps4
  go_wp2_with fail
  refine HAw.out.mono ?_
  rintro e w1 ⟨rfl, hb1⟩
  have HB1 := Lib.hid hb1
  clear hb1 HAw
  go_wp2_with fail
  refine (HP.out _).mono ?_
  rintro e w2 ⟨rfl, hb2⟩
  have HB2 := Lib.hid (HB1.out.trans (hb2.mono HB1.out.size))
  clear hb2 HB1
  go_wp2_with fail
  refine (HF.out _).mono ?_
  rintro e w5 ⟨am, cm, as_, cs_, rfl, hj1, hj2, _, _, hb5⟩
  rw [HKm.out]
  rw [HKs.out]
  have hal := sup_below w5 (.cells #[.int .i64 n, .int .i64 lv, .int .i64 f, .int .i64 R, .slice am kp cm, .slice as_ kp cs_] MET)
  have HM5 := Lib.hid (blo_laid w5 MET #[.int .i64 n, .int .i64 lv, .int .i64 f, .int .i64 R, .slice am kp cm, .slice as_ kp cs_])
  have HJ1 := Lib.hid (hj1.below hal)
  have HJ2 := Lib.hid (hj2.below hal)
  have HB5 := Lib.hid ((HB2.out.trans (hb5.mono HB2.out.size)).trans (hal.mono (HB2.out.trans (hb5.mono HB2.out.size)).size))
  clear hb5 HB2 hal hj1 hj2
  go_wp2_with fail
  refine (HTp.out _).mono ?_
  rintro e w6 ⟨a1, c1, a2, c2, rfl, hi1, hi2, _, _, hb6⟩
  have hal := sup_below w6 (.cells #[.int .i64 R, .slice a1 kq c1, .slice a2 kq c2] PTI)
  have HM6 := Lib.hid ((HM5.out.later hb6).later hal)
  have HQ6 := Lib.hid (blo_laid w6 PTI #[.int .i64 R, .slice a1 kq c1, .slice a2 kq c2])
  have HJ1' := Lib.hid ((HJ1.out.below hb6).below hal)
  have HJ2' := Lib.hid ((HJ2.out.below hb6).below hal)
  have HI1 := Lib.hid (hi1.below hal)
  have HI2 := Lib.hid (hi2.below hal)
  have HB6 := Lib.hid ((HB5.out.trans (hb6.mono HB5.out.size)).trans (hal.mono (HB5.out.trans (hb6.mono HB5.out.size)).size))
  clear hb6 HB5 HM5 hal HJ1 HJ2 hi1 hi2
  go_wp2_with fail
  refine (HTn.out _).mono ?_
  rintro e w7 ⟨b1, d1, b2, d2, rfl, hi1, hi2, _, _, hb7⟩
  have hal := sup_below w7 (.cells #[.int .i64 R, .slice b1 kp d1, .slice b2 kp d2] PTI)
  have HM7 := Lib.hid ((HM6.out.later hb7).later hal)
  have HQ7 := Lib.hid ((HQ6.out.later hb7).later hal)
  have HN7 := Lib.hid (blo_laid w7 PTI #[.int .i64 R, .slice b1 kp d1, .slice b2 kp d2])
  have HJ1 := Lib.hid ((HJ1'.out.below hb7).below hal)
  have HJ2 := Lib.hid ((HJ2'.out.below hb7).below hal)
  have HI1' := Lib.hid ((HI1.out.below hb7).below hal)
  have HI2' := Lib.hid ((HI2.out.below hb7).below hal)
  have HN1 := Lib.hid (hi1.below hal)
  have HN2 := Lib.hid (hi2.below hal)
  have HB7 := Lib.hid ((HB6.out.trans (hb7.mono HB6.out.size)).trans (hal.mono (HB6.out.trans (hb7.mono HB6.out.size)).size))
  clear hb7 HB6 HM6 hal HJ1' HJ2' hi1 hi2 HI1 HI2 HQ6
  go_upto_region 12 with fail
  have kkw : IntKind.i64.wrap (k1 : Int) = (k1 : Int) := IntWalk.i64_in _ (by omega)
  have hb1 : qs.length < 100 := by
    have h1 := congrArg List.length HM4.out
    have h2 := HKm.out
    simp at h1
    omega
  have hb2 : rs.length < 100 := by
    have h1 := congrArg List.length HS5.out
    have h2 := HKs.out
    simp at h1
    omega
  obtain ⟨eb, eo, rfl, he⟩ := HJ1.out (fun e => by have h2 := HKm.out; have h3 := HKp.out; rw [e] at h2; simp at h2; omega)
  obtain ⟨fb, fo, rfl, hfl⟩ := HJ2.out (fun e => by have h2 := HKs.out; have h3 := HKp.out; rw [e] at h2; simp at h2; omega)
  have le := he k1 (by have h2 := HKm.out; have h3 := HKp.out; omega)
  have lf := hfl k1 (by have h2 := HKs.out; have h3 := HKp.out; omega)
  rw [← HP2.out] at le
  rw [← HP3.out] at lf
  clear he hfl
  have m4 := HM7.out.cell 4
  have m5 := HM7.out.cell 5
  have q0 := HQ7.out.cell 0
  have q1 := HQ7.out.cell 1
  have q2 := HQ7.out.cell 2
  have n0 := HN7.out.cell 0
  have n1 := HN7.out.cell 1
  have n2 := HN7.out.cell 2
  simp at m4 m5 q0 q1 q2
  generalize (w7.alloc (.cells #[.int .i64 R, .slice b1 kp d1, .slice b2 kp d2] PTI)) = w8 at *
  generalize w5.heap.size = g5 at *
  generalize w6.heap.size = g6 at *
  generalize w7.heap.size = g7 at *
  simp at n0 n1 n2
  obtain ⟨RL, hRL⟩ : ∃ RL : List (Nat × RowT), RL = [(29, ⟨[], 0, 0⟩), (32, ⟨qs, 0, 1⟩), (34, ⟨[par], 2, 0⟩), (35, ⟨qs ++ [par], 0, 2⟩), (41, ⟨[], 1, 0⟩), (44, ⟨rs, 1, 1⟩), (46, ⟨[slo], 3, 0⟩), (47, ⟨rs ++ [slo], 1, 2⟩)] := ⟨_, rfl⟩
  obtain ⟨TL, hTL⟩ : ∃ TL : List (Nat × Value), TL = [(0, .int .i64 0), (1, .bool true), (2, .bool true), (3, .int .i64 0), (4, .bool true), (5, .bool true), (6, .bool true), (7, .int .i64 par), (8, .pointer (some ⟨g5, 3, none⟩)), (9, .pointer (some ⟨g5, 4, none⟩)), (10, .slice (some ⟨eb, eo, none⟩) kp cm), (11, .int .i64 (kp : Int)), (12, .int .i64 (k1 : Int)), (13, .pointer (some ⟨eb, eo + k1, none⟩)), (14, .int .i64 par), (15, .bool true), (16, .bool true), (17, .bool true), (18, .int .i64 slo), (19, .pointer (some ⟨g5, 3, none⟩)), (20, .pointer (some ⟨g5, 5, none⟩)), (21, .slice (some ⟨fb, fo, none⟩) kp cs_), (22, .int .i64 (kp : Int)), (23, .int .i64 (k1 : Int)), (24, .pointer (some ⟨fb, fo + k1, none⟩)), (25, .int .i64 slo), (26, .bool true), (27, .bool true), (28, .bool true), (30, .pointer (some ⟨g6, 1, none⟩)), (31, .slice a1 kq c1), (33, .int .i64 par), (36, .pointer (some ⟨g7, 1, none⟩)), (37, .slice b1 kp d1), (38, .bool true), (39, .bool true), (40, .bool true), (42, .pointer (some ⟨g6, 2, none⟩)), (43, .slice a2 kq c2), (45, .int .i64 slo), (48, .pointer (some ⟨g7, 2, none⟩)), (49, .slice b2 kp d2), (50, .bool true), (51, .bool true), (52, .bool true), (53, .pointer (some ⟨g6, 0, none⟩)), (54, .int .i64 R), (55, .pointer (some ⟨g7, 0, none⟩)), (56, .int .i64 R), (57, .bool true), (58, .bool true), (59, .bool true)] := ⟨_, rfl⟩
  obtain ⟨UL, hUL⟩ : ∃ UL : List UseT, UL = [] := ⟨_, rfl⟩
  obtain ⟨CL, hCL⟩ : ∃ CL : List (Nat × Nat), CL = [(35, 32), (47, 44)] := ⟨_, rfl⟩
  have hKB : keysB RL := by intro x hx y hy e; simp [hRL] at hx hy; rcases hx with rfl | rfl | rfl | rfl | rfl | rfl | rfl | rfl <;> rcases hy with rfl | rfl | rfl | rfl | rfl | rfl | rfl | rfl <;> first | rfl | (exfalso; simp at e; done) | fail
  have hUB : usesB UL := by
    intro x hx X Y h
    simp [hUL] at hx
    
  refine wp_region_inv (n := 60) [(0, 67), (1, 68), (2, 69), (3, 70), (4, 71), (5, 72), (6, 73), (7, 74), (8, 75), (9, 76), (10, 77), (11, 78), (12, 79), (13, 80), (14, 81), (15, 82), (16, 83), (17, 84), (18, 85), (19, 86), (20, 87), (21, 88), (22, 89), (23, 90), (24, 91), (25, 92), (26, 93), (27, 94), (28, 95), (29, 96), (30, 97), (31, 98), (32, 99), (33, 100), (34, 101), (35, 102), (36, 103), (37, 104), (38, 105), (39, 106), (40, 107), (41, 108), (42, 109), (43, 110), (44, 111), (45, 112), (46, 113), (47, 114), (48, 115), (49, 116), (50, 117), (51, 118), (52, 119), (53, 120), (54, 121), (55, 122), (56, 123), (57, 124), (58, 125), (59, 2)] (BG RL TL UL CL w8 INT) (by kernel_rfl) (by kernel_rfl) (by kernel_rfl) (fun X => by simp only [putL, Act.put, List.setIfInBounds_toArray, List.set_cons_zero, List.set_cons_succ]; rfl) (fun X => BG.start) ?_ ?_
  · show StepsI _ _ _ _ _ 0 [_, _, _, _, _, _, _, _, _, _, _, _, _, _, _, _, _, _, _, _, _, _, _, _, _, _, _, _, _, _, _, _, _, _, _, _, _, _, _, _, _, _, _, _, _, _, _, _, _, _, _, _, _, _, _, _, _, _, _, _]
    refine ⟨fun D X W hD hd hI K hK => ?_, ?_⟩
    · exact step_of_runW (v := .int .i64 0) (w' := W) (by simp [Region.wanted]) (by simp [go_sem, execOp]) (hK _ _ (hI.tell hUB 0 _ hD (by simp [hRL]) (by simp [hTL]) (by intro x hx e; simp [hUL] at hx) (by simp [hCL])))
    refine ⟨fun D X W hD hd hI K hK => ?_, ?_⟩
    · have a0 := hI.dt (0, .int .i64 0) (by simp [hTL]) (hd ⟨0, .data⟩ (by simp) rfl)
      exact step_of_runW (v := .bool true) (w' := W) (by simp [Region.wanted]) (by simp [go_sem, execOp, a0]) (hK _ _ (hI.tell hUB 1 _ hD (by simp [hRL]) (by simp [hTL]) (by intro x hx e; simp [hUL] at hx) (by simp [hCL])))
    refine ⟨fun D X W hD hd hI K hK => ?_, ?_⟩
    · have a1 := hI.dt (1, .bool true) (by simp [hTL]) (hd ⟨1, .data⟩ (by simp) rfl)
      exact step_of_runW (v := .bool true) (w' := W) (by simp [Region.wanted]) (by simp [go_sem, execOp, a1]) (hK _ _ (hI.tell hUB 2 _ hD (by simp [hRL]) (by simp [hTL]) (by intro x hx e; simp [hUL] at hx) (by simp [hCL])))
    refine ⟨fun D X W hD hd hI K hK => ?_, ?_⟩
    · have a2 := hI.dt (2, .bool true) (by simp [hTL]) (hd ⟨2, .guard⟩ (by simp) rfl)
      exact step_of_runW (v := .int .i64 0) (w' := W) (by simp [Region.wanted, yielded, a2]) (by simp [go_sem, execOp, a2]) (hK _ _ (hI.tell hUB 3 _ hD (by simp [hRL]) (by simp [hTL]) (by intro x hx e; simp [hUL] at hx) (by simp [hCL])))
    refine ⟨fun D X W hD hd hI K hK => ?_, ?_⟩
    · have a2 := hI.dt (2, .bool true) (by simp [hTL]) (hd ⟨2, .guard⟩ (by simp) rfl)
      have a3 := hI.dt (3, .int .i64 0) (by simp [hTL]) (hd ⟨3, .data⟩ (by simp) rfl)
      exact step_of_runW (v := .bool true) (w' := W) (by simp [Region.wanted, yielded, a2]) (by simp [go_sem, execOp, a2, a3]) (hK _ _ (hI.tell hUB 4 _ hD (by simp [hRL]) (by simp [hTL]) (by intro x hx e; simp [hUL] at hx) (by simp [hCL])))
    refine ⟨fun D X W hD hd hI K hK => ?_, ?_⟩
    · have a2 := hI.dt (2, .bool true) (by simp [hTL]) (hd ⟨2, .data⟩ (by simp) rfl)
      have a4 := hI.dt (4, .bool true) (by simp [hTL]) (hd ⟨4, .data⟩ (by simp) rfl)
      exact step_of_runW (v := .bool true) (w' := W) (by simp [Region.wanted]) (by simp [go_sem, execOp, a2, a4]) (hK _ _ (hI.tell hUB 5 _ hD (by simp [hRL]) (by simp [hTL]) (by intro x hx e; simp [hUL] at hx) (by simp [hCL])))
    refine ⟨fun D X W hD hd hI K hK => ?_, ?_⟩
    · have a5 := hI.dt (5, .bool true) (by simp [hTL]) (hd ⟨5, .data⟩ (by simp) rfl)
      exact step_of_runW (v := .bool true) (w' := W) (by simp [Region.wanted]) (by simp [go_sem, execOp, a5]) (hK _ _ (hI.tell hUB 6 _ hD (by simp [hRL]) (by simp [hTL]) (by intro x hx e; simp [hUL] at hx) (by simp [hCL])))
    refine ⟨fun D X W hD hd hI K hK => ?_, ?_⟩
    · have a6 := hI.dt (6, .bool true) (by simp [hTL]) (hd ⟨6, .guard⟩ (by simp) rfl)
      exact step_of_runW (v := .int .i64 par) (w' := W) (by simp [Region.wanted, yielded, a6]) (by simp [go_sem, execOp, a6]) (hK _ _ (hI.tell hUB 7 _ hD (by simp [hRL]) (by simp [hTL]) (by intro x hx e; simp [hUL] at hx) (by simp [hCL])))
    refine ⟨fun D X W hD hd hI K hK => ?_, ?_⟩
    · have a6 := hI.dt (6, .bool true) (by simp [hTL]) (hd ⟨6, .guard⟩ (by simp) rfl)
      exact step_of_runW (v := .pointer (some ⟨g5, 3, none⟩)) (w' := W) (by simp [Region.wanted, yielded, a6]) (by simp [go_sem, execOp, a6]) (hK _ _ (hI.tell hUB 8 _ hD (by simp [hRL]) (by simp [hTL]) (by intro x hx e; simp [hUL] at hx) (by simp [hCL])))
    refine ⟨fun D X W hD hd hI K hK => ?_, ?_⟩
    · have a6 := hI.dt (6, .bool true) (by simp [hTL]) (hd ⟨6, .guard⟩ (by simp) rfl)
      have a8 := hI.dt (8, .pointer (some ⟨g5, 3, none⟩)) (by simp [hTL]) (hd ⟨8, .data⟩ (by simp) rfl)
      exact step_of_runW (v := .pointer (some ⟨g5, 4, none⟩)) (w' := W) (by simp [Region.wanted, yielded, a6]) (by simp [go_sem, execOp, a6, a8]) (hK _ _ (hI.tell hUB 9 _ hD (by simp [hRL]) (by simp [hTL]) (by intro x hx e; simp [hUL] at hx) (by simp [hCL])))
    refine ⟨fun D X W hD hd hI K hK => ?_, ?_⟩
    · have a6 := hI.dt (6, .bool true) (by simp [hTL]) (hd ⟨6, .guard⟩ (by simp) rfl)
      have a9 := hI.dt (9, .pointer (some ⟨g5, 4, none⟩)) (by simp [hTL]) (hd ⟨9, .data⟩ (by simp) rfl)
      have m4W := cell_later hI.ri.b m4
      exact step_of_runW (v := .slice (some ⟨eb, eo, none⟩) kp cm) (w' := W) (by simp [Region.wanted, yielded, a6]) (by simp [go_sem, execOp, a6, a9, m4W]) (hK _ _ (hI.tell hUB 10 _ hD (by simp [hRL]) (by simp [hTL]) (by intro x hx e; simp [hUL] at hx) (by simp [hCL])))
    refine ⟨fun D X W hD hd hI K hK => ?_, ?_⟩
    · have a6 := hI.dt (6, .bool true) (by simp [hTL]) (hd ⟨6, .guard⟩ (by simp) rfl)
      exact step_of_runW (v := .int .i64 (kp : Int)) (w' := W) (by simp [Region.wanted, yielded, a6]) (by simp [go_sem, execOp, a6]) (hK _ _ (hI.tell hUB 11 _ hD (by simp [hRL]) (by simp [hTL]) (by intro x hx e; simp [hUL] at hx) (by simp [hCL])))
    refine ⟨fun D X W hD hd hI K hK => ?_, ?_⟩
    · have a6 := hI.dt (6, .bool true) (by simp [hTL]) (hd ⟨6, .guard⟩ (by simp) rfl)
      have a11 := hI.dt (11, .int .i64 (kp : Int)) (by simp [hTL]) (hd ⟨11, .data⟩ (by simp) rfl)
      exact step_of_runW (v := .int .i64 (k1 : Int)) (w' := W) (by simp [Region.wanted, yielded, a6]) (by simp [go_sem, execOp, a6, a11, kkm, kkw]) (hK _ _ (hI.tell hUB 12 _ hD (by simp [hRL]) (by simp [hTL]) (by intro x hx e; simp [hUL] at hx) (by simp [hCL])))
    refine ⟨fun D X W hD hd hI K hK => ?_, ?_⟩
    · have a6 := hI.dt (6, .bool true) (by simp [hTL]) (hd ⟨6, .guard⟩ (by simp) rfl)
      have a10 := hI.dt (10, .slice (some ⟨eb, eo, none⟩) kp cm) (by simp [hTL]) (hd ⟨10, .data⟩ (by simp) rfl)
      have a12 := hI.dt (12, .int .i64 (k1 : Int)) (by simp [hTL]) (hd ⟨12, .data⟩ (by simp) rfl)
      exact step_of_runW (v := .pointer (some ⟨eb, eo + k1, none⟩)) (w' := W) (by simp [Region.wanted, yielded, a6]) (by simp [go_sem, execOp, a6, a10, a12, kkl]) (hK _ _ (hI.tell hUB 13 _ hD (by simp [hRL]) (by simp [hTL]) (by intro x hx e; simp [hUL] at hx) (by simp [hCL])))
    refine ⟨fun D X W hD hd hI K hK => ?_, ?_⟩
    · have a6 := hI.dt (6, .bool true) (by simp [hTL]) (hd ⟨6, .guard⟩ (by simp) rfl)
      have a13 := hI.dt (13, .pointer (some ⟨eb, eo + k1, none⟩)) (by simp [hTL]) (hd ⟨13, .data⟩ (by simp) rfl)
      have leW := cell_later hI.ri.b le
      exact step_of_runW (v := .int .i64 par) (w' := W) (by simp [Region.wanted, yielded, a6]) (by simp [go_sem, execOp, a6, a13, leW]) (hK _ _ (hI.tell hUB 14 _ hD (by simp [hRL]) (by simp [hTL]) (by intro x hx e; simp [hUL] at hx) (by simp [hCL])))
    refine ⟨fun D X W hD hd hI K hK => ?_, ?_⟩
    · have a6 := hI.dt (6, .bool true) (by simp [hTL]) (hd ⟨6, .guard⟩ (by simp) rfl)
      have a7 := hI.dt (7, .int .i64 par) (by simp [hTL]) (hd ⟨7, .data⟩ (by simp) rfl)
      have a14 := hI.dt (14, .int .i64 par) (by simp [hTL]) (hd ⟨14, .data⟩ (by simp) rfl)
      exact step_of_runW (v := .bool true) (w' := W) (by simp [Region.wanted, yielded, a6]) (by simp [go_sem, execOp, a6, a7, a14]) (hK _ _ (hI.tell hUB 15 _ hD (by simp [hRL]) (by simp [hTL]) (by intro x hx e; simp [hUL] at hx) (by simp [hCL])))
    refine ⟨fun D X W hD hd hI K hK => ?_, ?_⟩
    · have a6 := hI.dt (6, .bool true) (by simp [hTL]) (hd ⟨6, .data⟩ (by simp) rfl)
      have a15 := hI.dt (15, .bool true) (by simp [hTL]) (hd ⟨15, .data⟩ (by simp) rfl)
      exact step_of_runW (v := .bool true) (w' := W) (by simp [Region.wanted]) (by simp [go_sem, execOp, a6, a15]) (hK _ _ (hI.tell hUB 16 _ hD (by simp [hRL]) (by simp [hTL]) (by intro x hx e; simp [hUL] at hx) (by simp [hCL])))
    refine ⟨fun D X W hD hd hI K hK => ?_, ?_⟩
    · have a16 := hI.dt (16, .bool true) (by simp [hTL]) (hd ⟨16, .data⟩ (by simp) rfl)
      exact step_of_runW (v := .bool true) (w' := W) (by simp [Region.wanted]) (by simp [go_sem, execOp, a16]) (hK _ _ (hI.tell hUB 17 _ hD (by simp [hRL]) (by simp [hTL]) (by intro x hx e; simp [hUL] at hx) (by simp [hCL])))
    refine ⟨fun D X W hD hd hI K hK => ?_, ?_⟩
    · have a17 := hI.dt (17, .bool true) (by simp [hTL]) (hd ⟨17, .guard⟩ (by simp) rfl)
      exact step_of_runW (v := .int .i64 slo) (w' := W) (by simp [Region.wanted, yielded, a17]) (by simp [go_sem, execOp, a17]) (hK _ _ (hI.tell hUB 18 _ hD (by simp [hRL]) (by simp [hTL]) (by intro x hx e; simp [hUL] at hx) (by simp [hCL])))
    refine ⟨fun D X W hD hd hI K hK => ?_, ?_⟩
    · have a17 := hI.dt (17, .bool true) (by simp [hTL]) (hd ⟨17, .guard⟩ (by simp) rfl)
      exact step_of_runW (v := .pointer (some ⟨g5, 3, none⟩)) (w' := W) (by simp [Region.wanted, yielded, a17]) (by simp [go_sem, execOp, a17]) (hK _ _ (hI.tell hUB 19 _ hD (by simp [hRL]) (by simp [hTL]) (by intro x hx e; simp [hUL] at hx) (by simp [hCL])))
    refine ⟨fun D X W hD hd hI K hK => ?_, ?_⟩
    · have a17 := hI.dt (17, .bool true) (by simp [hTL]) (hd ⟨17, .guard⟩ (by simp) rfl)
      have a19 := hI.dt (19, .pointer (some ⟨g5, 3, none⟩)) (by simp [hTL]) (hd ⟨19, .data⟩ (by simp) rfl)
      exact step_of_runW (v := .pointer (some ⟨g5, 5, none⟩)) (w' := W) (by simp [Region.wanted, yielded, a17]) (by simp [go_sem, execOp, a17, a19]) (hK _ _ (hI.tell hUB 20 _ hD (by simp [hRL]) (by simp [hTL]) (by intro x hx e; simp [hUL] at hx) (by simp [hCL])))
    refine ⟨fun D X W hD hd hI K hK => ?_, ?_⟩
    · have a17 := hI.dt (17, .bool true) (by simp [hTL]) (hd ⟨17, .guard⟩ (by simp) rfl)
      have a20 := hI.dt (20, .pointer (some ⟨g5, 5, none⟩)) (by simp [hTL]) (hd ⟨20, .data⟩ (by simp) rfl)
      have m5W := cell_later hI.ri.b m5
      exact step_of_runW (v := .slice (some ⟨fb, fo, none⟩) kp cs_) (w' := W) (by simp [Region.wanted, yielded, a17]) (by simp [go_sem, execOp, a17, a20, m5W]) (hK _ _ (hI.tell hUB 21 _ hD (by simp [hRL]) (by simp [hTL]) (by intro x hx e; simp [hUL] at hx) (by simp [hCL])))
    refine ⟨fun D X W hD hd hI K hK => ?_, ?_⟩
    · have a17 := hI.dt (17, .bool true) (by simp [hTL]) (hd ⟨17, .guard⟩ (by simp) rfl)
      exact step_of_runW (v := .int .i64 (kp : Int)) (w' := W) (by simp [Region.wanted, yielded, a17]) (by simp [go_sem, execOp, a17]) (hK _ _ (hI.tell hUB 22 _ hD (by simp [hRL]) (by simp [hTL]) (by intro x hx e; simp [hUL] at hx) (by simp [hCL])))
    refine ⟨fun D X W hD hd hI K hK => ?_, ?_⟩
    · have a17 := hI.dt (17, .bool true) (by simp [hTL]) (hd ⟨17, .guard⟩ (by simp) rfl)
      have a22 := hI.dt (22, .int .i64 (kp : Int)) (by simp [hTL]) (hd ⟨22, .data⟩ (by simp) rfl)
      exact step_of_runW (v := .int .i64 (k1 : Int)) (w' := W) (by simp [Region.wanted, yielded, a17]) (by simp [go_sem, execOp, a17, a22, kkm, kkw]) (hK _ _ (hI.tell hUB 23 _ hD (by simp [hRL]) (by simp [hTL]) (by intro x hx e; simp [hUL] at hx) (by simp [hCL])))
    refine ⟨fun D X W hD hd hI K hK => ?_, ?_⟩
    · have a17 := hI.dt (17, .bool true) (by simp [hTL]) (hd ⟨17, .guard⟩ (by simp) rfl)
      have a21 := hI.dt (21, .slice (some ⟨fb, fo, none⟩) kp cs_) (by simp [hTL]) (hd ⟨21, .data⟩ (by simp) rfl)
      have a23 := hI.dt (23, .int .i64 (k1 : Int)) (by simp [hTL]) (hd ⟨23, .data⟩ (by simp) rfl)
      exact step_of_runW (v := .pointer (some ⟨fb, fo + k1, none⟩)) (w' := W) (by simp [Region.wanted, yielded, a17]) (by simp [go_sem, execOp, a17, a21, a23, kkl]) (hK _ _ (hI.tell hUB 24 _ hD (by simp [hRL]) (by simp [hTL]) (by intro x hx e; simp [hUL] at hx) (by simp [hCL])))
    refine ⟨fun D X W hD hd hI K hK => ?_, ?_⟩
    · have a17 := hI.dt (17, .bool true) (by simp [hTL]) (hd ⟨17, .guard⟩ (by simp) rfl)
      have a24 := hI.dt (24, .pointer (some ⟨fb, fo + k1, none⟩)) (by simp [hTL]) (hd ⟨24, .data⟩ (by simp) rfl)
      have lfW := cell_later hI.ri.b lf
      exact step_of_runW (v := .int .i64 slo) (w' := W) (by simp [Region.wanted, yielded, a17]) (by simp [go_sem, execOp, a17, a24, lfW]) (hK _ _ (hI.tell hUB 25 _ hD (by simp [hRL]) (by simp [hTL]) (by intro x hx e; simp [hUL] at hx) (by simp [hCL])))
    refine ⟨fun D X W hD hd hI K hK => ?_, ?_⟩
    · have a17 := hI.dt (17, .bool true) (by simp [hTL]) (hd ⟨17, .guard⟩ (by simp) rfl)
      have a18 := hI.dt (18, .int .i64 slo) (by simp [hTL]) (hd ⟨18, .data⟩ (by simp) rfl)
      have a25 := hI.dt (25, .int .i64 slo) (by simp [hTL]) (hd ⟨25, .data⟩ (by simp) rfl)
      exact step_of_runW (v := .bool true) (w' := W) (by simp [Region.wanted, yielded, a17]) (by simp [go_sem, execOp, a17, a18, a25]) (hK _ _ (hI.tell hUB 26 _ hD (by simp [hRL]) (by simp [hTL]) (by intro x hx e; simp [hUL] at hx) (by simp [hCL])))
    refine ⟨fun D X W hD hd hI K hK => ?_, ?_⟩
    · have a17 := hI.dt (17, .bool true) (by simp [hTL]) (hd ⟨17, .data⟩ (by simp) rfl)
      have a26 := hI.dt (26, .bool true) (by simp [hTL]) (hd ⟨26, .data⟩ (by simp) rfl)
      exact step_of_runW (v := .bool true) (w' := W) (by simp [Region.wanted]) (by simp [go_sem, execOp, a17, a26]) (hK _ _ (hI.tell hUB 27 _ hD (by simp [hRL]) (by simp [hTL]) (by intro x hx e; simp [hUL] at hx) (by simp [hCL])))
    refine ⟨fun D X W hD hd hI K hK => ?_, ?_⟩
    · have a27 := hI.dt (27, .bool true) (by simp [hTL]) (hd ⟨27, .data⟩ (by simp) rfl)
      exact step_of_runW (v := .bool true) (w' := W) (by simp [Region.wanted]) (by simp [go_sem, execOp, a27]) (hK _ _ (hI.tell hUB 28 _ hD (by simp [hRL]) (by simp [hTL]) (by intro x hx e; simp [hUL] at hx) (by simp [hCL])))
    refine ⟨fun D X W hD hd hI K hK => ?_, ?_⟩
    · have a28 := hI.dt (28, .bool true) (by simp [hTL]) (hd ⟨28, .guard⟩ (by simp) rfl)
      refine step_of_runW (v := .slice (some ⟨W.heap.size, 0, none⟩) 0 0) (w' := W.alloc (.cells #[] INT)) (by simp [Region.wanted, yielded, a28]) (by simp [go_sem, execOp]) (hK _ _ ?_)
      exact hI.set hUB 29 _ hD (hI.ri.fresh hKB 29 _ ⟨[], 0, 0⟩ (by simp [hRL]) (sup_below W _) rfl (by simp) ⟨rfl, .inr ⟨W.heap.size, 0, #[], rfl, hI.ri.b.size, heap_alloc_new W _, Nat.le_refl _, by decide, rfl, rfl⟩⟩) (by simp [hTL]) (by intro x hx e; simp [hUL] at hx) (by intro x hx e; simp [hCL] at hx; first | (exfalso; simp [hx] at e; done) | (rcases hx with rfl | rfl <;> first | (exfalso; simp at e; done) | (first | exact dp | exact dq) | fail) | (subst hx; first | exact dp | exact dq) | fail)
    refine ⟨fun D X W hD hd hI K hK => ?_, ?_⟩
    · have a28 := hI.dt (28, .bool true) (by simp [hTL]) (hd ⟨28, .guard⟩ (by simp) rfl)
      exact step_of_runW (v := .pointer (some ⟨g6, 1, none⟩)) (w' := W) (by simp [Region.wanted, yielded, a28]) (by simp [go_sem, execOp, a28]) (hK _ _ (hI.tell hUB 30 _ hD (by simp [hRL]) (by simp [hTL]) (by intro x hx e; simp [hUL] at hx) (by simp [hCL])))
    refine ⟨fun D X W hD hd hI K hK => ?_, ?_⟩
    · have a28 := hI.dt (28, .bool true) (by simp [hTL]) (hd ⟨28, .guard⟩ (by simp) rfl)
      have a30 := hI.dt (30, .pointer (some ⟨g6, 1, none⟩)) (by simp [hTL]) (hd ⟨30, .data⟩ (by simp) rfl)
      have q1W := cell_later hI.ri.b q1
      exact step_of_runW (v := .slice a1 kq c1) (w' := W) (by simp [Region.wanted, yielded, a28]) (by simp [go_sem, execOp, a28, a30, q1W]) (hK _ _ (hI.tell hUB 31 _ hD (by simp [hRL]) (by simp [hTL]) (by intro x hx e; simp [hUL] at hx) (by simp [hCL])))
    refine ⟨fun D X W hD hd hI K hK => ?_, ?_⟩
    · have a28 := hI.dt (28, .bool true) (by simp [hTL]) (hd ⟨28, .chain⟩ (by simp) rfl)
      have dp : D 29 = true := hd ⟨29, .data⟩ (by simp) rfl
      have hL35 : D 35 = false := by cases hh : D 35 with
        | false => rfl
        | true => have := hI.cl (35, 32) (by simp [hCL]) hh; rw [hD] at this; cases this
      have r29 := hI.ri.rows (29, ⟨[], 0, 0⟩) (by simp [hRL]) (dp) (by intro y hy e1 e2; simp [hRL] at hy; rcases hy with rfl | rfl | rfl | rfl | rfl | rfl | rfl | rfl <;> first | exact hD | exact hL35 | (exfalso; simp at e1; done) | (exfalso; simp at e2; done) | fail)
      have a31 := hI.dt (31, .slice a1 kq c1) (by simp [hTL]) (hd ⟨31, .data⟩ (by simp) rfl)
      obtain ⟨xa, xn, xc, hxe, hxl, hxi⟩ : ∃ xa xn xc, X 31 = .slice xa xn xc ∧ xn = (qs).length ∧ Ints W xa (qs) := ⟨_, _, _, a31, HLm.out.symm, HI1'.out.below hI.ri.b⟩
      refine step_append_intsW (by simp [Region.wanted, yielded, a28]) (.tmp 96) (.tmp 98) 28 rfl w8.heap.size INT Try.underlying28 info_int (X 29) [] rfl r29 xa xn xc (qs) hxl hxe hxi (by rw [hxl]; simp only [List.length_cons, List.length_nil, List.length_append]; omega) hI.ri.b.size (fun v' W' ho hg hat => hK _ _ ?_)
      exact hI.set hUB 32 v' hD (hI.ri.append hKB 32 29 v' ⟨qs, 0, 1⟩ ⟨[], 0, 0⟩ (by simp [hRL]) (by simp [hRL]) rfl dp (by intro y hy e1 e2; simp [hRL] at hy; rcases hy with rfl | rfl | rfl | rfl | rfl | rfl | rfl | rfl <;> first | (exfalso; simp at e2; done) | (refine .inl ?_; simp; done) | exact .inr hL35 | (exfalso; simp at e1; done) | fail) hg hat (by simpa using ho)) (by simp [hTL]) (by intro x hx e; simp [hUL] at hx) (by intro x hx e; simp [hCL] at hx; first | (exfalso; simp [hx] at e; done) | (rcases hx with rfl | rfl <;> first | (exfalso; simp at e; done) | (first | exact dp | exact dq) | fail) | (subst hx; first | exact dp | exact dq) | fail)
    refine ⟨fun D X W hD hd hI K hK => ?_, ?_⟩
    · have a28 := hI.dt (28, .bool true) (by simp [hTL]) (hd ⟨28, .guard⟩ (by simp) rfl)
      exact step_of_runW (v := .int .i64 par) (w' := W) (by simp [Region.wanted, yielded, a28]) (by simp [go_sem, execOp, a28]) (hK _ _ (hI.tell hUB 33 _ hD (by simp [hRL]) (by simp [hTL]) (by intro x hx e; simp [hUL] at hx) (by simp [hCL])))
    refine ⟨fun D X W hD hd hI K hK => ?_, ?_⟩
    · have a28 := hI.dt (28, .bool true) (by simp [hTL]) (hd ⟨28, .guard⟩ (by simp) rfl)
      have a33 := hI.dt (33, .int .i64 par) (by simp [hTL]) (hd ⟨33, .data⟩ (by simp) rfl)
      refine step_of_runW (v := .slice (some ⟨W.heap.size, 0, none⟩) 1 1) (w' := W.alloc (.cells #[.int .i64 (par)] INT)) (by simp [Region.wanted, yielded, a28]) (by simp [go_sem, execOp, a33]) (hK _ _ ?_)
      exact hI.set hUB 34 _ hD (hI.ri.fresh hKB 34 _ ⟨[par], 2, 0⟩ (by simp [hRL]) (sup_below W _) rfl (by simp) ⟨rfl, .inr ⟨W.heap.size, 1, #[.int .i64 (par)], rfl, hI.ri.b.size, heap_alloc_new W _, Nat.le_refl _, by decide, rfl, rfl⟩⟩) (by simp [hTL]) (by intro x hx e; simp [hUL] at hx) (by intro x hx e; simp [hCL] at hx; first | (exfalso; simp [hx] at e; done) | (rcases hx with rfl | rfl <;> first | (exfalso; simp at e; done) | (first | exact dp | exact dq) | fail) | (subst hx; first | exact dp | exact dq) | fail)
    refine ⟨fun D X W hD hd hI K hK => ?_, ?_⟩
    · have a28 := hI.dt (28, .bool true) (by simp [hTL]) (hd ⟨28, .guard⟩ (by simp) rfl)
      have dp : D 32 = true := hd ⟨32, .data⟩ (by simp) rfl
      have r32 := hI.ri.rows (32, ⟨qs, 0, 1⟩) (by simp [hRL]) (dp) (by intro y hy e1 e2; simp [hRL] at hy; rcases hy with rfl | rfl | rfl | rfl | rfl | rfl | rfl | rfl <;> first | exact hD | (exfalso; simp at e1; done) | (exfalso; simp at e2; done) | fail)
      have rq := hI.ri.rows (34, ⟨[par], 2, 0⟩) (by simp [hRL]) (hd ⟨34, .data⟩ (by simp) rfl) (by intro y hy e1 e2; simp [hRL] at hy; rcases hy with rfl | rfl | rfl | rfl | rfl | rfl | rfl | rfl <;> first | (exfalso; simp at e1; done) | (exfalso; simp at e2; done) | fail)
      obtain ⟨xg, xc, hxe, _, _⟩ := rq.form (by simp)
      obtain ⟨xa, xn, hxe, hxl, hxi⟩ : ∃ xa xn, X 34 = .slice xa xn xc ∧ xn = ([par]).length ∧ Ints W xa ([par]) := ⟨_, _, hxe, rfl, Ints.own (by rw [hxe] at rq; exact rq)⟩
      refine step_append_intsW (by simp [Region.wanted, yielded, a28]) (.tmp 99) (.tmp 101) 28 rfl w8.heap.size INT Try.underlying28 info_int (X 32) qs rfl r32 xa xn xc ([par]) hxl hxe hxi (by rw [hxl]; simp only [List.length_cons, List.length_nil, List.length_append]; omega) hI.ri.b.size (fun v' W' ho hg hat => hK _ _ ?_)
      exact hI.set hUB 35 v' hD (hI.ri.append hKB 35 32 v' ⟨qs ++ [par], 0, 2⟩ ⟨qs, 0, 1⟩ (by simp [hRL]) (by simp [hRL]) rfl dp (by intro y hy e1 e2; simp [hRL] at hy; rcases hy with rfl | rfl | rfl | rfl | rfl | rfl | rfl | rfl <;> first | (exfalso; simp at e2; done) | (refine .inl ?_; simp; done)  | (exfalso; simp at e1; done) | fail) hg hat (by simpa using ho)) (by simp [hTL]) (by intro x hx e; simp [hUL] at hx) (by intro x hx e; simp [hCL] at hx; first | (exfalso; simp [hx] at e; done) | (rcases hx with rfl | rfl <;> first | (exfalso; simp at e; done) | (first | exact dp | exact dq) | fail) | (subst hx; first | exact dp | exact dq) | fail)
    refine ⟨fun D X W hD hd hI K hK => ?_, ?_⟩
    · have a28 := hI.dt (28, .bool true) (by simp [hTL]) (hd ⟨28, .guard⟩ (by simp) rfl)
      exact step_of_runW (v := .pointer (some ⟨g7, 1, none⟩)) (w' := W) (by simp [Region.wanted, yielded, a28]) (by simp [go_sem, execOp, a28]) (hK _ _ (hI.tell hUB 36 _ hD (by simp [hRL]) (by simp [hTL]) (by intro x hx e; simp [hUL] at hx) (by simp [hCL])))
    refine ⟨fun D X W hD hd hI K hK => ?_, ?_⟩
    · have a28 := hI.dt (28, .bool true) (by simp [hTL]) (hd ⟨28, .guard⟩ (by simp) rfl)
      have a36 := hI.dt (36, .pointer (some ⟨g7, 1, none⟩)) (by simp [hTL]) (hd ⟨36, .data⟩ (by simp) rfl)
      have n1W := cell_later hI.ri.b n1
      exact step_of_runW (v := .slice b1 kp d1) (w' := W) (by simp [Region.wanted, yielded, a28]) (by simp [go_sem, execOp, a28, a36, n1W]) (hK _ _ (hI.tell hUB 37 _ hD (by simp [hRL]) (by simp [hTL]) (by intro x hx e; simp [hUL] at hx) (by simp [hCL])))
    refine ⟨fun D X W hD hd hI K hK => ?_, ?_⟩
    · have a28 := hI.dt (28, .bool true) (by simp [hTL]) (hd ⟨28, .guard⟩ (by simp) rfl)
      have a37 := hI.dt (37, .slice b1 kp d1) (by simp [hTL]) (hd ⟨37, .data⟩ (by simp) rfl)
      have r35 := hI.ri.rows (35, ⟨qs ++ [par], 0, 2⟩) (by simp [hRL]) (hd ⟨35, .data⟩ (by simp) rfl) (by intro y hy e1 e2; simp [hRL] at hy; rcases hy with rfl | rfl | rfl | rfl | rfl | rfl | rfl | rfl <;> first | (exfalso; simp at e1; done) | (exfalso; simp at e2; done) | fail)
      obtain ⟨xa, xc, hx, _⟩ := own_slice r35
      have hx2 : X 35 = _ := hx
      have rx : W.ownsRow _ _ 1 (.slice xa _ xc) _ _ := hx ▸ r35
      refine step_of_enter (v := .bool true) (f := 19) (args := #[.slice xa (qs ++ [par]).length xc, .slice b1 kp d1]) (by simp [Region.wanted, yielded, a28]) (by simp [go_sem, execOp, a28, a37, hx2]) ((ints_any (qs ++ [par]) ms xa b1 _ kp xc d1 W rfl HKm.out.symm (by simp; omega) (Ints.own rx) (HN1.out.below hI.ri.b)).mono fun e w' ⟨h1, h2⟩ => ⟨by rw [h1, HM4.out]; simp, h2⟩) (fun W' hb => hK _ _ ?_)
      exact hI.set hUB 38 _ hD (hI.ri.still 38 _ (by simp [hRL]) hb) (by simp [hTL]) (by intro x hx e; simp [hUL] at hx) (by simp [hCL])
    refine ⟨fun D X W hD hd hI K hK => ?_, ?_⟩
    · have a28 := hI.dt (28, .bool true) (by simp [hTL]) (hd ⟨28, .data⟩ (by simp) rfl)
      have a38 := hI.dt (38, .bool true) (by simp [hTL]) (hd ⟨38, .data⟩ (by simp) rfl)
      exact step_of_runW (v := .bool true) (w' := W) (by simp [Region.wanted]) (by simp [go_sem, execOp, a28, a38]) (hK _ _ (hI.tell hUB 39 _ hD (by simp [hRL]) (by simp [hTL]) (by intro x hx e; simp [hUL] at hx) (by simp [hCL])))
    refine ⟨fun D X W hD hd hI K hK => ?_, ?_⟩
    · have a39 := hI.dt (39, .bool true) (by simp [hTL]) (hd ⟨39, .data⟩ (by simp) rfl)
      exact step_of_runW (v := .bool true) (w' := W) (by simp [Region.wanted]) (by simp [go_sem, execOp, a39]) (hK _ _ (hI.tell hUB 40 _ hD (by simp [hRL]) (by simp [hTL]) (by intro x hx e; simp [hUL] at hx) (by simp [hCL])))
    refine ⟨fun D X W hD hd hI K hK => ?_, ?_⟩
    · have a40 := hI.dt (40, .bool true) (by simp [hTL]) (hd ⟨40, .guard⟩ (by simp) rfl)
      refine step_of_runW (v := .slice (some ⟨W.heap.size, 0, none⟩) 0 0) (w' := W.alloc (.cells #[] INT)) (by simp [Region.wanted, yielded, a40]) (by simp [go_sem, execOp]) (hK _ _ ?_)
      exact hI.set hUB 41 _ hD (hI.ri.fresh hKB 41 _ ⟨[], 1, 0⟩ (by simp [hRL]) (sup_below W _) rfl (by simp) ⟨rfl, .inr ⟨W.heap.size, 0, #[], rfl, hI.ri.b.size, heap_alloc_new W _, Nat.le_refl _, by decide, rfl, rfl⟩⟩) (by simp [hTL]) (by intro x hx e; simp [hUL] at hx) (by intro x hx e; simp [hCL] at hx; first | (exfalso; simp [hx] at e; done) | (rcases hx with rfl | rfl <;> first | (exfalso; simp at e; done) | (first | exact dp | exact dq) | fail) | (subst hx; first | exact dp | exact dq) | fail)
    refine ⟨fun D X W hD hd hI K hK => ?_, ?_⟩
    · have a40 := hI.dt (40, .bool true) (by simp [hTL]) (hd ⟨40, .guard⟩ (by simp) rfl)
      exact step_of_runW (v := .pointer (some ⟨g6, 2, none⟩)) (w' := W) (by simp [Region.wanted, yielded, a40]) (by simp [go_sem, execOp, a40]) (hK _ _ (hI.tell hUB 42 _ hD (by simp [hRL]) (by simp [hTL]) (by intro x hx e; simp [hUL] at hx) (by simp [hCL])))
    refine ⟨fun D X W hD hd hI K hK => ?_, ?_⟩
    · have a40 := hI.dt (40, .bool true) (by simp [hTL]) (hd ⟨40, .guard⟩ (by simp) rfl)
      have a42 := hI.dt (42, .pointer (some ⟨g6, 2, none⟩)) (by simp [hTL]) (hd ⟨42, .data⟩ (by simp) rfl)
      have q2W := cell_later hI.ri.b q2
      exact step_of_runW (v := .slice a2 kq c2) (w' := W) (by simp [Region.wanted, yielded, a40]) (by simp [go_sem, execOp, a40, a42, q2W]) (hK _ _ (hI.tell hUB 43 _ hD (by simp [hRL]) (by simp [hTL]) (by intro x hx e; simp [hUL] at hx) (by simp [hCL])))
    refine ⟨fun D X W hD hd hI K hK => ?_, ?_⟩
    · have a40 := hI.dt (40, .bool true) (by simp [hTL]) (hd ⟨40, .chain⟩ (by simp) rfl)
      have dp : D 41 = true := hd ⟨41, .data⟩ (by simp) rfl
      have hL47 : D 47 = false := by cases hh : D 47 with
        | false => rfl
        | true => have := hI.cl (47, 44) (by simp [hCL]) hh; rw [hD] at this; cases this
      have r41 := hI.ri.rows (41, ⟨[], 1, 0⟩) (by simp [hRL]) (dp) (by intro y hy e1 e2; simp [hRL] at hy; rcases hy with rfl | rfl | rfl | rfl | rfl | rfl | rfl | rfl <;> first | exact hD | exact hL47 | (exfalso; simp at e1; done) | (exfalso; simp at e2; done) | fail)
      have a43 := hI.dt (43, .slice a2 kq c2) (by simp [hTL]) (hd ⟨43, .data⟩ (by simp) rfl)
      obtain ⟨xa, xn, xc, hxe, hxl, hxi⟩ : ∃ xa xn xc, X 43 = .slice xa xn xc ∧ xn = (rs).length ∧ Ints W xa (rs) := ⟨_, _, _, a43, HLs.out.symm, HI2'.out.below hI.ri.b⟩
      refine step_append_intsW (by simp [Region.wanted, yielded, a40]) (.tmp 108) (.tmp 110) 28 rfl w8.heap.size INT Try.underlying28 info_int (X 41) [] rfl r41 xa xn xc (rs) hxl hxe hxi (by rw [hxl]; simp only [List.length_cons, List.length_nil, List.length_append]; omega) hI.ri.b.size (fun v' W' ho hg hat => hK _ _ ?_)
      exact hI.set hUB 44 v' hD (hI.ri.append hKB 44 41 v' ⟨rs, 1, 1⟩ ⟨[], 1, 0⟩ (by simp [hRL]) (by simp [hRL]) rfl dp (by intro y hy e1 e2; simp [hRL] at hy; rcases hy with rfl | rfl | rfl | rfl | rfl | rfl | rfl | rfl <;> first | (exfalso; simp at e2; done) | (refine .inl ?_; simp; done) | exact .inr hL47 | (exfalso; simp at e1; done) | fail) hg hat (by simpa using ho)) (by simp [hTL]) (by intro x hx e; simp [hUL] at hx) (by intro x hx e; simp [hCL] at hx; first | (exfalso; simp [hx] at e; done) | (rcases hx with rfl | rfl <;> first | (exfalso; simp at e; done) | (first | exact dp | exact dq) | fail) | (subst hx; first | exact dp | exact dq) | fail)
    refine ⟨fun D X W hD hd hI K hK => ?_, ?_⟩
    · have a40 := hI.dt (40, .bool true) (by simp [hTL]) (hd ⟨40, .guard⟩ (by simp) rfl)
      exact step_of_runW (v := .int .i64 slo) (w' := W) (by simp [Region.wanted, yielded, a40]) (by simp [go_sem, execOp, a40]) (hK _ _ (hI.tell hUB 45 _ hD (by simp [hRL]) (by simp [hTL]) (by intro x hx e; simp [hUL] at hx) (by simp [hCL])))
    refine ⟨fun D X W hD hd hI K hK => ?_, ?_⟩
    · have a40 := hI.dt (40, .bool true) (by simp [hTL]) (hd ⟨40, .guard⟩ (by simp) rfl)
      have a45 := hI.dt (45, .int .i64 slo) (by simp [hTL]) (hd ⟨45, .data⟩ (by simp) rfl)
      refine step_of_runW (v := .slice (some ⟨W.heap.size, 0, none⟩) 1 1) (w' := W.alloc (.cells #[.int .i64 (slo)] INT)) (by simp [Region.wanted, yielded, a40]) (by simp [go_sem, execOp, a45]) (hK _ _ ?_)
      exact hI.set hUB 46 _ hD (hI.ri.fresh hKB 46 _ ⟨[slo], 3, 0⟩ (by simp [hRL]) (sup_below W _) rfl (by simp) ⟨rfl, .inr ⟨W.heap.size, 1, #[.int .i64 (slo)], rfl, hI.ri.b.size, heap_alloc_new W _, Nat.le_refl _, by decide, rfl, rfl⟩⟩) (by simp [hTL]) (by intro x hx e; simp [hUL] at hx) (by intro x hx e; simp [hCL] at hx; first | (exfalso; simp [hx] at e; done) | (rcases hx with rfl | rfl <;> first | (exfalso; simp at e; done) | (first | exact dp | exact dq) | fail) | (subst hx; first | exact dp | exact dq) | fail)
    refine ⟨fun D X W hD hd hI K hK => ?_, ?_⟩
    · have a40 := hI.dt (40, .bool true) (by simp [hTL]) (hd ⟨40, .guard⟩ (by simp) rfl)
      have dp : D 44 = true := hd ⟨44, .data⟩ (by simp) rfl
      have r44 := hI.ri.rows (44, ⟨rs, 1, 1⟩) (by simp [hRL]) (dp) (by intro y hy e1 e2; simp [hRL] at hy; rcases hy with rfl | rfl | rfl | rfl | rfl | rfl | rfl | rfl <;> first | exact hD | (exfalso; simp at e1; done) | (exfalso; simp at e2; done) | fail)
      have rq := hI.ri.rows (46, ⟨[slo], 3, 0⟩) (by simp [hRL]) (hd ⟨46, .data⟩ (by simp) rfl) (by intro y hy e1 e2; simp [hRL] at hy; rcases hy with rfl | rfl | rfl | rfl | rfl | rfl | rfl | rfl <;> first | (exfalso; simp at e1; done) | (exfalso; simp at e2; done) | fail)
      obtain ⟨xg, xc, hxe, _, _⟩ := rq.form (by simp)
      obtain ⟨xa, xn, hxe, hxl, hxi⟩ : ∃ xa xn, X 46 = .slice xa xn xc ∧ xn = ([slo]).length ∧ Ints W xa ([slo]) := ⟨_, _, hxe, rfl, Ints.own (by rw [hxe] at rq; exact rq)⟩
      refine step_append_intsW (by simp [Region.wanted, yielded, a40]) (.tmp 111) (.tmp 113) 28 rfl w8.heap.size INT Try.underlying28 info_int (X 44) rs rfl r44 xa xn xc ([slo]) hxl hxe hxi (by rw [hxl]; simp only [List.length_cons, List.length_nil, List.length_append]; omega) hI.ri.b.size (fun v' W' ho hg hat => hK _ _ ?_)
      exact hI.set hUB 47 v' hD (hI.ri.append hKB 47 44 v' ⟨rs ++ [slo], 1, 2⟩ ⟨rs, 1, 1⟩ (by simp [hRL]) (by simp [hRL]) rfl dp (by intro y hy e1 e2; simp [hRL] at hy; rcases hy with rfl | rfl | rfl | rfl | rfl | rfl | rfl | rfl <;> first | (exfalso; simp at e2; done) | (refine .inl ?_; simp; done)  | (exfalso; simp at e1; done) | fail) hg hat (by simpa using ho)) (by simp [hTL]) (by intro x hx e; simp [hUL] at hx) (by intro x hx e; simp [hCL] at hx; first | (exfalso; simp [hx] at e; done) | (rcases hx with rfl | rfl <;> first | (exfalso; simp at e; done) | (first | exact dp | exact dq) | fail) | (subst hx; first | exact dp | exact dq) | fail)
    refine ⟨fun D X W hD hd hI K hK => ?_, ?_⟩
    · have a40 := hI.dt (40, .bool true) (by simp [hTL]) (hd ⟨40, .guard⟩ (by simp) rfl)
      exact step_of_runW (v := .pointer (some ⟨g7, 2, none⟩)) (w' := W) (by simp [Region.wanted, yielded, a40]) (by simp [go_sem, execOp, a40]) (hK _ _ (hI.tell hUB 48 _ hD (by simp [hRL]) (by simp [hTL]) (by intro x hx e; simp [hUL] at hx) (by simp [hCL])))
    refine ⟨fun D X W hD hd hI K hK => ?_, ?_⟩
    · have a40 := hI.dt (40, .bool true) (by simp [hTL]) (hd ⟨40, .guard⟩ (by simp) rfl)
      have a48 := hI.dt (48, .pointer (some ⟨g7, 2, none⟩)) (by simp [hTL]) (hd ⟨48, .data⟩ (by simp) rfl)
      have n2W := cell_later hI.ri.b n2
      exact step_of_runW (v := .slice b2 kp d2) (w' := W) (by simp [Region.wanted, yielded, a40]) (by simp [go_sem, execOp, a40, a48, n2W]) (hK _ _ (hI.tell hUB 49 _ hD (by simp [hRL]) (by simp [hTL]) (by intro x hx e; simp [hUL] at hx) (by simp [hCL])))
    refine ⟨fun D X W hD hd hI K hK => ?_, ?_⟩
    · have a40 := hI.dt (40, .bool true) (by simp [hTL]) (hd ⟨40, .guard⟩ (by simp) rfl)
      have a49 := hI.dt (49, .slice b2 kp d2) (by simp [hTL]) (hd ⟨49, .data⟩ (by simp) rfl)
      have r47 := hI.ri.rows (47, ⟨rs ++ [slo], 1, 2⟩) (by simp [hRL]) (hd ⟨47, .data⟩ (by simp) rfl) (by intro y hy e1 e2; simp [hRL] at hy; rcases hy with rfl | rfl | rfl | rfl | rfl | rfl | rfl | rfl <;> first | (exfalso; simp at e1; done) | (exfalso; simp at e2; done) | fail)
      obtain ⟨xa, xc, hx, _⟩ := own_slice r47
      have hx2 : X 47 = _ := hx
      have rx : W.ownsRow _ _ 1 (.slice xa _ xc) _ _ := hx ▸ r47
      refine step_of_enter (v := .bool true) (f := 19) (args := #[.slice xa (rs ++ [slo]).length xc, .slice b2 kp d2]) (by simp [Region.wanted, yielded, a40]) (by simp [go_sem, execOp, a40, a49, hx2]) ((ints_any (rs ++ [slo]) ss xa b2 _ kp xc d2 W rfl HKs.out.symm (by simp; omega) (Ints.own rx) (HN2.out.below hI.ri.b)).mono fun e w' ⟨h1, h2⟩ => ⟨by rw [h1, HS5.out]; simp, h2⟩) (fun W' hb => hK _ _ ?_)
      exact hI.set hUB 50 _ hD (hI.ri.still 50 _ (by simp [hRL]) hb) (by simp [hTL]) (by intro x hx e; simp [hUL] at hx) (by simp [hCL])
    refine ⟨fun D X W hD hd hI K hK => ?_, ?_⟩
    · have a40 := hI.dt (40, .bool true) (by simp [hTL]) (hd ⟨40, .data⟩ (by simp) rfl)
      have a50 := hI.dt (50, .bool true) (by simp [hTL]) (hd ⟨50, .data⟩ (by simp) rfl)
      exact step_of_runW (v := .bool true) (w' := W) (by simp [Region.wanted]) (by simp [go_sem, execOp, a40, a50]) (hK _ _ (hI.tell hUB 51 _ hD (by simp [hRL]) (by simp [hTL]) (by intro x hx e; simp [hUL] at hx) (by simp [hCL])))
    refine ⟨fun D X W hD hd hI K hK => ?_, ?_⟩
    · have a51 := hI.dt (51, .bool true) (by simp [hTL]) (hd ⟨51, .data⟩ (by simp) rfl)
      exact step_of_runW (v := .bool true) (w' := W) (by simp [Region.wanted]) (by simp [go_sem, execOp, a51]) (hK _ _ (hI.tell hUB 52 _ hD (by simp [hRL]) (by simp [hTL]) (by intro x hx e; simp [hUL] at hx) (by simp [hCL])))
    refine ⟨fun D X W hD hd hI K hK => ?_, ?_⟩
    · have a52 := hI.dt (52, .bool true) (by simp [hTL]) (hd ⟨52, .guard⟩ (by simp) rfl)
      exact step_of_runW (v := .pointer (some ⟨g6, 0, none⟩)) (w' := W) (by simp [Region.wanted, yielded, a52]) (by simp [go_sem, execOp, a52]) (hK _ _ (hI.tell hUB 53 _ hD (by simp [hRL]) (by simp [hTL]) (by intro x hx e; simp [hUL] at hx) (by simp [hCL])))
    refine ⟨fun D X W hD hd hI K hK => ?_, ?_⟩
    · have a52 := hI.dt (52, .bool true) (by simp [hTL]) (hd ⟨52, .guard⟩ (by simp) rfl)
      have a53 := hI.dt (53, .pointer (some ⟨g6, 0, none⟩)) (by simp [hTL]) (hd ⟨53, .data⟩ (by simp) rfl)
      have q0W := cell_later hI.ri.b q0
      exact step_of_runW (v := .int .i64 R) (w' := W) (by simp [Region.wanted, yielded, a52]) (by simp [go_sem, execOp, a52, a53, q0W]) (hK _ _ (hI.tell hUB 54 _ hD (by simp [hRL]) (by simp [hTL]) (by intro x hx e; simp [hUL] at hx) (by simp [hCL])))
    refine ⟨fun D X W hD hd hI K hK => ?_, ?_⟩
    · have a52 := hI.dt (52, .bool true) (by simp [hTL]) (hd ⟨52, .guard⟩ (by simp) rfl)
      exact step_of_runW (v := .pointer (some ⟨g7, 0, none⟩)) (w' := W) (by simp [Region.wanted, yielded, a52]) (by simp [go_sem, execOp, a52]) (hK _ _ (hI.tell hUB 55 _ hD (by simp [hRL]) (by simp [hTL]) (by intro x hx e; simp [hUL] at hx) (by simp [hCL])))
    refine ⟨fun D X W hD hd hI K hK => ?_, ?_⟩
    · have a52 := hI.dt (52, .bool true) (by simp [hTL]) (hd ⟨52, .guard⟩ (by simp) rfl)
      have a55 := hI.dt (55, .pointer (some ⟨g7, 0, none⟩)) (by simp [hTL]) (hd ⟨55, .data⟩ (by simp) rfl)
      have n0W := cell_later hI.ri.b n0
      exact step_of_runW (v := .int .i64 R) (w' := W) (by simp [Region.wanted, yielded, a52]) (by simp [go_sem, execOp, a52, a55, n0W]) (hK _ _ (hI.tell hUB 56 _ hD (by simp [hRL]) (by simp [hTL]) (by intro x hx e; simp [hUL] at hx) (by simp [hCL])))
    refine ⟨fun D X W hD hd hI K hK => ?_, ?_⟩
    · have a52 := hI.dt (52, .bool true) (by simp [hTL]) (hd ⟨52, .guard⟩ (by simp) rfl)
      have a54 := hI.dt (54, .int .i64 R) (by simp [hTL]) (hd ⟨54, .data⟩ (by simp) rfl)
      have a56 := hI.dt (56, .int .i64 R) (by simp [hTL]) (hd ⟨56, .data⟩ (by simp) rfl)
      exact step_of_runW (v := .bool true) (w' := W) (by simp [Region.wanted, yielded, a52]) (by simp [go_sem, execOp, a52, a54, a56]) (hK _ _ (hI.tell hUB 57 _ hD (by simp [hRL]) (by simp [hTL]) (by intro x hx e; simp [hUL] at hx) (by simp [hCL])))
    refine ⟨fun D X W hD hd hI K hK => ?_, ?_⟩
    · have a52 := hI.dt (52, .bool true) (by simp [hTL]) (hd ⟨52, .data⟩ (by simp) rfl)
      have a57 := hI.dt (57, .bool true) (by simp [hTL]) (hd ⟨57, .data⟩ (by simp) rfl)
      exact step_of_runW (v := .bool true) (w' := W) (by simp [Region.wanted]) (by simp [go_sem, execOp, a52, a57]) (hK _ _ (hI.tell hUB 58 _ hD (by simp [hRL]) (by simp [hTL]) (by intro x hx e; simp [hUL] at hx) (by simp [hCL])))
    refine ⟨fun D X W hD hd hI K hK => ?_, ?_⟩
    · have a58 := hI.dt (58, .bool true) (by simp [hTL]) (hd ⟨58, .data⟩ (by simp) rfl)
      exact step_of_runW (v := .bool true) (w' := W) (by simp [Region.wanted]) (by simp [go_sem, execOp, a58]) (hK _ _ (hI.tell hUB 59 _ hD (by simp [hRL]) (by simp [hTL]) (by intro x hx e; simp [hUL] at hx) (by simp [hCL])))
    exact True.intro
  · intro D X W hD hI
    have HB8 := Lib.hid (HB7.out.trans (hI.ri.b.mono HB7.out.size))
    have x2 : X 59 = .bool true := hI.dt (59, .bool true) (by simp [hTL]) (hD 59 (by decide))
    clear hI hD
    simp only [List.drop_succ_cons, List.drop_zero, List.drop_nil]
    rw [x2]
    refine wpList_nil ?_
    go_wp2
    go_ret
    exact ⟨rfl, HB8.out⟩
theorem indexParents_walk (n : Int) (w : World) (hw : (Lit.int .i64 n).wf = true) : Calls Try.prog 4 #[.int .i64 n] w fun e w' => e = .returned (.bool true) ∧ Below w.heap.size w w' := by
  have hb := wf_bounds hw
  cases h : isB n with
  | true =>
    by_cases hm : metasM (fOf n) (lvOf n) = []
    · exact parents_root n w hb.1 hb.2 h hm
    · exact parents_deep n w hb.1 hb.2 h hm
  | false => exact parents_no n w hb.1 hb.2 h
end Go.Proofs.Ytcekejaefbdhfaa
