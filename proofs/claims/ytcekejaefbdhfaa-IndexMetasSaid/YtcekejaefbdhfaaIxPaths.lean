/-
  The walk of IndexPaths; how many data a block of the document's list covers.
-/
import Derived.Test.YtcekejaefbdhfaaIxFind
import Derived.Test.YtcekejaefbdhfaaQuiet
import Derived.Test.YtcekejaefbdhfaaPairs
namespace Go.Proofs.Ytcekejaefbdhfaa
open Go.RowKit

theorem width_three (w : World) : Calls Try.prog 28 #[.int .i64 3] w fun e w' => e = .returned (.int .i64 4096) ∧ Below w.heap.size w w' := by
  have hu := Try.underlying61
  have hc : Try.prog.cellsOf 3 = 1 := by kernel_rfl
  have hb := sup_below w (.cells #[.int .i64 1, .int .i64 16, .int .i64 256, .int .i64 4096] 61)
  have h0 : ∀ W : World, (Instr.index 61 (.agg #[.int .i64 1, .int .i64 16, .int .i64 256, .int .i64 4096]) (.int .i64 3)).run Try.prog W = .ok (.int .i64 4096) W := fun W => by simp [go_sem, Instr.index, hu, hc]
  clear hu hc
  go_enter Try.func28, Try.ntmps28
  go_wp2
  go_ret
  exact ⟨rfl, by first | exact Below.refl _ _ | exact (Below.refl _ _).drew | exact hb⟩
theorem width_all (lv : Int) (h0 : 0 ≤ lv) (h3 : lv ≤ 3) (w : World) : Calls Try.prog 28 #[.int .i64 lv] w fun e w' => e = .returned (.int .i64 (spanM lv)) ∧ Below w.heap.size w w' := by
  have : lv = 0 ∨ lv = 1 ∨ lv = 2 ∨ lv = 3 := by omega
  rcases this with rfl | rfl | rfl | rfl
  · exact width_any 0 (by decide) w
  · exact width_any 1 (by decide) w
  · exact width_any 2 (by decide) w
  · exact width_three w
set_option maxHeartbeats 1000000 in
theorem many_any (n lv f r : Int) (am as_ : Option Addr) (nm ns cm cs_ : Nat) (w : World) (h0 : 0 ≤ lv) (h3 : lv ≤ 3) (f0 : 0 ≤ f) (f6 : f < 600) :
    Calls Try.prog 17 #[.agg #[.int .i64 n, .int .i64 lv, .int .i64 f, .int .i64 r, .slice am nm cm, .slice as_ ns cs_]] w fun e w' => e = .returned (.int .i64 (manyM f lv)) ∧ Below w.heap.size w w' := by
  have hs := spanM_bd lv
  have HW := Lib.hid (width_all lv h0 h3)
  have HB := Lib.hid (sup_below w (.cells #[.int .i64 n, .int .i64 lv, .int .i64 f, .int .i64 r, .slice am nm cm, .slice as_ ns cs_] MET))
  have HM := Lib.hid (blo_laid w MET #[.int .i64 n, .int .i64 lv, .int .i64 f, .int .i64 r, .slice am nm cm, .slice as_ ns cs_])
  have HV : Hid (manyM f lv = if f + spanM lv > 600 then 600 - f else spanM lv) := rfl
  rw [HV.out]
  generalize spanM lv = sp at *
  clear HV
  by_cases hc : f + sp > 600
  · rw [if_pos hc]
    go_enter Try.func17, Try.ntmps17
    go_wp2_with fail
    refine (HW.out _).mono ?_
    rintro e w1 ⟨rfl, hb1⟩
    have HM1 := Lib.hid (HM.out.later hb1)
    have HB1 := Lib.hid (HB.out.trans (hb1.mono HB.out.size))
    clear hb1 HM HB HW
    have x1 := HM1.out.cell 1
    have x2 := HM1.out.cell 2
    simp at x1 x2
    go_wp2
    go_ret
    exact ⟨rfl, HB1.out⟩
  · rw [if_neg hc]
    go_enter Try.func17, Try.ntmps17
    go_wp2_with fail
    refine (HW.out _).mono ?_
    rintro e w1 ⟨rfl, hb1⟩
    have HM1 := Lib.hid (HM.out.later hb1)
    have HB1 := Lib.hid (HB.out.trans (hb1.mono HB.out.size))
    clear hb1 HM HB HW
    have x1 := HM1.out.cell 1
    have x2 := HM1.out.cell 2
    simp at x1 x2
    go_wp2
    go_ret
    exact ⟨rfl, HB1.out⟩
abbrev PTI := 30
set_option maxRecDepth 100000 in
set_option maxHeartbeats 4000000 in
theorem paths_no (n : Int) (w : World) (hn1 : -9223372036854775808 ≤ n) (hn2 : n ≤ 9223372036854775807) (h : isB n = false) :
    Calls Try.prog 3 #[.int .i64 n] w fun e w' => e = .returned (.bool true) ∧ Below w.heap.size w w' := by
  have HAw := Lib.hid (awake_any w)
  have HL := Lib.hid (fun W => level_no n W hn1 h)
  have HC := Lib.hid (fun W => covers_no n W hn1 h)
  have HT := Lib.hid (fun W => to_no n W hn1 h)
  have HF : Hid (∀ W, Calls Try.prog 14 #[.int .i64 n] W fun e w' => e = .returned (.tuple #[.agg #[.int .i64 0, .int .i64 0, .int .i64 0, .int .i64 0, .slice none 0 0, .slice none 0 0], .bool false]) ∧ Below W.heap.size W w') := fun W => (find_any n W hn1 hn2).mono fun e w' ho => by
    rw [wantM, if_neg (by rw [h]; decide)] at ho
    exact ho
  clear h hn1 hn2
  go_enter Try.func3, Try.ntmps3
  go_wp2_with fail
  refine HAw.out.mono ?_
  rintro e w1 ⟨rfl, hb1⟩
  have HB1 := Lib.hid hb1
  clear hb1 HAw
  go_wp2_with fail
  refine (HL.out _).mono ?_
  rintro e w2 ⟨rfl, hb2⟩
  have HB2 := Lib.hid (HB1.out.trans (hb2.mono HB1.out.size))
  clear hb2 HB1
  go_wp2_with fail
  refine (HC.out _).mono ?_
  rintro e w3 ⟨rfl, hb3⟩
  have HB3 := Lib.hid (HB2.out.trans (hb3.mono HB2.out.size))
  clear hb3 HB2
  go_wp2_with fail
  refine (HT.out _).mono ?_
  rintro e w4 ⟨rfl, hb4⟩
  have hal := sup_below w4 (.cells #[.int .i64 0, .slice none 0 0, .slice none 0 0] PTI)
  have HP4 := Lib.hid (blo_laid w4 PTI #[.int .i64 0, .slice none 0 0, .slice none 0 0])
  have HB4 := Lib.hid ((HB3.out.trans (hb4.mono HB3.out.size)).trans (hal.mono (HB3.out.trans (hb4.mono HB3.out.size)).size))
  clear hb4 HB3 hal
  go_wp2_with fail
  refine (HF.out _).mono ?_
  rintro e w5 ⟨rfl, hb5⟩
  have hal := sup_below w5 (.cells #[.int .i64 0, .int .i64 0, .int .i64 0, .int .i64 0, .slice none 0 0, .slice none 0 0] MET)
  have HP5 := Lib.hid ((HP4.out.later hb5).later hal)
  have HB5 := Lib.hid ((HB4.out.trans (hb5.mono HB4.out.size)).trans (hal.mono (HB4.out.trans (hb5.mono HB4.out.size)).size))
  clear hb5 HB4 HP4 hal
  have p0 := HP5.out.cell 0
  have p1 := HP5.out.cell 1
  have p2 := HP5.out.cell 2
  simp at p0 p1 p2
  go_wp2_with fail
  refine (lawRef_any _ _ _ _ _ _ _ _).mono ?_
  rintro e w6 ⟨rfl, hb6⟩
  have HB6 := Lib.hid (HB5.out.trans (hb6.mono HB5.out.size))
  clear hb6 HB5 HP5 p0 p1 p2
  go_wp2_with fail
  refine (same_any 0 0 [] [] [] [] none none none none 0 0 0 0 0 0 _ rfl rfl rfl rfl (by decide) (Ints.nil _ _) (Ints.nil _ _) (Ints.nil _ _) (Ints.nil _ _)).mono ?_
  rintro e w7 ⟨rfl, hb7⟩
  have HB7 := Lib.hid (HB6.out.trans (hb7.mono HB6.out.size))
  clear hb7
  go_wp2
  go_ret
  exact ⟨rfl, HB7.out⟩
set_option maxRecDepth 100000 in
set_option maxHeartbeats 4000000 in
theorem paths_yes (n : Int) (w : World) (hn1 : -9223372036854775808 ≤ n) (hn2 : n ≤ 9223372036854775807) (h : isB n = true) :
    Calls Try.prog 3 #[.int .i64 n] w fun e w' => e = .returned (.bool true) ∧ Below w.heap.size w w' := by
  have HAw := Lib.hid (awake_any w)
  have HL := Lib.hid (fun W => level_yes n W hn1 h)
  have HC := Lib.hid (fun W => covers_yes n W hn1 h)
  have HT := Lib.hid (fun W => to_n n W hn1 h _ rfl)
  have HF : Hid (∀ W, Calls Try.prog 14 #[.int .i64 n] W (FindO W (some ⟨n, lvOf n, fOf n, rPtr (fOf n), metasM (fOf n) (lvOf n), slotsM (fOf n) (lvOf n)⟩))) := fun W => by
    have := find_any n W hn1 hn2
    rwa [wantM, if_pos h] at this
  have hlv := lvOf_bd n
  have hf := fOf_bd n h
  have HKm := Lib.hid (metas_len (fOf n) (lvOf n))
  have HKs := Lib.hid (slots_len (fOf n) (lvOf n))
  have HKl : Hid ((pathM (fOf n) (lvOf n)).length < 1000000000) := by
    show _ < _
    have h1 := isB_lev n h
    have h2 := rLev_bd (fOf n)
    rw [path_len]; omega
  have HMy := Lib.hid (fun r am as_ nm ns cm cs_ w => many_any n (lvOf n) (fOf n) r am as_ nm ns cm cs_ w hlv.1 hlv.2 hf.1 hf.2)
  clear h hn1 hn2 hlv hf
  generalize (pathM (fOf n) (lvOf n)).length = kp at *
  generalize manyM (fOf n) (lvOf n) = my at *
  generalize metasM (fOf n) (lvOf n) = ms at *
  generalize slotsM (fOf n) (lvOf n) = ss at *
  generalize rPtr (fOf n) = R at *
  generalize fOf n = f at *
  generalize lvOf n = lv at *
  go_enter Try.func3, Try.ntmps3
  go_wp2_with fail
  refine HAw.out.mono ?_
  rintro e w1 ⟨rfl, hb1⟩
  have HB1 := Lib.hid hb1
  clear hb1 HAw
  go_wp2_with fail
  refine (HL.out _).mono ?_
  rintro e w2 ⟨rfl, hb2⟩
  have HB2 := Lib.hid (HB1.out.trans (hb2.mono HB1.out.size))
  clear hb2 HB1
  go_wp2_with fail
  refine (HC.out _).mono ?_
  rintro e w3 ⟨rfl, hb3⟩
  have HB3 := Lib.hid (HB2.out.trans (hb3.mono HB2.out.size))
  clear hb3 HB2
  go_wp2_with fail
  refine (HT.out _).mono ?_
  rintro e w4 ⟨a1, c1, a2, c2, rfl, hi1, hi2, _, _, hb4⟩
  have hal := sup_below w4 (.cells #[.int .i64 R, .slice a1 kp c1, .slice a2 kp c2] PTI)
  have HP4 := Lib.hid (blo_laid w4 PTI #[.int .i64 R, .slice a1 kp c1, .slice a2 kp c2])
  have HI1 := Lib.hid (hi1.below hal)
  have HI2 := Lib.hid (hi2.below hal)
  have HB4 := Lib.hid ((HB3.out.trans (hb4.mono HB3.out.size)).trans (hal.mono (HB3.out.trans (hb4.mono HB3.out.size)).size))
  clear hb4 HB3 hal hi1 hi2
  go_wp2_with fail
  refine (HF.out _).mono ?_
  rintro e w5 ⟨am, cm, as_, cs_, rfl, hj1, hj2, _, _, hb5⟩
  rw [HKm.out] 
  rw [HKs.out]
  have hal := sup_below w5 (.cells #[.int .i64 n, .int .i64 lv, .int .i64 f, .int .i64 R, .slice am kp cm, .slice as_ kp cs_] MET)
  have HP5 := Lib.hid ((HP4.out.later hb5).later hal)
  have HM5 := Lib.hid (blo_laid w5 MET #[.int .i64 n, .int .i64 lv, .int .i64 f, .int .i64 R, .slice am kp cm, .slice as_ kp cs_])
  have HI1' := Lib.hid ((HI1.out.below hb5).below hal)
  have HI2' := Lib.hid ((HI2.out.below hb5).below hal)
  have HJ1 := Lib.hid (hj1.below hal)
  have HJ2 := Lib.hid (hj2.below hal)
  have HB5 := Lib.hid ((HB4.out.trans (hb5.mono HB4.out.size)).trans (hal.mono (HB4.out.trans (hb5.mono HB4.out.size)).size))
  clear hb5 HB4 HP4 hal HI1 HI2 hj1 hj2
  go_upto_region 9 with fail
  generalize w4.heap.size = g4 at *
  generalize hw6 : (w5.alloc (.cells #[.int .i64 n, .int .i64 lv, .int .i64 f, .int .i64 R, .slice am kp cm, .slice as_ kp cs_] MET)) = w6 at *
  clear hw6
  generalize w5.heap.size = g5 at *
  have p0 : ∀ x : Kept w6, x.at_.cell? ⟨g4, 0, none⟩ = some (.int .i64 R) := fun x => by simpa using (HP5.out.later x.below).cell 0
  have p1 : ∀ x : Kept w6, x.at_.cell? ⟨g4, 1, none⟩ = some (.slice a1 kp c1) := fun x => by simpa using (HP5.out.later x.below).cell 1
  have p2 : ∀ x : Kept w6, x.at_.cell? ⟨g4, 2, none⟩ = some (.slice a2 kp c2) := fun x => by simpa using (HP5.out.later x.below).cell 2
  have m0 : ∀ x : Kept w6, x.at_.cell? ⟨g5, 0, none⟩ = some (.int .i64 n) := fun x => by simpa using (HM5.out.later x.below).cell 0
  have m1 : ∀ x : Kept w6, x.at_.cell? ⟨g5, 1, none⟩ = some (.int .i64 lv) := fun x => by simpa using (HM5.out.later x.below).cell 1
  have m2 : ∀ x : Kept w6, x.at_.cell? ⟨g5, 2, none⟩ = some (.int .i64 f) := fun x => by simpa using (HM5.out.later x.below).cell 2
  have m3 : ∀ x : Kept w6, x.at_.cell? ⟨g5, 3, none⟩ = some (.int .i64 R) := fun x => by simpa using (HM5.out.later x.below).cell 3
  have m4 : ∀ x : Kept w6, x.at_.cell? ⟨g5, 4, none⟩ = some (.slice am kp cm) := fun x => by simpa using (HM5.out.later x.below).cell 4
  have m5 : ∀ x : Kept w6, x.at_.cell? ⟨g5, 5, none⟩ = some (.slice as_ kp cs_) := fun x => by simpa using (HM5.out.later x.below).cell 5
  have HSm : Hid (∀ x : Kept w6, Calls Try.prog 15 #[.agg #[.int .i64 R, .slice a1 kp c1, .slice a2 kp c2], .agg #[.int .i64 R, .slice am kp cm, .slice as_ kp cs_]] x.at_ fun e w' => e = .returned (.bool true) ∧ Below x.at_.heap.size x.at_ w') := fun x =>
    (same_any R R ms ms ss ss a1 am a2 as_ kp kp c1 cm c2 cs_ x.at_ HKm.out.symm HKs.out.symm HKm.out.symm HKs.out.symm HKl.out (HI1'.out.below x.below) (HI2'.out.below x.below) (HJ1.out.below x.below) (HJ2.out.below x.below)).mono fun e w' ⟨h1, h2⟩ => ⟨by rw [h1]; simp [SameB], h2⟩
  refine wp_region_kept (by kernel_rfl) (by kernel_rfl) ?_
  repeat (go_big_quiet_step (first | (go_at_call 17; exact kept_call _ (HMy.out _ _ _ _ _ _ _ _)) | (go_at_call 16; exact kept_call _ (lawRef_any _ _ _ _ _ _ _ _)) | (go_at_call 15; exact kept_call _ (HSm.out _)) | fail))
  refine wpQuiet_nil ?_
  rintro W ⟨wx, rfl⟩
  have HB6 := Lib.hid (HB5.out.trans (wx.below.mono HB5.out.size))
  clear p0 p1 p2 m0 m1 m2 m3 m4 m5 HSm
  go_wp2
  go_ret
  exact ⟨rfl, HB6.out⟩
theorem indexPaths_walk (n : Int) (w : World) (hw : (Lit.int .i64 n).wf = true) : Calls Try.prog 3 #[.int .i64 n] w fun e w' => e = .returned (.bool true) ∧ Below w.heap.size w w' := by
  have hb := wf_bounds hw
  cases h : isB n with
  | true => exact paths_yes n w hb.1 hb.2 h
  | false => exact paths_no n w hb.1 hb.2 h
end Go.Proofs.Ytcekejaefbdhfaa
