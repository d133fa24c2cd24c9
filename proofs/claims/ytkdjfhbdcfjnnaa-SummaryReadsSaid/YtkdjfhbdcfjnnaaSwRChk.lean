/-
  The document's Check of any summary.
-/
import Derived.Test.YtkdjfhbdcfjnnaaSwRSz
import Derived.Test.YtkdjfhbdcfjnnaaSmCk2
import Derived.Test.YtkdjfhbdcfjnnaaSwFnFind
namespace Go.Proofs.Ytkdjfhbdcfjnnaa
open Go.RowKit

theorem rfind_ok (n : Int) (w : World) (hn1 : -9223372036854775808 ≤ n) (hn2 : n ≤ 9223372036854775807) (h : isB n = true) : Calls Try.prog 26 #[.int .i64 n] w fun e w' =>
    ∃ (x1 x2 x3 x4 : Int) (a1 : Option Addr) (n1 c1 : Nat) (a2 : Option Addr) (n2 c2 : Nat), e = .returned (.tuple #[.agg #[.int .i64 x1, .int .i64 x2, .int .i64 x3, .int .i64 x4, .slice a1 n1 c1, .slice a2 n2 c2], .bool true]) ∧ Below w.heap.size w w' := by
  refine (find_any n w hn1 hn2).mono ?_
  intro e w' hf
  rw [wantM, if_pos h] at hf
  obtain ⟨am, cm, as_, cs_, he, _, _, _, _, hb⟩ := hf
  exact ⟨_, _, _, _, _, _, _, _, _, _, he, hb⟩
theorem rfind_no (n : Int) (w : World) (hn1 : -9223372036854775808 ≤ n) (hn2 : n ≤ 9223372036854775807) (h : isB n = false) : Calls Try.prog 26 #[.int .i64 n] w fun e w' =>
    e = .returned (.tuple #[.agg #[.int .i64 0, .int .i64 0, .int .i64 0, .int .i64 0, .slice none 0 0, .slice none 0 0], .bool false]) ∧ Below w.heap.size w w' := by
  refine (find_any n w hn1 hn2).mono ?_
  intro e w' hf
  rw [wantM, if_neg (by rw [h]; decide)] at hf
  exact hf
section
variable {e c i p x : Int} {l : List Fi} {is : List Int}
theorem chk_num (h : ¬ (0 ≤ e ∧ e ≤ 65535 ∧ 0 ≤ c ∧ c ≤ 65535 ∧ 1 ≤ p ∧ p ≤ 64 ∧ 0 ≤ i ∧ i < p ∧ 0 ≤ x ∧ x ≤ 4095)) : chkC e c i p x l is = 22 := by
  unfold chkC outB
  simp only [Bool.or_eq_true, decide_eq_true_eq]
  split
  · rfl
  · split
    · rfl
    · split
      · rfl
      · exact absurd (by omega) h
theorem chk_rest (h : 0 ≤ e ∧ e ≤ 65535 ∧ 0 ≤ c ∧ c ≤ 65535 ∧ 1 ≤ p ∧ p ≤ 64 ∧ 0 ≤ i ∧ i < p ∧ 0 ≤ x ∧ x ≤ 4095) : chkC e c i p x l is = if l.any badF then 22 else if is.any badI then 22 else if 88 < 10 + is.length + szF l then 27 else 0 := by
  unfold chkC outB
  simp only [Bool.or_eq_true, decide_eq_true_eq]
  rw [if_neg (by omega), if_neg (by omega), if_neg (by omega)]
theorem chk_file {f : Fi} (hf : f ∈ l) (hb : badF f = true) : chkC e c i p x l is = 22 := by
  by_cases h : 0 ≤ e ∧ e ≤ 65535 ∧ 0 ≤ c ∧ c ≤ 65535 ∧ 1 ≤ p ∧ p ≤ 64 ∧ 0 ≤ i ∧ i < p ∧ 0 ≤ x ∧ x ≤ 4095
  · rw [chk_rest h, if_pos (List.any_eq_true.2 ⟨f, hf, hb⟩)]
  · exact chk_num h
theorem chk_int {n : Int} (hl : l.any badF = false) (hf : n ∈ is) (hb : badI n = true) : chkC e c i p x l is = 22 := by
  by_cases h : 0 ≤ e ∧ e ≤ 65535 ∧ 0 ≤ c ∧ c ≤ 65535 ∧ 1 ≤ p ∧ p ≤ 64 ∧ 0 ≤ i ∧ i < p ∧ 0 ≤ x ∧ x ≤ 4095
  · rw [chk_rest h, if_neg (by rw [hl]; decide), if_pos (List.any_eq_true.2 ⟨n, hf, hb⟩)]
  · exact chk_num h
end
theorem out_ge {v a b : Int} (h : v < a ∨ b < v) : outB v a b = true := by
  unfold outB
  simp only [Bool.or_eq_true, decide_eq_true_eq]; exact h
theorem out_in {v a b : Int} (h1 : ¬ v < a) (h2 : ¬ b < v) : outB v a b = false := by
  unfold outB
  simp only [Bool.or_eq_false_iff, decide_eq_false_iff_not]; exact ⟨h1, h2⟩

set_option maxRecDepth 20000 in
set_option maxHeartbeats 8000000 in
theorem rcheck_any {w : World} (e c i p x : Int) (l : List Fi) (is : List Int) (fa : Option Addr) (fn fc : Nat) (ia : Option Addr) (inn ic : Nat) (hF : Fis w fa l) (hn : fn = l.length) (hs : szF l ≤ 1000000000) (hI : Ints w ia is) (hin : inn = is.length) (hi9 : inn ≤ 1000000000) (hlb : ∀ x ∈ l, ∀ n ∈ x.lb, -9223372036854775808 ≤ n ∧ n ≤ 9223372036854775807) :
    Calls Try.prog 13 #[part e c i p x fa fn fc ia inn ic] w fun en w' => en = .returned (.int .i64 (chkC e c i p x l is)) ∧ Below w.heap.size w w' := by
  have hsup := sup_pc w (.cells #[.int .i64 e, .int .i64 c, .int .i64 i, .int .i64 p, .int .i64 x, .slice fa fn fc, .slice ia inn ic] 25)
  have HB := Lib.hid hsup
  have HX := Lib.hid (blo_laid w 25 #[.int .i64 e, .int .i64 c, .int .i64 i, .int .i64 p, .int .i64 x, .slice fa fn fc, .slice ia inn ic])
  have hF0 := Lib.hid (hF.later hsup)
  have hI0 := Lib.hid (hI.below hsup)
  have hfn9 : fn ≤ 1000000000 := by have := len_szF l; omega
  have HSz := Lib.hid (fun W (hW : Below w.heap.size w W) => rsize_any (w := W) (l := l) e c i p x fa fn fc ia inn ic (hF.later hW) hn hs hi9)
  have HN := Lib.hid hn
  have HIn := Lib.hid hin
  have HLb := Lib.hid hlb
  have HNum : Hid (¬ (0 ≤ e ∧ e ≤ 65535 ∧ 0 ≤ c ∧ c ≤ 65535 ∧ 1 ≤ p ∧ p ≤ 64 ∧ 0 ≤ i ∧ i < p ∧ 0 ≤ x ∧ x ≤ 4095) → chkC e c i p x l is = 22) := chk_num
  have HRest : Hid (0 ≤ e ∧ e ≤ 65535 ∧ 0 ≤ c ∧ c ≤ 65535 ∧ 1 ≤ p ∧ p ≤ 64 ∧ 0 ≤ i ∧ i < p ∧ 0 ≤ x ∧ x ≤ 4095 → chkC e c i p x l is = if l.any badF then 22 else if is.any badI then 22 else if 88 < 10 + is.length + szF l then 27 else 0) := chk_rest
  have HFl : Hid (∀ f, f ∈ l → badF f = true → chkC e c i p x l is = 22) := fun f => chk_file
  have HIl : Hid (l.any badF = false → ∀ n, n ∈ is → badI n = true → chkC e c i p x l is = 22) := fun h n => chk_int h
  have HSl : Hid (∀ x ∈ l, x.lb.length ≤ 1000000000) := fun x hx => by
    have h1 : 4 + 2 * x.lb.length ≤ szF l := by
      unfold szF
      have : ∀ (l : List Nat) (y : Nat), y ∈ l → y ≤ l.sum := fun l y hy => by
        induction l with
        | nil => cases hy
        | cons a l ih =>
          rw [List.sum_cons]
          rcases List.mem_cons.1 hy with rfl | hy
          · omega
          · have := ih hy; omega
      exact this _ _ (List.mem_map.2 ⟨x, hx, rfl⟩)
    omega
  clear hF hn hs hI hin hlb hsup
  obtain ⟨V, hV⟩ : ∃ V, chkC e c i p x l is = V := ⟨_, rfl⟩
  rw [hV] at HNum HRest HFl HIl
  rw [hV]
  clear hV
  by_cases t0 : e < 0
  · have HV := Lib.hid (HNum.out (by omega))
    clear HNum HRest HFl HIl HSz
    go_enter Try.func13, Try.ntmps13
    go_wp2
    go_ret
    exact ⟨by rw [HV.out]; rfl, HB.out⟩
  by_cases t1 : 65535 < e
  · have HV := Lib.hid (HNum.out (by omega))
    clear HNum HRest HFl HIl HSz
    go_enter Try.func13, Try.ntmps13
    go_wp2
    go_ret
    exact ⟨by rw [HV.out]; rfl, HB.out⟩
  by_cases t2 : c < 0
  · have HV := Lib.hid (HNum.out (by omega))
    clear HNum HRest HFl HIl HSz
    go_enter Try.func13, Try.ntmps13
    go_wp2
    go_ret
    exact ⟨by rw [HV.out]; rfl, HB.out⟩
  by_cases t3 : 65535 < c
  · have HV := Lib.hid (HNum.out (by omega))
    clear HNum HRest HFl HIl HSz
    go_enter Try.func13, Try.ntmps13
    go_wp2
    go_ret
    exact ⟨by rw [HV.out]; rfl, HB.out⟩
  by_cases t4 : p < 1
  · have HV := Lib.hid (HNum.out (by omega))
    clear HNum HRest HFl HIl HSz
    go_enter Try.func13, Try.ntmps13
    go_wp2
    go_ret
    exact ⟨by rw [HV.out]; rfl, HB.out⟩
  by_cases t5 : 64 < p
  · have HV := Lib.hid (HNum.out (by omega))
    clear HNum HRest HFl HIl HSz
    go_enter Try.func13, Try.ntmps13
    go_wp2
    go_ret
    exact ⟨by rw [HV.out]; rfl, HB.out⟩
  by_cases t6 : i < 0
  · have HV := Lib.hid (HNum.out (by omega))
    clear HNum HRest HFl HIl HSz
    go_enter Try.func13, Try.ntmps13
    go_wp2
    go_ret
    exact ⟨by rw [HV.out]; rfl, HB.out⟩
  by_cases t7 : p ≤ i
  · have HV := Lib.hid (HNum.out (by omega))
    clear HNum HRest HFl HIl HSz
    go_enter Try.func13, Try.ntmps13
    go_wp2
    go_ret
    exact ⟨by rw [HV.out]; rfl, HB.out⟩
  by_cases t8 : x < 0
  · have HV := Lib.hid (HNum.out (by omega))
    clear HNum HRest HFl HIl HSz
    go_enter Try.func13, Try.ntmps13
    go_wp2
    go_ret
    exact ⟨by rw [HV.out]; rfl, HB.out⟩
  by_cases t9 : 4095 < x
  · have HV := Lib.hid (HNum.out (by omega))
    clear HNum HRest HFl HIl HSz
    go_enter Try.func13, Try.ntmps13
    go_wp2
    go_ret
    exact ⟨by rw [HV.out]; rfl, HB.out⟩
  have HRs := Lib.hid (HRest.out (by omega))
  clear HNum HRest
  go_enter Try.func13, Try.ntmps13
  go_wp2_with fail
  generalize (w.alloc (.cells #[.int .i64 e, .int .i64 c, .int .i64 i, .int .i64 p, .int .i64 x, .slice fa fn fc, .slice ia inn ic] 25)) = w0 at *
  clear t0 t1 t2 t3 t4 t5 t6 t7 t8 t9
  go_loopw [62] (fun t wr => ∃ k : Nat, k ≤ fn ∧ t = .int .i64 k ∧ (l.take k).any badF = false ∧ Below w0.heap.size w0 wr) (fun t _ => fn - (intOf t).toNat)
  case atStart => exact ⟨0, Nat.zero_le _, rfl, rfl, Below.refl _ _⟩
  case round =>
    obtain ⟨k, hk, rfl, hno, hB⟩ := hrel
    have HNo := Lib.hid hno
    have HBr := Lib.hid hB
    have HW := Lib.hid (HB.out.trans (hB.mono HB.out.size))
    have c5 : wr.cell? ⟨w.heap.size, 5, none⟩ = some (.slice fa fn fc) := (HX.out.later hB).cell 5
    clear hno hB
    by_cases hlt : k < fn
    · have hkl : k < l.length := by rw [← HN.out]; exact hlt
      obtain ⟨b, o, cc, cp, rfl, q1, q2, q3, q4⟩ := (hF0.out.later HBr.out).at hkl
      have htk := take_snocF l fi0 k hkl
      have hmem : l.getD k fi0 ∈ l := by rw [List.getD_eq_getElem?_getD, List.getElem?_eq_getElem hkl]; exact List.getElem_mem _
      obtain ⟨f, hf⟩ : ∃ f, l.getD k fi0 = f := ⟨_, rfl⟩
      rw [hf] at q1 q2 q3 q4 htk hmem
      have HTk := Lib.hid htk
      have HBad := Lib.hid (HFl.out f hmem)
      have HLf := Lib.hid (HLb.out f hmem)
      have hmm := HSl.out f hmem
      have HQ := Lib.hid (q4.below (sup_pc wr (.cells #[.int .i64 f.ino, .int .i64 f.ver, .slice cc f.lb.length cp] FN)))
      have HFb := Lib.hid (blo_laid wr FN #[.int .i64 f.ino, .int .i64 f.ver, .slice cc f.lb.length cp])
      have HBa := Lib.hid (sup_pc wr (.cells #[.int .i64 f.ino, .int .i64 f.ver, .slice cc f.lb.length cp] FN))
      have HBf : Hid (badF f = (outB f.ino 1 200 || outB f.ver 0 65535 || outB (f.lb.length : Int) 1 30 || f.lb.any (fun n => !isB n))) := rfl
      obtain ⟨ys, hys⟩ : ∃ ys, f.lb = ys := ⟨_, rfl⟩
      obtain ⟨v1, hv1⟩ : ∃ v1, f.ino = v1 := ⟨_, rfl⟩
      obtain ⟨v2, hv2⟩ : ∃ v2, f.ver = v2 := ⟨_, rfl⟩
      rw [hys] at q3 HLf hmm HQ HFb HBa HBf
      rw [hv1] at q1 HQ HFb HBa HBf
      rw [hv2] at q2 HQ HFb HBa HBf
      obtain ⟨m, hm⟩ : ∃ m, ys.length = m := ⟨_, rfl⟩
      rw [hm] at q3 hmm HQ HFb HBa HBf
      have HM := Lib.hid hm
      have k0 : (0 : Int) ≤ (k : Int) := by omega
      have k1 : (k : Int) < (fn : Int) := by omega
      clear hkl htk hmem hf q4 hys hv1 hv2 hm
      by_cases s0 : v1 < 1
      · have HV := Lib.hid (HBad.out (by rw [HBf.out, out_ge (v := v1) (a := 1) (b := 200) (.inl s0)]; simp))
        have HBx := Lib.hid (HW.out.trans (HBa.out.mono HW.out.size))
        clear HSz HRs HBad HBf HFl HIl
        go_wp2
        go_ret
        exact ⟨by rw [HV.out]; rfl, HBx.out⟩
      by_cases s1 : 200 < v1
      · have HV := Lib.hid (HBad.out (by rw [HBf.out, out_ge (v := v1) (a := 1) (b := 200) (.inr s1)]; simp))
        have HBx := Lib.hid (HW.out.trans (HBa.out.mono HW.out.size))
        clear HSz HRs HBad HBf HFl HIl
        go_wp2
        go_ret
        exact ⟨by rw [HV.out]; rfl, HBx.out⟩
      by_cases s2 : v2 < 0
      · have HV := Lib.hid (HBad.out (by rw [HBf.out, out_ge (v := v2) (a := 0) (b := 65535) (.inl s2)]; simp))
        have HBx := Lib.hid (HW.out.trans (HBa.out.mono HW.out.size))
        clear HSz HRs HBad HBf HFl HIl
        go_wp2
        go_ret
        exact ⟨by rw [HV.out]; rfl, HBx.out⟩
      by_cases s3 : 65535 < v2
      · have HV := Lib.hid (HBad.out (by rw [HBf.out, out_ge (v := v2) (a := 0) (b := 65535) (.inr s3)]; simp))
        have HBx := Lib.hid (HW.out.trans (HBa.out.mono HW.out.size))
        clear HSz HRs HBad HBf HFl HIl
        go_wp2
        go_ret
        exact ⟨by rw [HV.out]; rfl, HBx.out⟩
      by_cases s4 : (m : Int) < 1
      · have HV := Lib.hid (HBad.out (by rw [HBf.out, out_ge (v := (m : Int)) (a := 1) (b := 30) (.inl s4)]; simp))
        have HBx := Lib.hid (HW.out.trans (HBa.out.mono HW.out.size))
        clear HSz HRs HBad HBf HFl HIl
        go_wp2
        go_ret
        exact ⟨by rw [HV.out]; rfl, HBx.out⟩
      by_cases s5 : (30 : Int) < (m : Int)
      · have HV := Lib.hid (HBad.out (by rw [HBf.out, out_ge (v := (m : Int)) (a := 1) (b := 30) (.inr s5)]; simp))
        have HBx := Lib.hid (HW.out.trans (HBa.out.mono HW.out.size))
        clear HSz HRs HBad HBf HFl HIl
        go_wp2
        go_ret
        exact ⟨by rw [HV.out]; rfl, HBx.out⟩
      have HG : Hid (badF f = ys.any (fun n => !isB n)) := by show _ = _; rw [HBf.out, out_in s0 s1, out_in s2 s3, out_in s4 s5]; simp
      clear HBf
      go_wp2_with fail
      have HBk := Lib.hid (HBr.out.trans (HBa.out.mono HBr.out.size))
      have HWk := Lib.hid (HW.out.trans (HBa.out.mono HW.out.size))
      have hsz1 : wr.heap.size < (wr.alloc (.cells #[.int .i64 v1, .int .i64 v2, .slice cc m cp] FN)).heap.size := by simp
      generalize (wr.alloc (.cells #[.int .i64 v1, .int .i64 v2, .slice cc m cp] FN)) = wa at *
      clear q1 q2 q3 c5 s0 s1 s2 s3 s4 s5 HBr
      generalize wr.heap.size = gf at *
      go_loopw [103] (fun t wx => ∃ j : Nat, j ≤ m ∧ t = .int .i64 j ∧ (ys.take j).any (fun n => !isB n) = false ∧ Below wa.heap.size wa wx) (fun t _ => m - (intOf t).toNat)
      case atStart => exact ⟨0, Nat.zero_le _, rfl, rfl, Below.refl _ _⟩
      case round =>
        obtain ⟨j, hj, rfl, hno2, hB2⟩ := hrel
        have HNo2 := Lib.hid hno2
        have HB2 := Lib.hid hB2
        clear hno2 hB2
        by_cases hlj : j < m
        · have hjl : j < ys.length := by rw [HM.out]; exact hlj
          obtain ⟨eb, eo, rfl, he⟩ := HQ.out (fun h => by rw [h] at hjl; cases hjl)
          have e0 := cell_later HB2.out (he j hjl)
          have e2 : World.cell? _ ⟨gf, 2, none⟩ = some (.slice (some ⟨eb, eo, none⟩) m cp) := (HFb.out.later HB2.out).cell 2
          have hyk := take_snocF ys 0 j hjl
          have hym : ys.getD j 0 ∈ ys := by rw [List.getD_eq_getElem?_getD, List.getElem?_eq_getElem hjl]; exact List.getElem_mem _
          obtain ⟨y, hy⟩ : ∃ y, ys.getD j 0 = y := ⟨_, rfl⟩
          rw [hy] at e0 hyk hym
          have HYk := Lib.hid hyk
          have hlo := HLf.out y hym
          have HYm := Lib.hid hym
          have j0 : (0 : Int) ≤ (j : Int) := by omega
          have j1 : (j : Int) < (m : Int) := by omega
          clear hjl he hyk hym hy
          cases hyb : isB y with
          | false =>
            have HV := Lib.hid (HBad.out (by rw [HG.out]; exact List.any_eq_true.2 ⟨y, HYm.out, by rw [hyb]; rfl⟩))
            have HFd := Lib.hid (fun W => rfind_no y W hlo.1 hlo.2 hyb)
            clear hyb hlo HSz HRs HBad HFl HIl
            go_wp2_with fail
            refine (HFd.out _).mono ?_
            rintro en w1 ⟨rfl, hb1⟩
            have HE := Lib.hid ((HWk.out.trans (HB2.out.mono HWk.out.size)).trans (hb1.mono (HWk.out.trans (HB2.out.mono HWk.out.size)).size))
            clear hb1 e0 e2
            go_wp2
            go_ret
            exact ⟨by rw [HV.out]; rfl, HE.out.alloc HE.out.size _⟩
          | true =>
            have HFd := Lib.hid (fun W => rfind_ok y W hlo.1 hlo.2 hyb)
            have HA : Hid ((ys.take (j + 1)).any (fun n => !isB n) = false) := by
              show _ = _
              rw [HYk.out, List.any_append, HNo2.out, List.any_cons, hyb]; rfl
            clear hyb hlo
            go_wp2_with fail
            refine (HFd.out _).mono ?_
            rintro en w1 ⟨x1, x2, x3, x4, a1, n1, c1, a2, n2, c2, rfl, hb1⟩
            have HE := Lib.hid (HB2.out.trans (hb1.mono HB2.out.size))
            clear hb1 e0 e2 HFd
            go_wp2_with fail
            go_roundw
            case rel => exact ⟨j + 1, by omega, by simp, HA.out, HE.out.alloc HE.out.size _⟩
            case measure => simp [intOf]; omega
        · have hkn : ys.take j = ys := by rw [List.take_of_length_le]; have := HM.out; omega
          rw [hkn] at HNo2
          have j1 : ¬ (j : Int) < (m : Int) := by omega
          have HA : Hid ((l.take (k + 1)).any badF = false) := by
            show _ = _
            rw [HTk.out, List.any_append, HNo.out, List.any_cons, HG.out, HNo2.out]; rfl
          have HE := Lib.hid (HBk.out.trans (HB2.out.mono HBk.out.size))
          clear hkn
          go_wp2_with fail
          go_roundw
          case rel => exact ⟨k + 1, by omega, by simp, HA.out, HE.out⟩
          case measure => simp [intOf]; omega
    · have hkn : l.take k = l := by rw [List.take_of_length_le]; have := HN.out; omega
      rw [hkn] at HNo
      have k1 : ¬ (k : Int) < (fn : Int) := by omega
      have c6 : wr.cell? ⟨w.heap.size, 6, none⟩ = some (.slice ia inn ic) := (HX.out.later HBr.out).cell 6
      clear hkn
      go_wp2_with fail
      clear c5 c6
      go_loopw [122] (fun t wx => ∃ j : Nat, j ≤ inn ∧ t = .int .i64 j ∧ (is.take j).any badI = false ∧ Below w0.heap.size w0 wx) (fun t _ => inn - (intOf t).toNat)
      case atStart => exact ⟨0, Nat.zero_le _, rfl, rfl, HBr.out⟩
      case round =>
        obtain ⟨j, hj, rfl, hno2, hB2⟩ := hrel
        have HNo2 := Lib.hid hno2
        have HB2 := Lib.hid hB2
        have HW2 := Lib.hid (HB.out.trans (hB2.mono HB.out.size))
        have HX2 := Lib.hid (HX.out.later hB2)
        have HI2 := Lib.hid (hI0.out.below hB2)
        clear hno2 hB2
        by_cases hlj : j < inn
        · have hjl : j < is.length := by rw [← HIn.out]; exact hlj
          obtain ⟨eb, eo, rfl, he⟩ := HI2.out (fun h => by rw [h] at hjl; cases hjl)
          have e0 := he j hjl
          have e2 : World.cell? _ ⟨w.heap.size, 6, none⟩ = some (.slice (some ⟨eb, eo, none⟩) inn ic) := HX2.out.cell 6
          have hyk := take_snocF is 0 j hjl
          have hym : is.getD j 0 ∈ is := by rw [List.getD_eq_getElem?_getD, List.getElem?_eq_getElem hjl]; exact List.getElem_mem _
          obtain ⟨y, hy⟩ : ∃ y, is.getD j 0 = y := ⟨_, rfl⟩
          rw [hy] at e0 hyk hym
          have HYk := Lib.hid hyk
          have HBad := Lib.hid (HIl.out HNo.out y hym)
          have j0 : (0 : Int) ≤ (j : Int) := by omega
          have j1 : (j : Int) < (inn : Int) := by omega
          clear hjl he hyk hym hy
          by_cases s0 : y < 1
          · have HV := Lib.hid (HBad.out (out_ge (.inl s0)))
            clear HSz HRs HBad HFl HIl
            go_wp2
            go_ret
            exact ⟨by rw [HV.out]; rfl, HW2.out⟩
          by_cases s1 : 200 < y
          · have HV := Lib.hid (HBad.out (out_ge (.inr s1)))
            clear HSz HRs HBad HFl HIl
            go_wp2
            go_ret
            exact ⟨by rw [HV.out]; rfl, HW2.out⟩
          have HA : Hid ((is.take (j + 1)).any badI = false) := by
            show _ = _
            rw [HYk.out, List.any_append, HNo2.out, List.any_cons, show badI y = false from out_in s0 s1]; rfl
          go_wp2_with fail
          go_roundw
          case rel => exact ⟨j + 1, by omega, by simp, HA.out, HB2.out⟩
          case measure => simp [intOf]; omega
        · have hkn : is.take j = is := by rw [List.take_of_length_le]; have := HIn.out; omega
          rw [hkn] at HNo2
          have j1 : ¬ (j : Int) < (inn : Int) := by omega
          have d0 := HX2.out.cell 0
          have d1 := HX2.out.cell 1
          have d2 := HX2.out.cell 2
          have d3 := HX2.out.cell 3
          have d4 := HX2.out.cell 4
          have d5 := HX2.out.cell 5
          have d6 := HX2.out.cell 6
          simp only [List.getElem?_toArray, List.getElem?_cons_zero, List.getElem?_cons_succ] at d0 d1 d2 d3 d4 d5 d6
          have hrs := HRs.out
          rw [HNo.out, HNo2.out, if_neg (by decide), if_neg (by decide), ← HIn.out] at hrs
          clear hkn
          by_cases g8 : 88 < 10 + inn + szF l
          · have j8 : (88 : Int) < ((10 + inn + szF l : Nat) : Int) := by omega
            rw [if_pos g8] at hrs
            have HV := Lib.hid hrs
            clear hrs g8
            go_wp2_with fail
            refine (HSz.out _ HW2.out).mono ?_
            rintro en w8 ⟨rfl, hb8⟩
            have HB8 := Lib.hid (HW2.out.trans (hb8.mono HW2.out.size))
            clear hb8 d0 d1 d2 d3 d4 d5 d6
            go_wp2
            go_ret
            exact ⟨by rw [HV.out]; rfl, HB8.out⟩
          · have j8 : ¬ (88 : Int) < ((10 + inn + szF l : Nat) : Int) := by omega
            rw [if_neg g8] at hrs
            have HV := Lib.hid hrs
            clear hrs g8
            go_wp2_with fail
            refine (HSz.out _ HW2.out).mono ?_
            rintro en w8 ⟨rfl, hb8⟩
            have HB8 := Lib.hid (HW2.out.trans (hb8.mono HW2.out.size))
            clear hb8 d0 d1 d2 d3 d4 d5 d6
            go_wp2
            go_ret
            exact ⟨by rw [HV.out]; rfl, HB8.out⟩
end Go.Proofs.Ytkdjfhbdcfjnnaa
