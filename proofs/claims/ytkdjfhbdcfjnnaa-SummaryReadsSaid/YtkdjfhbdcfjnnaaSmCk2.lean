/-
  A summary's Check, of any summary.
-/
import Derived.Test.YtkdjfhbdcfjnnaaSmChk
namespace Go.Proofs.Ytkdjfhbdcfjnnaa
open Go.RowKit

def badF (x : Fi) : Bool := outB x.ino 1 200 || outB x.ver 0 65535 || outB (x.lb.length : Int) 1 30 || x.lb.any (fun n => !isB n)
def badI (n : Int) : Bool := outB n 1 200

def chkC (e c i p x : Int) (l : List Fi) (is : List Int) : Int :=
  if outB e 0 65535 || outB c 0 65535 then 22 else if outB p 1 64 || outB i 0 (p - 1) then 22 else if outB x 0 4095 then 22 else if l.any badF then 22 else if is.any badI then 22 else if 88 < 10 + is.length + szF l then 27 else 0
theorem out_yes {v a b : Int} (h : outB v a b = false) : a ≤ v ∧ v ≤ b := by
  unfold outB at h
  simp only [Bool.or_eq_false_iff, decide_eq_false_iff_not] at h
  omega
section
variable {w : World}
set_option maxHeartbeats 4000000 in
theorem wrongFile_any (x : Fi) (b : Option Addr) (cp : Nat) (hb : Ints w b x.lb) (hn9 : x.lb.length ≤ 9223372036854775807) (hlb : ∀ n ∈ x.lb, -9223372036854775808 ≤ n) :
    Calls Try.prog 29 #[.agg #[.int .i64 x.ino, .int .i64 x.ver, .slice b x.lb.length cp]] w fun e w' => e = .returned (.bool (badF x)) ∧ Below w.heap.size w w' := by
  have hsup := sup_pc w (.cells #[.int .i64 x.ino, .int .i64 x.ver, .slice b x.lb.length cp] FN)
  have HB := Lib.hid hsup
  have HX := Lib.hid (blo_laid w FN #[.int .i64 x.ino, .int .i64 x.ver, .slice b x.lb.length cp])
  have H1 := Lib.hid (fun W => wrongIno_any x.ino W)
  have H2 := Lib.hid (fun W => outside_any x.ver 0 65535 W)
  have H3 := Lib.hid (fun W => outside_any (x.lb.length : Int) 1 30 W)
  have H4 := Lib.hid (fun W (hW : Below w.heap.size w W) => containsI_any (w := W) (F := 42) (fun args W => by rfl) (fun n => !isB n) b x.lb.length cp x.lb rfl hn9 (hb.below hW) (fun n hn W => wrongLbn_any n W (hlb n hn)))
  unfold badF
  clear hb hlb hsup
  obtain ⟨m, hm⟩ : ∃ m, x.lb.length = m := ⟨_, rfl⟩
  rw [hm] at HB HX H3 H4
  rw [hm]
  cases h1 : outB x.ino 1 200 with
  | true =>
    rw [h1] at H1
    clear h1
    go_enter Try.func29, Try.ntmps29
    go_wp2_with fail
    refine (H1.out _).mono ?_
    rintro e w1 ⟨rfl, hb1⟩
    have HB1 := Lib.hid (HB.out.trans (hb1.mono HB.out.size))
    have HX1 := Lib.hid (HX.out.later hb1)
    have c1 := HX1.out.cell 1
    have c2 := HX1.out.cell 2
    simp at c1 c2
    clear hb1
    go_wp2
    go_ret
    exact ⟨rfl, HB1.out⟩
  | false =>
    rw [h1] at H1
    cases h2 : outB x.ver 0 65535 with
    | true =>
      rw [h2] at H2
      clear h1 h2
      go_enter Try.func29, Try.ntmps29
      go_wp2_with fail
      refine (H1.out _).mono ?_
      rintro e w1 ⟨rfl, hb1⟩
      have HB1 := Lib.hid (HB.out.trans (hb1.mono HB.out.size))
      have HX1 := Lib.hid (HX.out.later hb1)
      have c1 := HX1.out.cell 1
      have c2 := HX1.out.cell 2
      simp at c1 c2
      clear hb1
      go_wp2_with fail
      refine (H2.out _).mono ?_
      rintro e w2 ⟨rfl, rfl⟩
      go_wp2
      go_ret
      exact ⟨rfl, HB1.out⟩
    | false =>
      rw [h2] at H2
      cases h3 : outB (m : Int) 1 30 with
      | true =>
        rw [h3] at H3
        clear h1 h2 h3
        go_enter Try.func29, Try.ntmps29
        go_wp2_with fail
        refine (H1.out _).mono ?_
        rintro e w1 ⟨rfl, hb1⟩
        have HB1 := Lib.hid (HB.out.trans (hb1.mono HB.out.size))
        have HX1 := Lib.hid (HX.out.later hb1)
        have c1 := HX1.out.cell 1
        have c2 := HX1.out.cell 2
        simp at c1 c2
        clear hb1
        go_wp2_with fail
        refine (H2.out _).mono ?_
        rintro e w2 ⟨rfl, rfl⟩
        go_wp2_with fail
        refine (H3.out _).mono ?_
        rintro e w2 ⟨rfl, rfl⟩
        go_wp2
        go_ret
        exact ⟨rfl, HB1.out⟩
      | false =>
        rw [h3] at H3
        clear h1 h2 h3
        go_enter Try.func29, Try.ntmps29
        go_wp2_with fail
        refine (H1.out _).mono ?_
        rintro e w1 ⟨rfl, hb1⟩
        have HB1 := Lib.hid (HB.out.trans (hb1.mono HB.out.size))
        have HX1 := Lib.hid (HX.out.later hb1)
        have c1 := HX1.out.cell 1
        have c2 := HX1.out.cell 2
        simp at c1 c2
        clear hb1
        go_wp2_with fail
        refine (H2.out _).mono ?_
        rintro e w2 ⟨rfl, rfl⟩
        go_wp2_with fail
        refine (H3.out _).mono ?_
        rintro e w2 ⟨rfl, rfl⟩
        go_wp2_with fail
        refine (H4.out _ HB1.out).mono ?_
        rintro e w4 ⟨rfl, hb4⟩
        have HB4 := Lib.hid (HB1.out.trans (hb4.mono HB1.out.size))
        clear hb4 c1 c2
        go_wp2
        go_ret
        exact ⟨rfl, HB4.out⟩
set_option maxHeartbeats 4000000 in
theorem check_any (e c i p x : Int) (l : List Fi) (is : List Int) (fa : Option Addr) (fn fc : Nat) (ia : Option Addr) (inn ic : Nat) (hF : Fis w fa l) (hn : fn = l.length) (hs : szF l ≤ 1000000000) (hI : Ints w ia is) (hin : inn = is.length) (hi9 : inn ≤ 1000000000) (hlb : ∀ x ∈ l, ∀ n ∈ x.lb, -9223372036854775808 ≤ n) :
    Calls Try.prog 14 #[part e c i p x fa fn fc ia inn ic] w fun en w' => en = .returned (.int .i64 (chkC e c i p x l is)) ∧ Below w.heap.size w w' := by
  have hsup := sup_pc w (.cells #[.int .i64 e, .int .i64 c, .int .i64 i, .int .i64 p, .int .i64 x, .slice fa fn fc, .slice ia inn ic] 25)
  have HB := Lib.hid hsup
  have HX := Lib.hid (blo_laid w 25 #[.int .i64 e, .int .i64 c, .int .i64 i, .int .i64 p, .int .i64 x, .slice fa fn fc, .slice ia inn ic])
  have O1 := Lib.hid (fun W => outside_any e 0 65535 W)
  have O2 := Lib.hid (fun W => outside_any c 0 65535 W)
  have O3 := Lib.hid (fun W => outside_any p 1 64 W)
  have O4 := Lib.hid (fun W => outside_any i 0 (p - 1) W)
  have O5 := Lib.hid (fun W => outside_any x 0 4095 W)
  have hfn9 : fn ≤ 9223372036854775807 := by have := len_szF l; omega
  have hl9 : ∀ x ∈ l, x.lb.length ≤ 9223372036854775807 := fun x hx => by
    have h1 : 4 + 2 * x.lb.length ≤ szF l := by
      unfold szF
      have : ∀ (l : List Nat) (y : Nat), y ∈ l → y ≤ l.sum := fun l y hy => by
        induction l with
        | nil => cases hy
        | cons a l ih =>
          rw [List.sum_cons]
          rcases List.mem_cons.1 hy with rfl | hy
          · omega
          · have := ih hy; omega
      exact this _ _ (List.mem_map.2 ⟨x, hx, rfl⟩)
    omega
  have O6 := Lib.hid (fun W (hW : Below w.heap.size w W) => containsF_any (w := W) (F := 29) (fun args W => by rfl) badF fa fn fc l hn hfn9 (hF.later hW) (fun y hy W2 b cp hb2 hI2 => wrongFile_any y b cp hI2 (hl9 y hy) (hlb y hy)))
  have O7 := Lib.hid (fun W (hW : Below w.heap.size w W) => containsI_any (w := W) (F := 31) (fun args W => by rfl) badI ia inn ic is hin (by omega) (hI.below hW) (fun n hn W => wrongIno_any n W))
  have O8 := Lib.hid (fun W (hW : Below w.heap.size w W) => size_any (w := W) (l := l) e c i p x fa fn fc ia inn ic (hF.later hW) hn hs hi9)
  have HIn := Lib.hid hin
  clear hF hn hI hin hlb hsup hl9
  cases g1 : outB e 0 65535 with
  | true =>
    rw [g1] at O1
    have HV : Hid (chkC e c i p x l is = 22) := by show _ = _; unfold chkC; simp [g1]
    clear g1
    go_enter Try.func14, Try.ntmps14
    go_wp2_with fail
    refine (O1.out _).mono ?_
    rintro en w2 ⟨rfl, rfl⟩
    go_wp2
    go_ret
    exact ⟨by rw [HV.out]; rfl, HB.out⟩
  | false =>
    rw [g1] at O1
    cases g2 : outB c 0 65535 with
    | true =>
      rw [g2] at O2
      have HV : Hid (chkC e c i p x l is = 22) := by show _ = _; unfold chkC; simp [g1, g2]
      clear g1 g2
      go_enter Try.func14, Try.ntmps14
      go_wp2_with fail
      refine (O1.out _).mono ?_
      rintro en w2 ⟨rfl, rfl⟩
      go_wp2_with fail
      refine (O2.out _).mono ?_
      rintro en w2 ⟨rfl, rfl⟩
      go_wp2
      go_ret
      exact ⟨by rw [HV.out]; rfl, HB.out⟩
    | false =>
      rw [g2] at O2
      cases g3 : outB p 1 64 with
      | true =>
        rw [g3] at O3
        have HV : Hid (chkC e c i p x l is = 22) := by show _ = _; unfold chkC; simp [g1, g2, g3]
        clear g1 g2 g3
        go_enter Try.func14, Try.ntmps14
        go_wp2_with fail
        refine (O1.out _).mono ?_
        rintro en w2 ⟨rfl, rfl⟩
        go_wp2_with fail
        refine (O2.out _).mono ?_
        rintro en w2 ⟨rfl, rfl⟩
        go_wp2_with fail
        refine (O3.out _).mono ?_
        rintro en w2 ⟨rfl, rfl⟩
        go_wp2
        go_ret
        exact ⟨by rw [HV.out]; rfl, HB.out⟩
      | false =>
        rw [g3] at O3
        obtain ⟨hp1, hp2⟩ := out_yes g3
        cases g4 : outB i 0 (p - 1) with
        | true =>
          rw [g4] at O4
          have HV : Hid (chkC e c i p x l is = 22) := by show _ = _; unfold chkC; simp [g1, g2, g3, g4]
          clear g1 g2 g3 g4
          go_enter Try.func14, Try.ntmps14
          go_wp2_with fail
          refine (O1.out _).mono ?_
          rintro en w2 ⟨rfl, rfl⟩
          go_wp2_with fail
          refine (O2.out _).mono ?_
          rintro en w2 ⟨rfl, rfl⟩
          go_wp2_with fail
          refine (O3.out _).mono ?_
          rintro en w2 ⟨rfl, rfl⟩
          go_wp2_with fail
          refine (O4.out _).mono ?_
          rintro en w2 ⟨rfl, rfl⟩
          go_wp2
          go_ret
          exact ⟨by rw [HV.out]; rfl, HB.out⟩
        | false =>
          rw [g4] at O4
          cases g5 : outB x 0 4095 with
          | true =>
            rw [g5] at O5
            have HV : Hid (chkC e c i p x l is = 22) := by show _ = _; unfold chkC; simp [g1, g2, g3, g4, g5]
            clear g1 g2 g3 g4 g5
            go_enter Try.func14, Try.ntmps14
            go_wp2_with fail
            refine (O1.out _).mono ?_
            rintro en w2 ⟨rfl, rfl⟩
            go_wp2_with fail
            refine (O2.out _).mono ?_
            rintro en w2 ⟨rfl, rfl⟩
            go_wp2_with fail
            refine (O3.out _).mono ?_
            rintro en w2 ⟨rfl, rfl⟩
            go_wp2_with fail
            refine (O4.out _).mono ?_
            rintro en w2 ⟨rfl, rfl⟩
            go_wp2_with fail
            refine (O5.out _).mono ?_
            rintro en w2 ⟨rfl, rfl⟩
            go_wp2
            go_ret
            exact ⟨by rw [HV.out]; rfl, HB.out⟩
          | false =>
            rw [g5] at O5
            cases g6 : l.any badF with
            | true =>
              rw [g6] at O6
              have HV : Hid (chkC e c i p x l is = 22) := by show _ = _; unfold chkC; simp [g1, g2, g3, g4, g5, g6]
              clear g1 g2 g3 g4 g5 g6
              go_enter Try.func14, Try.ntmps14
              go_wp2_with fail
              refine (O1.out _).mono ?_
              rintro en w2 ⟨rfl, rfl⟩
              go_wp2_with fail
              refine (O2.out _).mono ?_
              rintro en w2 ⟨rfl, rfl⟩
              go_wp2_with fail
              refine (O3.out _).mono ?_
              rintro en w2 ⟨rfl, rfl⟩
              go_wp2_with fail
              refine (O4.out _).mono ?_
              rintro en w2 ⟨rfl, rfl⟩
              go_wp2_with fail
              refine (O5.out _).mono ?_
              rintro en w2 ⟨rfl, rfl⟩
              go_wp2_with fail
              refine (O6.out _ HB.out).mono ?_
              rintro en w6 ⟨rfl, hb6⟩
              have HB6 := Lib.hid (HB.out.trans (hb6.mono HB.out.size))
              have HX6 := Lib.hid (HX.out.later hb6)
              have c6 := HX6.out.cell 6
              simp at c6
              clear hb6
              go_wp2
              go_ret
              exact ⟨by rw [HV.out]; rfl, HB6.out⟩
            | false =>
              rw [g6] at O6
              cases g7 : is.any badI with
              | true =>
                rw [g7] at O7
                have HV : Hid (chkC e c i p x l is = 22) := by show _ = _; unfold chkC; simp [g1, g2, g3, g4, g5, g6, g7]
                clear g1 g2 g3 g4 g5 g6 g7
                go_enter Try.func14, Try.ntmps14
                go_wp2_with fail
                refine (O1.out _).mono ?_
                rintro en w2 ⟨rfl, rfl⟩
                go_wp2_with fail
                refine (O2.out _).mono ?_
                rintro en w2 ⟨rfl, rfl⟩
                go_wp2_with fail
                refine (O3.out _).mono ?_
                rintro en w2 ⟨rfl, rfl⟩
                go_wp2_with fail
                refine (O4.out _).mono ?_
                rintro en w2 ⟨rfl, rfl⟩
                go_wp2_with fail
                refine (O5.out _).mono ?_
                rintro en w2 ⟨rfl, rfl⟩
                go_wp2_with fail
                refine (O6.out _ HB.out).mono ?_
                rintro en w6 ⟨rfl, hb6⟩
                have HB6 := Lib.hid (HB.out.trans (hb6.mono HB.out.size))
                have HX6 := Lib.hid (HX.out.later hb6)
                have c6 := HX6.out.cell 6
                simp at c6
                clear hb6
                go_wp2_with fail
                refine (O7.out _ HB6.out).mono ?_
                rintro en w7 ⟨rfl, hb7⟩
                have HB7 := Lib.hid (HB6.out.trans (hb7.mono HB6.out.size))
                have HX7 := Lib.hid (HX6.out.later hb7)
                clear hb7 c6
                have d0 := HX7.out.cell 0
                have d1 := HX7.out.cell 1
                have d2 := HX7.out.cell 2
                have d3 := HX7.out.cell 3
                have d4 := HX7.out.cell 4
                have d5 := HX7.out.cell 5
                have d6 := HX7.out.cell 6
                simp at d0 d1 d2 d3 d4 d5 d6
                go_wp2
                go_ret
                exact ⟨by rw [HV.out]; rfl, HB7.out⟩
              | false =>
                rw [g7] at O7
                by_cases g8 : 88 < 10 + inn + szF l
                · have j8 : (88 : Int) < ((10 + inn + szF l : Nat) : Int) := by omega
                  have HV : Hid (chkC e c i p x l is = 27) := by show _ = _; unfold chkC; rw [← HIn.out]; simp only [g1, g2, g3, g4, g5, g6, g7, if_pos g8]; rfl
                  clear g8
                  clear g1 g2 g3 g4 g5 g6 g7
                  go_enter Try.func14, Try.ntmps14
                  go_wp2_with fail
                  refine (O1.out _).mono ?_
                  rintro en w2 ⟨rfl, rfl⟩
                  go_wp2_with fail
                  refine (O2.out _).mono ?_
                  rintro en w2 ⟨rfl, rfl⟩
                  go_wp2_with fail
                  refine (O3.out _).mono ?_
                  rintro en w2 ⟨rfl, rfl⟩
                  go_wp2_with fail
                  refine (O4.out _).mono ?_
                  rintro en w2 ⟨rfl, rfl⟩
                  go_wp2_with fail
                  refine (O5.out _).mono ?_
                  rintro en w2 ⟨rfl, rfl⟩
                  go_wp2_with fail
                  refine (O6.out _ HB.out).mono ?_
                  rintro en w6 ⟨rfl, hb6⟩
                  have HB6 := Lib.hid (HB.out.trans (hb6.mono HB.out.size))
                  have HX6 := Lib.hid (HX.out.later hb6)
                  have c6 := HX6.out.cell 6
                  simp at c6
                  clear hb6
                  go_wp2_with fail
                  refine (O7.out _ HB6.out).mono ?_
                  rintro en w7 ⟨rfl, hb7⟩
                  have HB7 := Lib.hid (HB6.out.trans (hb7.mono HB6.out.size))
                  have HX7 := Lib.hid (HX6.out.later hb7)
                  clear hb7 c6
                  have d0 := HX7.out.cell 0
                  have d1 := HX7.out.cell 1
                  have d2 := HX7.out.cell 2
                  have d3 := HX7.out.cell 3
                  have d4 := HX7.out.cell 4
                  have d5 := HX7.out.cell 5
                  have d6 := HX7.out.cell 6
                  simp at d0 d1 d2 d3 d4 d5 d6
                  go_wp2_with fail
                  refine (O8.out _ HB7.out).mono ?_
                  rintro en w8 ⟨rfl, hb8⟩
                  have HB8 := Lib.hid (HB7.out.trans (hb8.mono HB7.out.size))
                  clear hb8 d0 d1 d2 d3 d4 d5 d6
                  go_wp2
                  go_ret
                  exact ⟨by rw [HV.out]; rfl, HB8.out⟩
                · have j8 : ¬ (88 : Int) < ((10 + inn + szF l : Nat) : Int) := by omega
                  have HV : Hid (chkC e c i p x l is = 0) := by show _ = _; unfold chkC; rw [← HIn.out]; simp only [g1, g2, g3, g4, g5, g6, g7, if_neg g8]; rfl
                  clear g8
                  clear g1 g2 g3 g4 g5 g6 g7
                  go_enter Try.func14, Try.ntmps14
                  go_wp2_with fail
                  refine (O1.out _).mono ?_
                  rintro en w2 ⟨rfl, rfl⟩
                  go_wp2_with fail
                  refine (O2.out _).mono ?_
                  rintro en w2 ⟨rfl, rfl⟩
                  go_wp2_with fail
                  refine (O3.out _).mono ?_
                  rintro en w2 ⟨rfl, rfl⟩
                  go_wp2_with fail
                  refine (O4.out _).mono ?_
                  rintro en w2 ⟨rfl, rfl⟩
                  go_wp2_with fail
                  refine (O5.out _).mono ?_
                  rintro en w2 ⟨rfl, rfl⟩
                  go_wp2_with fail
                  refine (O6.out _ HB.out).mono ?_
                  rintro en w6 ⟨rfl, hb6⟩
                  have HB6 := Lib.hid (HB.out.trans (hb6.mono HB.out.size))
                  have HX6 := Lib.hid (HX.out.later hb6)
                  have c6 := HX6.out.cell 6
                  simp at c6
                  clear hb6
                  go_wp2_with fail
                  refine (O7.out _ HB6.out).mono ?_
                  rintro en w7 ⟨rfl, hb7⟩
                  have HB7 := Lib.hid (HB6.out.trans (hb7.mono HB6.out.size))
                  have HX7 := Lib.hid (HX6.out.later hb7)
                  clear hb7 c6
                  have d0 := HX7.out.cell 0
                  have d1 := HX7.out.cell 1
                  have d2 := HX7.out.cell 2
                  have d3 := HX7.out.cell 3
                  have d4 := HX7.out.cell 4
                  have d5 := HX7.out.cell 5
                  have d6 := HX7.out.cell 6
                  simp at d0 d1 d2 d3 d4 d5 d6
                  go_wp2_with fail
                  refine (O8.out _ HB7.out).mono ?_
                  rintro en w8 ⟨rfl, hb8⟩
                  have HB8 := Lib.hid (HB7.out.trans (hb8.mono HB7.out.size))
                  clear hb8 d0 d1 d2 d3 d4 d5 d6
                  go_wp2
                  go_ret
                  exact ⟨by rw [HV.out]; rfl, HB8.out⟩
end
end Go.Proofs.Ytkdjfhbdcfjnnaa
