/-
  PackPlans.
-/
import Derived.Test.YtonlhkhjdnaojaaPdBoth
import Derived.Test.YtonlhkhjdnaojaaPcIn
import Derived.Test.YtonlhkhjdnaojaaPdMu
namespace Go.Proofs.Ytonlhkhjdnaojaa
open Go.RowKit

set_option maxRecDepth 100000 in
set_option maxHeartbeats 16000000 in
theorem packPlans_any (w : World) (fs : List Fi) (is : List Int) (fa : Option Addr) (fn fc : Nat) (ia : Option Addr) (inn ic : Nat) (left size : Int) (hF : Fis w fa fs) (hI : Ints w ia is) (hn : fn = fs.length) (hin : inn = is.length) (hx1 : fn ≤ 9223372036854775807) (hx2 : inn ≤ 9223372036854775807) (hfl : ∀ x ∈ fs, x.lb.length ≤ 9223372036854775807) (hN1 : FisN w fa fs) (hN2 : ia = none → inn = 0 ∧ ic = 0) :
    Calls Try.prog 3 #[.slice fa fn fc, .slice ia inn ic, .agg #[.int .i64 left, .int .i64 size]] w fun e w' => e = .returned (.bool true) ∧ Below w.heap.size w w' := by
  have hb0 := sup_pc w (.cells #[.int .i64 left, .int .i64 size] 24)
  have HAw := Lib.hid (fun W => awake_any W)
  have HFe := Lib.hid (fun W (hW : Below w.heap.size w W) => few_any fa fn fc ia inn ic (hF.later hW) hn hin hx1 hx2 hfl)
  have HT := Lib.hid (show TwR w fs is fa ia _ from ⟨hF.later hb0, hI.below hb0, hb0⟩)
  have HPl := Lib.hid (blo_laid w 24 #[.int .i64 left, .int .i64 size])
  cases hfe : fewB fs is with
  | false =>
    rw [hfe] at HFe
    have HB0 := Lib.hid hb0
    clear hF hI hn hin hfl hfe HT hb0 HPl
    go_enter Try.func3, Try.ntmps3
    go_wp2_with fail
    refine (HAw.out _).mono ?_
    rintro e w1 ⟨rfl, hb1⟩
    have HB1 := Lib.hid (HB0.out.trans (hb1.mono HB0.out.size))
    have HF1 := Lib.hid (HFe.out w1 HB1.out)
    clear hb1 HFe HB0
    go_wp2_with fail
    refine HF1.out.mono ?_
    rintro e w2 ⟨rfl, hb2⟩
    have HB2 := Lib.hid (HB1.out.trans (hb2.mono HB1.out.size))
    clear hb2 HB1 HF1
    go_wp2_with fail
    refine (HAw.out _).mono ?_
    rintro e w3 ⟨rfl, hb3⟩
    have HB3 := Lib.hid (HB2.out.trans (hb3.mono HB2.out.size))
    clear hb3 HB2 HAw
    go_wp2
    go_ret
    exact ⟨rfl, HB3.out⟩
  | true =>
    rw [hfe] at HFe
    obtain ⟨bd1, bd2, bd3⟩ := few_bd hfe
    have hbl : blF fs ≤ 300 := by unfold fewB at hfe; rw [decide_eq_true_eq] at hfe; omega
    obtain ⟨r, code, hK, hP, hRp⟩ := both_plans fs is left size
    have HK := Lib.hid hK
    have HPp := Lib.hid hP
    have HRp := Lib.hid hRp
    have HN := Lib.hid hn
    have HIn := Lib.hid hin
    have HBd := Lib.hid bd3
    have HBlf := Lib.hid hbl
    have HF0 := Lib.hid hF
    have HN1 := Lib.hid hN1
    have HN2 := Lib.hid hN2
    have hn3 : fn ≤ 300 := by omega
    have hi3 : inn ≤ 300 := by omega
    clear hF hI hn hin hfl hfe bd1 bd2 bd3 hb0 hK hP hRp hbl hN1 hN2
    go_enter Try.func3, Try.ntmps3
    go_wp2_with fail
    refine (HAw.out _).mono ?_
    rintro e w1 ⟨rfl, hb1⟩
    have HT1 := Lib.hid (HT.out.later hb1)
    have HF1 := Lib.hid (HFe.out w1 HT1.out.below)
    have HP1 := Lib.hid (HPl.out.later hb1)
    clear hb1 HAw HFe HT HPl
    go_wp2_with fail
    refine HF1.out.mono ?_
    rintro e w2 ⟨rfl, hb2⟩
    have HT2 := Lib.hid (HT1.out.later hb2)
    have HP2 := Lib.hid (HP1.out.later hb2)
    have HOw := Lib.hid (own_any 0 0 0 0 0 fa fn fc ia inn ic HT2.out.f HT2.out.i HN.out HIn.out (by omega) (by omega) (fun x hx => Nat.le_trans (HBd.out x hx) (by decide)) (HN1.out.later HF0.out HT2.out.below) HN2.out)
    clear hb2 HT1 HF1 HP1
    go_wp2_with fail
    refine HOw.out.mono ?_
    rintro e w3 ⟨fb, fd, ib, id, rfl, hFb, hIb, hb3⟩
    have HT3 := Lib.hid (HT2.out.later hb3)
    have HP3 := Lib.hid (HP2.out.later hb3)
    have HFb := Lib.hid hFb
    have HIb := Lib.hid hIb
    clear hFb hIb hb3 HOw HT2 HP2
    go_upto_region 4 with (fail)
    have hb4 := sup_pc w3 (.cells #[.int .i64 0, .int .i64 0, .int .i64 0, .int .i64 0, .int .i64 0, .slice fb fn fd, .slice ib inn id] PTY)
    have HT4 := Lib.hid (HT3.out.later hb4)
    have HP4 := Lib.hid (HP3.out.later hb4)
    have HFb4 := Lib.hid (HFb.out.later hb4)
    have HIb4 := Lib.hid (HIb.out.below hb4)
    have HG4 := Lib.hid (blo_laid w3 PTY #[.int .i64 0, .int .i64 0, .int .i64 0, .int .i64 0, .int .i64 0, .slice fb fn fd, .slice ib inn id])
    clear hb4 HT3 HP3 HFb HIb
    generalize w3.alloc (.cells #[.int .i64 0, .int .i64 0, .int .i64 0, .int .i64 0, .int .i64 0, .slice fb fn fd, .slice ib inn id] PTY) = w4 at *
    generalize w3.heap.size = b3 at *
    have g5 := HG4.out.cell 5
    have g6 := HG4.out.cell 6
    have p0 := HP4.out.cell 0
    have p1 := HP4.out.cell 1
    simp at g5 g6 p0 p1
    have HC := Lib.hid (HPp.out w4 fb fn fd ib inn id HFb4.out HN.out hn3 HBd.out HIb4.out HIn.out hi3)
    obtain ⟨N, hN⟩ : ∃ N, resN r = N := ⟨_, rfl⟩
    have hN64 : N ≤ 64 := by
      rw [← hN]
      cases hr : r with
      | none => exact Nat.zero_le _
      | some s => exact (HK.out s hr).n64
    have HNr := Lib.hid hN
    rw [hN] at HC
    have HRc := HRp
    have KT := HT4
    have KF := HFb4
    have KI := HIb4
    have KG := HG4
    clear HPp hN HRp
    go_wp2_with fail
    refine HC.out.mono ?_
    rintro e w5 ⟨pv, fv, av, rfl, hPm, hb5⟩
    obtain ⟨pa, pc, rfl, -⟩ := own_slice hPm.row
    have HPm := Lib.hid hPm
    have HT5 := Lib.hid (HT4.out.later hb5)
    have HP5 := Lib.hid (HP4.out.later hb5)
    have HG5 := Lib.hid (HG4.out.later hb5)
    have HFb5 := Lib.hid (HFb4.out.later hb5)
    have HIb5 := Lib.hid (HIb4.out.below hb5)
    have HB5 := Lib.hid hb5
    have p2 := HP5.out.cell 0
    have p3 := HP5.out.cell 1
    simp at p2 p3
    have HC2 := Lib.hid (HRc.out w5 fa fn fc ia inn ic HT5.out.f HN.out hn3 HBlf.out HT5.out.i HIn.out hi3)
    rw [HNr.out] at HC2
    clear hPm hb5 HC HRc HT4 HP4 HG4 HFb4 HIb4 g5 g6 p0 p1
    go_wp2_with fail
    refine HC2.out.mono ?_
    rintro e w6 ⟨qv, sv, rfl, hRm, hb6⟩
    obtain ⟨qa, qc, rfl, -⟩ := own_slice hRm.row
    have HRm := Lib.hid hRm
    have HPm6 := Lib.hid (HPm.out.later hb6)
    have HT6 := Lib.hid (HT5.out.later hb6)
    have HG6 := Lib.hid (HG5.out.later hb6)
    have HFb6 := Lib.hid (HFb5.out.later hb6)
    have HIb6 := Lib.hid (HIb5.out.below hb6)
    have HB6 := Lib.hid (HB5.out.trans (hb6.mono HB5.out.size))
    have g0 := HG6.out.cell 0
    have g1 := HG6.out.cell 1
    have g2 := HG6.out.cell 2
    have g3 := HG6.out.cell 3
    have g4 := HG6.out.cell 4
    have g5 := HG6.out.cell 5
    have g6 := HG6.out.cell 6
    simp at g0 g1 g2 g3 g4 g5 g6
    have HSm := Lib.hid (fun W (hW : Below w6.heap.size w6 W) => same_yes fb fa fn fd fc ib ia inn id ic (HFb6.out.later hW) (HT6.out.f.later hW) HN.out (by omega) (fun x hx => Nat.le_trans (HBd.out x hx) (by decide)) (HIb6.out.below hW) (HT6.out.i.below hW) HIn.out (by omega))
    have e0 : (code != code) = false := by simp
    have e1 : ((N : Int) != (N : Int)) = false := by simp
    clear hRm hb6 HC2 HT5 HP5 HG5 HFb5 HIb5 HB5 HPm p2 p3
    go_wp2_with fail
    refine (HSm.out w6 (Below.refl _ _)).mono ?_
    rintro e w7 ⟨rfl, hb7⟩
    have HPm7 := Lib.hid (HPm6.out.later hb7)
    have HRm7 := Lib.hid (HRm.out.later hb7)
    have HT7 := Lib.hid (HT6.out.later hb7)
    have HFb7 := Lib.hid (HFb6.out.later hb7)
    have HIb7 := Lib.hid (HIb6.out.below hb7)
    have HB7 := Lib.hid (HB6.out.trans (hb7.mono HB6.out.size))
    have HG7 := Lib.hid (HG6.out.later hb7)
    clear hb7 HSm HRm HPm6 HT6 HFb6 HIb6 HB6 HG6 g0 g1 g2 g3 g4 g5 g6 e0 e1
    go_wp2_with fail
    go_loopw [72] (fun t wr => ∃ k : Nat, k ≤ N ∧ t = .int .i64 k ∧ Below w7.heap.size w7 wr) (fun t _ => N - (intOf t).toNat)
    case atStart => exact ⟨0, Nat.zero_le _, rfl, Below.refl _ _⟩
    case round =>
      obtain ⟨k, hk, rfl, hB⟩ := hrel
      by_cases hlt : k < N
      · obtain ⟨s, hs⟩ : ∃ s, r = some s := by
          cases hr : r with
          | none => have := HNr.out; rw [hr] at this; have e : (0 : Nat) = N := this; omega
          | some s => exact ⟨s, rfl⟩
        have hKs := HK.out s hs
        have hNs : s.N = N := by have := HNr.out; rw [hs] at this; exact this
        have hpm := HPm7.out.later hB
        have hrm := HRm7.out.later hB
        obtain ⟨g, cap, e1, -, -, -, q1, q2, q3⟩ := hpm.piece hlt
        obtain ⟨f1, fc1, i1, ic1, e2, e3, hf1, hi1⟩ := hpm.reads hlt
        obtain ⟨g2, cap2, a2, c2', e4, -, e5, -, ht2, q4, q5, -⟩ := hrm.piece hlt
        rw [e2] at q2
        rw [e3] at q3
        rw [e5] at q5
        cases e1
        cases e4
        have hsame : ∀ y : Kept wr, Calls Try.prog 14 #[pcV (resW r k) f1 (bs (resT r k)).z.nf fc1 i1 ((bs (resT r k)).z.li 0).length ic1, rpV (resW r k) a2 (resT r k).length c2', .slice fa fn fc] y.at_ fun e w' => e = .returned (.bool true) ∧ Below y.at_.heap.size y.at_ w' := fun y => by
          have hby := hB.trans (y.below.mono hB.size)
          have hf2 := hf1.later y.below
          have hi2 := hi1.below y.below
          have ht3 := ht2.later y.below
          rw [hs] at hf2 hi2 ht3 ⊢
          exact same_piece hKs (by omega) hf2 rfl hi2 rfl ht3 rfl (HT7.out.later hby).f HN.out hn3
        have HSa := Lib.hid hsame
        generalize (bs (resT r k)).z.nf = n1 at *
        generalize ((bs (resT r k)).z.li 0).length = n2 at *
        generalize (resT r k).length = n3 at *
        generalize resW r k = nb at *
        have c1 : ∀ z : Kept wr, z.at_.cell? ⟨g, k * 3, none⟩ = some (.bool nb) := fun z => cell_later z.below q1
        have c2 : ∀ z : Kept wr, z.at_.cell? ⟨g, k * 3 + 1, none⟩ = some (.slice f1 n1 fc1) := fun z => cell_later z.below q2
        have c3 : ∀ z : Kept wr, z.at_.cell? ⟨g, k * 3 + 2, none⟩ = some (.slice i1 n2 ic1) := fun z => cell_later z.below q3
        have c4 : ∀ z : Kept wr, z.at_.cell? ⟨g2, k * 2, none⟩ = some (.bool nb) := fun z => cell_later z.below q4
        have c5 : ∀ z : Kept wr, z.at_.cell? ⟨g2, k * 2 + 1, none⟩ = some (.slice a2 n3 c2') := fun z => cell_later z.below q5
        have HBw := Lib.hid hB
        have k0 : (0 : Int) ≤ (k : Int) := by omega
        have k1 : (k : Int) < (N : Int) := by omega
        clear hB hsame hpm hrm hf1 hi1 ht2 hKs hs hNs q1 q2 q3 q4 q5 e2 e3 e5
        go_upto_region 11 with (fail)
        refine wp_region_kept (by kernel_rfl) (by kernel_rfl) ?_
        repeat (go_big_quiet_step ((go_at_call 14; with_reducible exact kept_call _ (HSa.out _))))
        refine wpQuiet_nil ?_
        rintro W ⟨wz, rfl⟩
        have HB8 := Lib.hid (HBw.out.trans (wz.below.mono HBw.out.size))
        clear c1 c2 c3 c4 c5 HSa HBw
        go_wp2_with fail
        go_roundw
        case rel => exact ⟨k + 1, by omega, by simp, HB8.out⟩
        case measure => simp [intOf]; omega
      · have k1 : ¬ (k : Int) < (N : Int) := by omega
        have HPm8 := Lib.hid (HPm7.out.later hB)
        have HT8 := Lib.hid (HT7.out.later hB)
        have HFb8 := Lib.hid (HFb7.out.later hB)
        have HIb8 := Lib.hid (HIb7.out.below hB)
        have HB8 := Lib.hid (HB7.out.trans (hB.mono HB7.out.size))
        have HG8 := Lib.hid (HG7.out.later hB)
        clear hB HPm7 HRm7 HFb7 HIb7 HB7 HG7
        obtain ⟨Z0, hZ0⟩ : ∃ Z0, (fun i => (bs (resT r i)).z) = Z0 := ⟨_, rfl⟩
        have hzb : ∀ i, i < N → ((fun i => (bs (resT r i)).z) i).nf ≤ 64 ∧ ∀ k, (((fun i => (bs (resT r i)).z) i).li k).length ≤ 64 := fun i hi => by
          cases hr : r with
          | none => have := HNr.out; rw [hr] at this; have e : (0 : Nat) = N := this; omega
          | some s =>
            have hKs := HK.out s hr
            have hNs : s.N = N := by have := HNr.out; rw [hr] at this; exact this
            have hf := hKs.few i (by omega)
            have hb := bs_ok (s.it i)
            have hn := bs_n (s.it i)
            have h1 := hb.nf
            have h2 := hb.li
            exact ⟨by show (bs (s.it i)).z.nf ≤ 64; omega, fun k => by have := h2 k; show ((bs (s.it i)).z.li k).length ≤ 64; omega⟩
        rw [hZ0] at HPm8 hzb
        have HZb := Lib.hid hzb
        have HM := Lib.hid (show MuR w4 (.slice pa N pc) fv av (inoOf fs) (verOf fs) N (resW r) Z0 wr from ⟨Z0, HPm8.out, SameLen.refl _, HB8.out⟩)
        clear hZ0 hzb HPm8 HT8 HFb8 HIb8 HB8 HG8 HT7
        go_wp2_with fail
        go_loopw [89] (fun t wr => ∃ i : Nat, i ≤ N ∧ t = .int .i64 i ∧ MuR w4 (.slice pa N pc) fv av (inoOf fs) (verOf fs) N (resW r) Z0 wr) (fun t _ => N - (intOf t).toNat)
        case atStart => exact ⟨0, Nat.zero_le _, rfl, HM.out⟩
        case round =>
          clear HM k1
          obtain ⟨i, hi, rfl, hM⟩ := hrel
          by_cases hli : i < N
          · have HM := Lib.hid hM
            obtain ⟨g, cap, f1, fc1, i1, ic1, e1, e2, e3, q2, q3⟩ := hM.get hli
            cases e1
            rw [e2] at q2
            have k0 : (0 : Int) ≤ (i : Int) := by omega
            have k1 : (i : Int) < (N : Int) := by omega
            obtain ⟨n1, hn1⟩ : ∃ n1, (Z0 i).nf = n1 := ⟨_, rfl⟩
            have hn64' : n1 ≤ 64 := by rw [← hn1]; exact (HZb.out i hli).1
            rw [hn1] at q2
            have HE2 := Lib.hid e2
            have HN1' := Lib.hid hn1
            clear hM e2 e3 q3 hn1
            go_wp2_with fail
            clear q2
            go_loopw [98] (fun t wr => ∃ k : Nat, k ≤ n1 ∧ t = .int .i64 k ∧ MuR w4 (.slice (some ⟨g, 0, none⟩) N pc) fv av (inoOf fs) (verOf fs) N (resW r) Z0 wr) (fun t _ => n1 - (intOf t).toNat)
            case atStart => exact ⟨0, Nat.zero_le _, rfl, HM.out⟩
            case round =>
              clear HM
              obtain ⟨k, hk, rfl, hM⟩ := hrel
              obtain ⟨gQ, capQ, f1Q, fc1Q, i1Q, ic1Q, e1, e2, e3, q2, q3⟩ := hM.get hli
              cases e1
              have HM := Lib.hid hM
              by_cases hlk : k < n1
              · obtain ⟨gf, cf, a2, c2, e4, e5, q4⟩ := hM.file hli (k := k) (by rw [HN1'.out]; exact hlk)
                rw [HN1'.out] at e4
                rw [e4] at q2
                obtain ⟨m, hm⟩ : ∃ m, ((Z0 i).li (k + 1)).length = m := ⟨_, rfl⟩
                have hm64 : m ≤ 64 := by rw [← hm]; exact (HZb.out i hli).2 _
                rw [hm] at e5
                rw [e5] at q4
                have HE4 := Lib.hid e4
                have HE5 := Lib.hid e5
                have HMm := Lib.hid hm
                have z0 : (0 : Int) ≤ (k : Int) := by omega
                have z1 : (k : Int) < (n1 : Int) := by omega
                clear hM e2 e3 e4 e5 q3 hm HE2
                go_wp2_with fail
                clear q2 q4
                go_loopw [111] (fun t wr => ∃ j : Nat, j ≤ m ∧ t = .int .i64 j ∧ MuR w4 (.slice (some ⟨g, 0, none⟩) N pc) fv av (inoOf fs) (verOf fs) N (resW r) Z0 wr) (fun t _ => m - (intOf t).toNat)
                case atStart => exact ⟨0, Nat.zero_le _, rfl, HM.out⟩
                case round =>
                  clear HM
                  obtain ⟨j, hj, rfl, hM⟩ := hrel
                  have HM := Lib.hid hM
                  by_cases hlj : j < m
                  · obtain ⟨gR, capR, f1R, fc1R, i1R, ic1R, e1, e2, e3, q2, q3⟩ := hM.get hli
                    cases e1
                    rw [HE4.out] at q2
                    obtain ⟨gf2, cf2, a22, c22, e4, e5, q4⟩ := hM.file hli (k := k) (by rw [HN1'.out]; exact hlk)
                    rw [HN1'.out, HE4.out] at e4
                    cases e4
                    obtain ⟨g3, c3, y, e6, q5, q6, q7⟩ := hM.num hli (k := k + 1) (j := j) (by rw [HN1'.out]; omega) (by rw [HMm.out]; exact hlj)
                    rw [HMm.out, HE5.out] at e6
                    cases e6
                    rw [HE5.out] at q4
                    have HNum := Lib.hid q7
                    have x0 : (0 : Int) ≤ (j : Int) := by omega
                    have x1 : (j : Int) < (m : Int) := by omega
                    clear hM HM e2 e3 e5 q3 q7
                    go_wp2_with fail
                    go_roundw
                    case rel => exact ⟨j + 1, by omega, by simp, HNum.out _⟩
                    case measure => simp [intOf]; omega
                  · have x1 : ¬ (j : Int) < (m : Int) := by omega
                    clear hM
                    go_wp2_with fail
                    go_roundw
                    case rel => exact ⟨k + 1, by omega, by simp, HM.out⟩
                    case measure => simp [intOf]; omega
              · have z1 : ¬ (k : Int) < (n1 : Int) := by omega
                obtain ⟨m, hm⟩ : ∃ m, ((Z0 i).li 0).length = m := ⟨_, rfl⟩
                have hm64 : m ≤ 64 := by rw [← hm]; exact (HZb.out i hli).2 _
                rw [hm] at e3
                rw [e3] at q3
                have HE3 := Lib.hid e3
                have HMm := Lib.hid hm
                clear hM e2 e3 q2 hm HE2
                go_wp2_with fail
                clear q3
                go_loopw [136] (fun t wr => ∃ j : Nat, j ≤ m ∧ t = .int .i64 j ∧ MuR w4 (.slice (some ⟨g, 0, none⟩) N pc) fv av (inoOf fs) (verOf fs) N (resW r) Z0 wr) (fun t _ => m - (intOf t).toNat)
                case atStart => exact ⟨0, Nat.zero_le _, rfl, HM.out⟩
                case round =>
                  clear HM
                  obtain ⟨j, hj, rfl, hM⟩ := hrel
                  have HM := Lib.hid hM
                  by_cases hlj : j < m
                  · obtain ⟨gR, capR, f1R, fc1R, i1R, ic1R, e1, e2, e3, q2, q3⟩ := hM.get hli
                    cases e1
                    rw [HE3.out] at q3
                    obtain ⟨g3, c3, y, e6, q5, q6, q7⟩ := hM.num hli (k := 0) (j := j) (Nat.zero_le _) (by rw [HMm.out]; exact hlj)
                    rw [HMm.out, HE3.out] at e6
                    cases e6
                    have HNum := Lib.hid q7
                    have x0 : (0 : Int) ≤ (j : Int) := by omega
                    have x1 : (j : Int) < (m : Int) := by omega
                    clear hM HM e2 e3 q2 q7
                    go_wp2_with fail
                    go_roundw
                    case rel => exact ⟨j + 1, by omega, by simp, HNum.out _⟩
                    case measure => simp [intOf]; omega
                  · have x1 : ¬ (j : Int) < (m : Int) := by omega
                    clear hM
                    go_wp2_with fail
                    go_roundw
                    case rel => exact ⟨i + 1, by omega, by simp, HM.out⟩
                    case measure => simp [intOf]; omega
          · have k1 : ¬ (i : Int) < (N : Int) := by omega
            obtain ⟨Z, -, -, hB⟩ := hM
            have HB := Lib.hid hB
            have HG9 := KG.out.later hB
            have g0 := HG9.cell 0
            have g1 := HG9.cell 1
            have g2 := HG9.cell 2
            have g3 := HG9.cell 3
            have g4 := HG9.cell 4
            have g5 := HG9.cell 5
            have g6 := HG9.cell 6
            simp at g0 g1 g2 g3 g4 g5 g6
            have HSm := Lib.hid (same_yes fb fa fn fd fc ib ia inn id ic (KF.out.later hB) (KT.out.f.later hB) HN.out (by omega) (fun x hx => Nat.le_trans (HBd.out x hx) (by decide)) (KI.out.below hB) (KT.out.i.below hB) HIn.out (by omega))
            have HBe := Lib.hid (KT.out.below.trans (hB.mono KT.out.below.size))
            clear hB HG9
            go_wp2_with fail
            refine HSm.out.mono ?_
            rintro e w9 ⟨rfl, hb9⟩
            have HB9 := Lib.hid (HBe.out.trans (hb9.mono HBe.out.size))
            clear hb9 HSm g0 g1 g2 g3 g4 g5 g6
            go_wp2
            go_ret
            exact ⟨rfl, HB9.out⟩
theorem packPlans_walk (fa : Option Addr) (fn fc : Nat) (fs : List Fi) (ia : Option Addr) (inn ic : Nat) (is : List Int) (left size : Int) (w : World) (h1 : FinIn w fa fn fc fs) (h2 : IntsIn w ia inn ic is) (_ : True) :
    Calls Try.prog 3 #[.slice fa fn fc, .slice ia inn ic, .agg #[.int .i64 left, .int .i64 size]] w fun e w' => e = .returned (.bool true) ∧ Below w.heap.size w w' :=
  packPlans_any w fs is fa fn fc ia inn ic left size h1.fis h2.ints h1.leq h2.leq h1.lenm h2.lenm h1.lb h1.nils h2.nil
end Go.Proofs.Ytonlhkhjdnaojaa
