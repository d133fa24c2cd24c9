/-
  PackTwice.
-/
import Derived.Test.YtonlhkhjdnaojaaPcRes
import Derived.Test.YtonlhkhjdnaojaaKit
import Derived.Test.YtonlhkhjdnaojaaPcIn
namespace Go.Proofs.Ytonlhkhjdnaojaa
open Go.RowKit

theorem run_twice (sz left : Int) (h0 : left ≤ 2) (x : It) (r : List It) : runP sz (p0 left) (x :: r) = runP sz (p0 0) (x :: r) := by
  have e : pstep sz (p0 left) x = pstep sz (p0 0) x := by
    unfold pstep
    rw [if_neg (show ¬ fitsP (p0 left) x = true from fun h => by cases h), if_neg (show ¬ fitsP (p0 0) x = true from fun h => by cases h)]
    unfold pNext
    have l1 : left1 (p0 left) = left := rfl
    have l2 : left1 (p0 0) = 0 := rfl
    rw [l1, l2, if_pos (by omega), if_pos (by omega), decide_eq_true (show left < 3 by omega), decide_eq_true (show (0 : Int) < 3 by omega)]
    rfl
  rw [runP, runP, e]
theorem res_twice (sz left : Int) (h0 : left ≤ 2) (L : List It) : resN (runP sz (p0 left) L) = resN (runP sz (p0 0) L) ∧ resC (runP sz (p0 left) L) = resC (runP sz (p0 0) L) ∧ resW (runP sz (p0 left) L) = resW (runP sz (p0 0) L) ∧ resT (runP sz (p0 left) L) = resT (runP sz (p0 0) L) := by
  cases L with
  | nil => exact ⟨rfl, rfl, rfl, rfl⟩
  | cons x r => rw [run_twice sz left h0 x r]; exact ⟨rfl, rfl, rfl, rfl⟩
theorem first_new (sz : Int) (L : List It) (hN : 0 < resN (runP sz (p0 0) L)) : resW (runP sz (p0 0) L) 0 = true := by
  cases L with
  | nil => cases hN
  | cons x r =>
    cases hr : runP sz (p0 0) (x :: r) with
    | none => rw [hr] at hN; cases hN
    | some s =>
      rw [runP] at hr
      split at hr
      · have e : pstep sz (p0 0) x = pNext sz (p0 0) [x] := by
          unfold pstep
          rw [if_neg (show ¬ fitsP (p0 0) x = true from fun h => by cases h)]
        rw [e] at hr
        have := (runP_nw r hr 0 (Nat.one_pos)).2
        show s.nw 0 = true
        rw [this]
        rfl
      · cases hr
structure TwR (w : World) (fs : List Fi) (is : List Int) (fa ia : Option Addr) (wr : World) : Prop where
  f : Fis wr fa fs
  i : Ints wr ia is
  below : Below w.heap.size w wr
theorem TwR.later {w wr w' : World} {fs : List Fi} {is : List Int} {fa ia : Option Addr} (h : TwR w fs is fa ia wr) (hb : Below wr.heap.size wr w') : TwR w fs is fa ia w' := ⟨h.f.later hb, h.i.below hb, h.below.trans (hb.mono h.below.size)⟩
theorem few_bd {fs : List Fi} {is : List Int} (h : fewB fs is = true) : fs.length ≤ 300 ∧ is.length ≤ 300 ∧ (∀ x ∈ fs, x.lb.length ≤ 300) := by
  unfold fewB at h
  rw [decide_eq_true_eq] at h
  refine ⟨h.1, h.2.1, fun x hx => ?_⟩
  have h1 : x.lb.length ≤ blF fs := by
    unfold blF
    have : ∀ (l : List Nat) (y : Nat), y ∈ l → y ≤ l.sum := fun l y hy => by
      induction l with
      | nil => cases hy
      | cons a l ih =>
        rw [List.sum_cons]
        rcases List.mem_cons.1 hy with rfl | hy
        · omega
        · have := ih hy; omega
    exact this _ _ (List.mem_map.2 ⟨x, hx, rfl⟩)
  omega
set_option maxRecDepth 100000 in
set_option maxHeartbeats 8000000 in
theorem packTwice_any (w : World) (fs : List Fi) (is : List Int) (fa : Option Addr) (fn fc : Nat) (ia : Option Addr) (inn ic : Nat) (size : Int) (hF : Fis w fa fs) (hI : Ints w ia is) (hn : fn = fs.length) (hin : inn = is.length) (hx1 : fn ≤ 9223372036854775807) (hx2 : inn ≤ 9223372036854775807) (hfl : ∀ x ∈ fs, x.lb.length ≤ 9223372036854775807) :
    Calls Try.prog 7 #[.slice fa fn fc, .slice ia inn ic, .int .i64 size] w fun e w' => e = .returned (.bool true) ∧ Below w.heap.size w w' := by
  have HAw := Lib.hid (awake_any w)
  have HFe := Lib.hid (fun W (hW : Below w.heap.size w W) => few_any fa fn fc ia inn ic (hF.later hW) hn hin hx1 hx2 hfl)
  have HT := Lib.hid (show TwR w fs is fa ia w from ⟨hF, hI, Below.refl _ _⟩)
  cases hfe : fewB fs is with
  | false =>
    rw [hfe] at HFe
    clear hF hI hn hin hfl hfe HT
    go_enter Try.func7, Try.ntmps7
    go_wp2_with fail
    refine HAw.out.mono ?_
    rintro e w1 ⟨rfl, hb1⟩
    have HF1 := Lib.hid (HFe.out w1 hb1)
    have HB1 := Lib.hid hb1
    clear hb1 HAw HFe
    go_wp2_with fail
    refine HF1.out.mono ?_
    rintro e w2 ⟨rfl, hb2⟩
    have HB2 := Lib.hid (HB1.out.trans (hb2.mono HB1.out.size))
    have HA2 := Lib.hid (awake_any w2)
    clear hb2 HB1 HF1
    go_wp2_with fail
    refine HA2.out.mono ?_
    rintro e w3 ⟨rfl, hb3⟩
    have HB3 := Lib.hid (HB2.out.trans (hb3.mono HB2.out.size))
    clear hb3 HB2 HA2
    go_wp2
    go_ret
    exact ⟨rfl, HB3.out⟩
  | true =>
    rw [hfe] at HFe
    obtain ⟨bd1, bd2, bd3⟩ := few_bd hfe
    have HN := Lib.hid hn
    have HIn := Lib.hid hin
    have HBd := Lib.hid bd3
    have hn3 : fn ≤ 300 := by omega
    have hi3 : inn ≤ 300 := by omega
    obtain ⟨sz, hsz1, hsz2⟩ := cut_mod size 56 (by decide)
    simp at hsz2
    clear hF hI hn hin hfl hfe bd1 bd2 bd3
    go_enter Try.func7, Try.ntmps7
    go_wp2_with fail
    refine HAw.out.mono ?_
    rintro e w1 ⟨rfl, hb1⟩
    have HF1 := Lib.hid (HFe.out w1 hb1)
    have HT1 := Lib.hid (HT.out.later hb1)
    clear hb1 HAw HFe HT
    go_wp2_with fail
    refine HF1.out.mono ?_
    rintro e w2 ⟨rfl, hb2⟩
    have HT2 := Lib.hid (HT1.out.later hb2)
    clear hb2 HT1 HF1
    go_wp2_with fail
    clear hsz2
    go_loopw [7] (fun t wr => ∃ L : Nat, L ≤ 3 ∧ t = .int .i64 L ∧ TwR w fs is fa ia wr) (fun t _ => 3 - (intOf t).toNat)
    case atStart => exact ⟨0, by decide, rfl, HT2.out⟩
    case round =>
      clear HT2
      obtain ⟨L, hL, rfl, hR⟩ := hrel
      have HR := Lib.hid hR
      clear hR
      by_cases hlt : L < 3
      · have k1 : (L : Int) ≤ 2 := by omega
        have hbad : ¬ badP (L : Int) ((sz : Int) + 8) := by unfold badP; omega
        have hbad0 : ¬ badP 0 ((sz : Int) + 8) := by unfold badP; omega
        have HP1 := Lib.hid (fun W (h : TwR w fs is fa ia W) => plan_res (fc := fc) (ic := ic) fa fn ia inn (L : Int) ((sz : Int) + 8) hbad h.f HN.out (by omega) (fun x hx => Nat.le_trans (HBd.out x hx) (by decide)) h.i HIn.out (by omega))
        have HP2 := Lib.hid (fun W (h : TwR w fs is fa ia W) => plan_res (fc := fc) (ic := ic) fa fn ia inn 0 ((sz : Int) + 8) hbad0 h.f HN.out (by omega) (fun x hx => Nat.le_trans (HBd.out x hx) (by decide)) h.i HIn.out (by omega))
        obtain ⟨t1, t2, t3, t4⟩ := res_twice ((sz : Int) + 8) (L : Int) k1 (items fs is)
        have hfw := first_new ((sz : Int) + 8) (items fs is)
        have hfb := fun i => res_few hbad0 (L := items fs is) fs i
        have hN64 := resN_le hbad0 (items fs is)
        unfold PlanR at HP1 HP2
        obtain ⟨r1, hr1⟩ : ∃ r, runP ((sz : Int) + 8) (p0 (L : Int)) (items fs is) = r := ⟨_, rfl⟩
        obtain ⟨r2, hr2⟩ : ∃ r, runP ((sz : Int) + 8) (p0 0) (items fs is) = r := ⟨_, rfl⟩
        rw [hr1] at HP1 t1 t2 t3 t4
        rw [hr2] at HP2 t1 t2 t3 t4 hfw hfb hN64
        unfold resF resJ at HP1
        rw [t1, t2, t3, t4] at HP1
        have HFw := Lib.hid hfw
        have HFb := Lib.hid hfb
        obtain ⟨N, hN⟩ : ∃ N, resN r2 = N := ⟨_, rfl⟩
        obtain ⟨c, hc⟩ : ∃ c, resC r2 = c := ⟨_, rfl⟩
        rw [hN, hc] at HP1 HP2
        rw [hN] at HFw HFb hN64
        clear t1 t2 t3 t4 hfw hfb hbad hbad0 hr1 hr2 hN hc
        have HP := Lib.hid (HP1.out wr HR.out)
        clear HP1
        go_wp2_with fail
        refine HP.out.mono ?_
        rintro e w3 ⟨a1, c1, rfl, hno1, hp1, hb3⟩
        have HR3 := Lib.hid (HR.out.later hb3)
        have HA := Lib.hid hp1
        have HP' := Lib.hid (HP2.out w3 HR3.out)
        clear hp1 hb3 HR HP HP2 hno1
        go_wp2_with fail
        refine HP'.out.mono ?_
        rintro e w4 ⟨a2, c2, rfl, hno2, hp2, hb4⟩
        have HR4 := Lib.hid (HR3.out.later hb4)
        have HA4 := Lib.hid (HA.out.later hb4)
        have HB4 := Lib.hid hp2
        have e1 : (c != c) = false := by simp
        have e2 : ((N : Int) != (N : Int)) = false := by simp
        clear hp2 hb4 HR3 HA HP' hno2
        go_wp2_with fail
        go_loopw [58] (fun t wr => ∃ k : Nat, k ≤ N ∧ t = .int .i64 k ∧ TwR w fs is fa ia wr ∧ Pcs wr a1 N (resW r2) (resF fs r2) (resJ r2) ∧ Pcs wr a2 N (resW r2) (resF fs r2) (resJ r2)) (fun t _ => N - (intOf t).toNat)
        case atStart => exact ⟨0, Nat.zero_le _, rfl, HR4.out, HA4.out, HB4.out⟩
        case round =>
          clear HR4 HA4 HB4 e1 e2
          obtain ⟨k, hk, rfl, hR, hA, hB⟩ := hrel
          have HR := Lib.hid hR
          have HA := Lib.hid hA
          have HB := Lib.hid hB
          clear hR hA hB
          by_cases hlk : k < N
          · obtain ⟨b, o, fa1, fc1, ia1, ic1, rfl, p1, p2, p3, p4, p5, -, -⟩ := HA.out k hlk
            obtain ⟨b', o', fa2, fc2, ia2, ic2, rfl, q1, q2, q3, q4, q5, -, -⟩ := HB.out k hlk
            obtain ⟨f1, f2, f3, -⟩ := HFb.out k hlk
            have k0 : (0 : Int) ≤ (k : Int) := by omega
            have k1 : (k : Int) < (N : Int) := by omega
            obtain ⟨F, hF⟩ : ∃ F, resF fs r2 k = F := ⟨_, rfl⟩
            obtain ⟨J, hJ⟩ : ∃ J, resJ r2 k = J := ⟨_, rfl⟩
            obtain ⟨nb, hnb⟩ : ∃ nb, resW r2 k = nb := ⟨_, rfl⟩
            rw [hnb] at p1 q1
            simp only [hF] at p2 p4 q2 q4 f1 f2
            simp only [hJ] at p3 p5 q3 q5 f3
            have HS := Lib.hid (fun (y : Kept wr) => same_yes (w := y.at_) fa1 fa2 F.length fc1 fc2 ia1 ia2 J.length ic1 ic2 (p4.later y.below) (q4.later y.below) rfl (by omega) (fun x hx => Nat.le_trans (f2 x hx) (by decide)) (p5.below y.below) (q5.below y.below) rfl (by omega))
            have x1 : ∀ y : Kept wr, y.at_.cell? ⟨b, o + k * 3, none⟩ = some (.bool nb) := fun y => cell_later y.below p1
            have x2 : ∀ y : Kept wr, y.at_.cell? ⟨b, o + k * 3 + 1, none⟩ = some (.slice fa1 F.length fc1) := fun y => cell_later y.below p2
            have x3 : ∀ y : Kept wr, y.at_.cell? ⟨b, o + k * 3 + 2, none⟩ = some (.slice ia1 J.length ic1) := fun y => cell_later y.below p3
            have y1 : ∀ y : Kept wr, y.at_.cell? ⟨b', o' + k * 3, none⟩ = some (.bool nb) := fun y => cell_later y.below q1
            have y2 : ∀ y : Kept wr, y.at_.cell? ⟨b', o' + k * 3 + 1, none⟩ = some (.slice fa2 F.length fc2) := fun y => cell_later y.below q2
            have y3 : ∀ y : Kept wr, y.at_.cell? ⟨b', o' + k * 3 + 2, none⟩ = some (.slice ia2 J.length ic2) := fun y => cell_later y.below q3
            have eb : (nb != nb) = false := by simp
            clear p1 p2 p3 p4 p5 q1 q2 q3 q4 q5 f1 f2 f3 hF hJ hnb
            go_wp2_with fail
            refine wp_region_kept (by kernel_rfl) (by kernel_rfl) ?_
            repeat (go_big_quiet_step ((go_at_call 13; with_reducible exact kept_call _ (HS.out _))))
            refine wpQuiet_nil ?_
            rintro W ⟨wx, rfl⟩
            have HR5 := Lib.hid (HR.out.later wx.below)
            have HA5 := Lib.hid (HA.out.later wx.below)
            have HB5 := Lib.hid (HB.out.later wx.below)
            clear HR HA HB HS x1 x2 x3 y1 y2 y3 eb
            go_wp2_with fail
            go_roundw
            case rel => exact ⟨k + 1, by omega, by simp, HR5.out, HA5.out, HB5.out⟩
            case measure => simp [intOf]; omega
          · have k1 : ¬ (k : Int) < (N : Int) := by omega
            by_cases hN0 : 0 < N
            · obtain ⟨b, o, fa1, fc1, ia1, ic1, rfl, p1, -⟩ := HA.out 0 hN0
              rw [HFw.out hN0] at p1
              simp at p1
              have n1 : (0 : Int) < (N : Int) := by omega
              clear HA HB hk hlk
              go_wp2_with fail
              go_roundw
              case rel => exact ⟨L + 1, by omega, by simp, HR.out⟩
              case measure => simp [intOf]; omega
            · have n1 : ¬ (0 : Int) < (N : Int) := by omega
              clear HA HB hk hlk
              go_wp2_with fail
              go_roundw
              case rel => exact ⟨L + 1, by omega, by simp, HR.out⟩
              case measure => simp [intOf]; omega
      · have k1 : ¬ (L : Int) ≤ 2 := by omega
        have HB := Lib.hid HR.out.below
        clear HR
        go_wp2
        go_ret
        exact ⟨rfl, HB.out⟩
theorem packTwice_walk (fa : Option Addr) (fn fc : Nat) (fs : List Fi) (ia : Option Addr) (inn ic : Nat) (is : List Int) (size : Int) (w : World) (h1 : FinIn w fa fn fc fs) (h2 : IntsIn w ia inn ic is) (_ : (Lit.int .i64 size).wf = true) :
    Calls Try.prog 7 #[.slice fa fn fc, .slice ia inn ic, .int .i64 size] w fun e w' => e = .returned (.bool true) ∧ Below w.heap.size w w' :=
  packTwice_any w fs is fa fn fc ia inn ic size h1.fis h2.ints h1.leq h2.leq h1.lenm h2.lenm h1.lb
end Go.Proofs.Ytonlhkhjdnaojaa
