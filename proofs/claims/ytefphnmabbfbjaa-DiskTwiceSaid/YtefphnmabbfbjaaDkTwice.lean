/-
  The walk of DiskTwice.
-/
import Derived.Test.YtefphnmabbfbjaaDkPlays
import Derived.Test.YtefphnmabbfbjaaOpenPair
namespace Go.Proofs.Ytefphnmabbfbjaa
open Go.RowKit

abbrev A2T := 43
/-- What stands ahead of a round. -/
def TwR (w : World) (x y : Int) (t dv ov : Value) (bm : Nat) (wr : World) : Prop :=
  ∃ (k : Nat) (L : Dl) (d : Dm) (sa qa : Option Addr) (sc qc : Nat), k ≤ 40 ∧ t = .int .i64 k ∧ dv = .pointer (some ⟨L.bd, 0, none⟩) ∧ ov = .bool true ∧ Dk w.heap.size wr L d ∧ Mr wr sa qa sc qc d ∧ Sm k d ∧ d.n = 9 ∧ Blo wr bm RDT (agR sa qa sc qc d) ∧ Blo wr w.heap.size A2T #[.int .i64 x, .int .i64 y] ∧ Below w.heap.size w wr
def Tw2 (w : World) (La Lb : Dl) (da : Dm) (t : Value) (wr : World) : Prop :=
  ∃ k : Nat, k ≤ 9 ∧ t = .int .i64 k ∧ Dk w.heap.size wr La da ∧ Dk w.heap.size wr Lb (bareD da.n da.S da.S) ∧ Below w.heap.size w wr
theorem crash_bare (d : Dm) (k k' : List Bool) (t s t' s' : Int) : crashD (crashD d k t s) k' t' s' = bareD d.n (crashD d k t s).S (crashD d k t s).S := rfl
set_option maxRecDepth 100000 in
set_option maxHeartbeats 4000000 in
theorem diskTwice_walk (a : Option Addr) (len cap : Nat) (F : Nat → OpT) (a1 : Option Addr) (len1 cap1 : Nat) (keep : List Bool) (x y : Int) (w : World) (hops : Ops w a len F) (hkeep : IsBools w a1 len1 keep) (_ : True) :
    Calls Try.prog 7 #[.slice a len cap, .slice a1 len1 cap1, .agg #[.int .i64 x, .int .i64 y]] w fun e w' => e = .returned (.bool true) ∧ Below w.heap.size w w' := by
  have HAw := Lib.hid (fun W => awake_any W)
  have HOps := Lib.hid hops
  have HKl := Lib.hid hkeep.1
  have HKb := Lib.hid hkeep.2.2
  have hkm := hkeep.2.1
  have hlen := hops.1
  have hb0 : Below w.heap.size w (w.alloc (.cells #[.int .i64 x, .int .i64 y] A2T)) := (Below.refl _ _).alloc (Nat.le_refl _) _
  have HB0 := Lib.hid hb0
  have HA0 := Lib.hid (blo_laid w A2T #[.int .i64 x, .int .i64 y])
  clear hops hkeep hb0
  go_enter Try.func7, Try.ntmps7
  go_wp2_with fail
  generalize (w.alloc (.cells #[.int .i64 x, .int .i64 y] A2T)) = w00 at *
  refine (HAw.out w00).mono ?_
  rintro e w1 ⟨rfl, hb1⟩
  have HB1 := Lib.hid (HB0.out.trans (hb1.mono HB0.out.size))
  have HA1 := Lib.hid (HA0.out.later hb1)
  clear hb1 HAw HB0 HA0
  go_wp2_with fail
  refine (new_any 9 w1 (by omega) (by omega)).mono ?_
  rintro e w2 ⟨L, rfl, hD, hb⟩
  have HD := Lib.hid (hD.deeper HB1.out.size)
  have HB2 := Lib.hid (HB1.out.trans (hb.mono HB1.out.size))
  have HA2 := Lib.hid (HA1.out.later hb)
  clear hD hb HB1 HA1
  go_wp2_with fail
  refine (mnew_any 9 w2 (by omega) (by omega)).mono ?_
  rintro e w3 ⟨sa, qa, sc, qc, rfl, hM, hb3⟩
  unfold agR
  have HD3 := Lib.hid (HD.out.later hb3)
  have HM3 := Lib.hid hM
  have HB3 := Lib.hid (HB2.out.trans (hb3.mono HB2.out.size))
  have HA3 := Lib.hid (HA2.out.later hb3)
  clear hM hb3 HD HB2 HA2
  go_wp2_with fail
  have hal : Below w3.heap.size w3 (w3.alloc (.cells (agR sa qa sc qc (newD 9)) RDT)) := (Below.refl _ _).alloc (Nat.le_refl _) _
  have HSt : Hid (TwR w x y (.int .i64 0) (.pointer (some ⟨L.bd, 0, none⟩)) (.bool true) w3.heap.size (w3.alloc (.cells (agR sa qa sc qc (newD 9)) RDT))) :=
    ⟨0, L, newD 9, sa, qa, sc, qc, by decide, rfl, rfl, rfl, HD3.out.later hal, HM3.out.later hal, ⟨by simp [newD], by simp [newD], by simp [newD]⟩, rfl, blo_laid w3 RDT _, HA3.out.later hal, HB3.out.trans (hal.mono HB3.out.size)⟩
  have HBm : Hid (w.heap.size < w3.heap.size) := HA3.out.lt
  clear hal HD3 HM3 HB3 HA3
  go_loopw [7, 11, 12] (fun dv ov t wr => TwR w x y t dv ov w3.heap.size wr) (fun _ _ t _ => 40 - (intOf t).toNat)
  case atStart => exact HSt.out
  case round =>
    clear HSt
    obtain ⟨k, L, d, sa, qa, sc, qc, hk, rfl, rfl, rfl, hD, hM, hS, hn, hX, hA, hB⟩ := hrel
    have HD := Lib.hid hD
    have HM := Lib.hid hM
    have HS := Lib.hid hS
    have HX := Lib.hid hX
    have HA := Lib.hid hA
    have HB := Lib.hid hB
    have HN := Lib.hid hn
    clear hD hM hS hX hB hA hn
    have k0 : (0 : Int) ≤ (k : Int) := by omega
    by_cases hlt : k < 40 ∧ k < len
    · obtain ⟨hk60, hkl⟩ := hlt
      have k1 : (k : Int) < 40 := by omega
      have k2 : (k : Int) < (len : Int) := by omega
      have HKn : Hid (k < 40) := hk60
      obtain ⟨b, o, ba, bn, bc, ka, kn, kc, ha, hop, hcell⟩ := HOps.out.2 k hkl
      have HOp := Lib.hid hop
      have HHc := Lib.hid hcell
      clear hop hcell
      have HOps2 := HOps
      subst ha
      have hbd : Below wr.heap.size wr wr.drew := (Below.refl _ _).drew
      have HPl : Hid (Calls Try.prog 13 #[.pointer (some ⟨L.bd, 0, none⟩), .agg #[.slice sa d.n sc, .slice qa d.Q.length qc, .int .i64 d.steps, .int .i64 (lfD d)], .agg #[.int .i64 (F k).k, .int .i64 (F k).n, .int .i64 (F k).s, .slice ba bn bc, .bool (F k).raw, .slice ka kn kc]] wr.drew (PlayO w.heap.size L wr.drew (playD d (F k)))) :=
        play_any HB.out.drew HOp.out (HD.out.later hbd) (HM.out.later hbd) (HS.out.mono (by have := HKn.out; omega))
      have e0 : wr.cell? ⟨b, o + k * 6, none⟩ = some (.int .i64 (F k).k) := cell_later HB.out (HHc.out 0 _ rfl)
      have e1 : wr.cell? ⟨b, o + k * 6 + 1, none⟩ = some (.int .i64 (F k).n) := cell_later HB.out (HHc.out 1 _ rfl)
      have e2 : wr.cell? ⟨b, o + k * 6 + 2, none⟩ = some (.int .i64 (F k).s) := cell_later HB.out (HHc.out 2 _ rfl)
      have e3 : wr.cell? ⟨b, o + k * 6 + 3, none⟩ = some (.slice ba bn bc) := cell_later HB.out (HHc.out 3 _ rfl)
      have e4 : wr.cell? ⟨b, o + k * 6 + 4, none⟩ = some (.bool (F k).raw) := cell_later HB.out (HHc.out 4 _ rfl)
      have e5 : wr.cell? ⟨b, o + k * 6 + 5, none⟩ = some (.slice ka kn kc) := cell_later HB.out (HHc.out 5 _ rfl)
      have y0 := HX.out.cell 0
      have y1 := HX.out.cell 1
      have y2 := HX.out.cell 2
      have y3 := HX.out.cell 3
      simp [agR] at y0 y1 y2 y3
      have HXd := Lib.hid (HX.out.later hbd)
      have HNa : Hid (¬ L.has w.heap.size) := HD.out.apart HA.out (by decide) (by decide) (by decide)
      have HAd := Lib.hid (HA.out.later hbd)
      have HNo : Hid (¬ L.has w3.heap.size) := HD.out.apart HX.out (by decide) (by decide) (by decide)
      clear hbd
      go_wp2_with fail
      go_region_with ((go_at_call 13; (with_reducible refine HPl.out.mono ?_); rintro e W' ⟨L', sa', qa', sc', qc', rfl, hD', hM', hF'⟩; unfold agR; have HX' := Lib.hid (Out.blo hF' HXd.out HNo.out); have HD' := Lib.hid hD'; have HM' := Lib.hid hM'; have HF' := Lib.hid hF'; have z0 := HX'.out.cell 0; have z1 := HX'.out.cell 1; have z2 := HX'.out.cell 2; have z3 := HX'.out.cell 3; have f0 := HX'.out.frozen 0; have f1 := HX'.out.frozen 1; have f2 := HX'.out.frozen 2; have f3 := HX'.out.frozen 3; simp [agR] at z0 z1 z2 z3; clear hD' hM' hF'))
      all_goals
        have hso := put4_out W' w3.heap.size (.slice sa' (playD d (F k)).n sc') (.slice qa' (playD d (F k)).Q.length qc') (.int .i64 (playD d (F k)).steps) (.int .i64 (lfD (playD d (F k))))
        have HX5 : Hid (Blo (SetR W' w3.heap.size sa' qa' sc' qc' (playD d (F k))) w3.heap.size RDT (agR sa' qa' sc' qc' (playD d (F k)))) := put4_blo HX'.out _ _ _ _
        have HD5 : Hid (Dk w.heap.size (SetR W' w3.heap.size sa' qa' sc' qc' (playD d (F k))) L' (playD d (F k))) := HD'.out.out hso (fun i hi e => (HD'.out.apart HX'.out (by decide) (by decide) (by decide)) (by rw [← e]; exact hi))
        have HM5 : Hid (Mr (SetR W' w3.heap.size sa' qa' sc' qc' (playD d (F k))) sa' qa' sc' qc' (playD d (F k))) := HM'.out.out hso (fun g cs hb e => by
          subst e
          rcases hb with hb | hb
          · exact hb.apart HX'.out (by decide) rfl
          · exact hb.apart HX'.out (by decide) rfl)
        have HB5 : Hid (Below w.heap.size w (SetR W' w3.heap.size sa' qa' sc' qc' (playD d (F k)))) := (HB.out.drew.trans (Fr.below HF'.out (HD.out.later ((Below.refl _ _).drew)) HB.out.size)).trans (hso.below (Nat.le_trans HB.out.size HF'.out.size) (fun i _ e => by have := HBm.out; omega))
        have HS5 := Lib.hid (sm_play HS.out (F k))
        have HA5 : Hid (Blo (SetR W' w3.heap.size sa' qa' sc' qc' (playD d (F k))) w.heap.size A2T #[.int .i64 x, .int .i64 y]) := hso.blo (Out.blo HF'.out HAd.out HNa.out) (fun e => by have := HBm.out; omega)
        have HN5 : Hid ((playD d (F k)).n = 9) := (playD_n d (F k)).trans HN.out
        obtain ⟨W5, hw5⟩ : ∃ W5, SetR W' w3.heap.size sa' qa' sc' qc' (playD d (F k)) = W5 := ⟨_, rfl⟩
        rw [hw5] at HX5 HD5 HM5 HB5 HA5
        have hw6 : ((((W'.setCell ⟨w3.heap.size, 0, none⟩ (.slice sa' (playD d (F k)).n sc')).setCell ⟨w3.heap.size, 1, none⟩ (.slice qa' (playD d (F k)).Q.length qc')).setCell ⟨w3.heap.size, 2, none⟩ (.int .i64 (playD d (F k)).steps)).setCell ⟨w3.heap.size, 3, none⟩ (.int .i64 (lfD (playD d (F k))))) = W5 := hw5
        simp only [hw6]
        clear hw5 hw6 hso HX' HD' HM' HF' HXd HNo HX HD HM HB HS HPl HA HAd HNa HN z0 z1 z2 z3 f0 f1 f2 f3 y0 y1 y2 y3 e0 e1 e2 e3 e4 e5 HOp HHc
        generalize playD d (F k) = d' at *
        go_wp2_with fail
        go_roundw
        case rel => exact ⟨k + 1, L', d', sa', qa', sc', qc', HKn.out, by simp, rfl, rfl, HD5.out, HM5.out, HS5.out, HN5.out, HX5.out, HA5.out, HB5.out⟩
        case measure => simp [intOf]; have := HKn.out; omega
    · have c0 := HA.out.cell 0
      have c1 := HA.out.cell 1
      simp at c0 c1
      by_cases hkl : k < len
      · have k1 : ¬ (k : Int) < 40 := by omega
        have k2 : (k : Int) < (len : Int) := by omega
        clear hlt
        go_wp2_with fail
        refine (crash_any HD.out a1 keep len1 cap1 HKl.out hkm (HKb.out.below HB.out) x y).mono ?_
        rintro e w4 ⟨La, rfl, hDa, hb4⟩
        have HDa := Lib.hid (hDa.deeper HB.out.size)
        have HA4 := Lib.hid (HA.out.later hb4)
        have HB4 := Lib.hid (HB.out.trans (hb4.mono HB.out.size))
        clear hDa hb4 HA HB HD HM HS HX
        have c0 := HA4.out.cell 0
        have c1 := HA4.out.cell 1
        simp at c0 c1
        go_wp2_with fail
        refine (crash_any HDa.out a1 keep len1 cap1 HKl.out hkm (HKb.out.below HB4.out) y x).mono ?_
        rintro e w5 ⟨Lb, rfl, hDb, hb5⟩
        rw [crash_bare] at hDb
        have HDb : Hid (Dk w.heap.size w5 Lb (bareD (crashD d keep x y).n (crashD d keep x y).S (crashD d keep x y).S)) := hDb.deeper HB4.out.size
        have HDa5 := Lib.hid (HDa.out.later hb5)
        have HB5 := Lib.hid (HB4.out.trans (hb5.mono HB4.out.size))
        have HN9 : Hid ((crashD d keep x y).n = 9) := HN.out
        have HNS : Hid ((crashD d keep x y).N = (crashD d keep x y).S) := rfl
        clear hDb hb5 HA4 HB4 HDa HN c0 c1
        generalize crashD d keep x y = da at *
        go_wp2_with fail
        have HSt : Hid (Tw2 w La Lb da (.int .i64 0) w5) := ⟨0, by decide, rfl, HDa5.out, HDb.out, HB5.out⟩
        clear HDa5 HDb HB5
        go_loopw [15] (fun t wr => Tw2 w La Lb da t wr) (fun t _ => 9 - (intOf t).toNat)
        case atStart => exact HSt.out
        case round =>
          clear HSt
          obtain ⟨i, hi, rfl, hDa, hDb, hB⟩ := hrel
          have HDa := Lib.hid hDa
          have HDb := Lib.hid hDb
          have HB := Lib.hid hB
          clear hDa hDb hB
          have i0 : (0 : Int) ≤ (i : Int) := by omega
          by_cases hlt : i < 9
          · have i1 : (i : Int) < 9 := by omega
            have HIn : Hid (i < 9) := hlt
            go_wp2_with fail
            refine (read_yes i (by rw [HN9.out]; exact hlt) HDa.out).mono ?_
            rintro e w6 ⟨g6, rfl, hr6, hg6, hb6⟩
            have HR6 := Lib.hid hr6
            have HDa6 := Lib.hid (HDa.out.later hb6)
            have HDb6 := Lib.hid (HDb.out.later hb6)
            have HB6 := Lib.hid (HB.out.trans (hb6.mono HB.out.size))
            clear hr6 hg6 hb6 HDa HDb HB
            go_wp2_with fail
            refine (read_yes (d := bareD da.n da.S da.S) i (show i < da.n by rw [HN9.out]; exact hlt) HDb6.out).mono ?_
            rintro e w7 ⟨g7, rfl, hr7, hg7, hb7⟩
            have HR7 : Hid (BBlk w7 g7 (da.S i)) := hr7
            rw [HNS.out] at HR6
            have HR6 := Lib.hid (HR6.out.out (X := fun _ => False) (Out.of_below hb7) (fun h => h))
            have HDa7 := Lib.hid (HDa6.out.later hb7)
            have HDb7 := Lib.hid (HDb6.out.later hb7)
            have HB7 := Lib.hid (HB6.out.trans (hb7.mono HB6.out.size))
            clear hr7 hg7 hb7 HDa6 HDb6 HB6
            have hcv1 := run_str w7 36 9 U8 Try.underlying36 Try.underlying5 Try.underlying9 (da.S i) _ 64 64 HR6.out.2.1.symm (bytes_blk HR6.out)
            have hcv2 := run_str w7 36 9 U8 Try.underlying36 Try.underlying5 Try.underlying9 (da.S i) _ 64 64 HR7.out.2.1.symm (bytes_blk HR7.out)
            generalize da.S i = X at *
            have hs2 : ((strOf X).toList != (strOf X).toList) = false := by simp
            have hs1 : ((strOf X).toList == (strOf X).toList) = true := by simp
            go_wp2_with fail
            clear hcv1 hcv2 hs1 hs2
            go_roundw
            case rel => exact ⟨i + 1, HIn.out, by simp, HDa7.out, HDb7.out, HB7.out⟩
            case measure => simp [intOf]; omega
          · have i1 : ¬ (i : Int) < 9 := by omega
            go_wp2
            go_ret
            exact ⟨rfl, HB.out⟩
      · have k2 : ¬ (k : Int) < (len : Int) := by omega
        clear hlt
        go_wp2_with fail
        refine (crash_any HD.out a1 keep len1 cap1 HKl.out hkm (HKb.out.below HB.out) x y).mono ?_
        rintro e w4 ⟨La, rfl, hDa, hb4⟩
        have HDa := Lib.hid (hDa.deeper HB.out.size)
        have HA4 := Lib.hid (HA.out.later hb4)
        have HB4 := Lib.hid (HB.out.trans (hb4.mono HB.out.size))
        clear hDa hb4 HA HB HD HM HS HX
        have c0 := HA4.out.cell 0
        have c1 := HA4.out.cell 1
        simp at c0 c1
        go_wp2_with fail
        refine (crash_any HDa.out a1 keep len1 cap1 HKl.out hkm (HKb.out.below HB4.out) y x).mono ?_
        rintro e w5 ⟨Lb, rfl, hDb, hb5⟩
        rw [crash_bare] at hDb
        have HDb : Hid (Dk w.heap.size w5 Lb (bareD (crashD d keep x y).n (crashD d keep x y).S (crashD d keep x y).S)) := hDb.deeper HB4.out.size
        have HDa5 := Lib.hid (HDa.out.later hb5)
        have HB5 := Lib.hid (HB4.out.trans (hb5.mono HB4.out.size))
        have HN9 : Hid ((crashD d keep x y).n = 9) := HN.out
        have HNS : Hid ((crashD d keep x y).N = (crashD d keep x y).S) := rfl
        clear hDb hb5 HA4 HB4 HDa HN c0 c1
        generalize crashD d keep x y = da at *
        go_wp2_with fail
        have HSt : Hid (Tw2 w La Lb da (.int .i64 0) w5) := ⟨0, by decide, rfl, HDa5.out, HDb.out, HB5.out⟩
        clear HDa5 HDb HB5
        go_loopw [15] (fun t wr => Tw2 w La Lb da t wr) (fun t _ => 9 - (intOf t).toNat)
        case atStart => exact HSt.out
        case round =>
          clear HSt
          obtain ⟨i, hi, rfl, hDa, hDb, hB⟩ := hrel
          have HDa := Lib.hid hDa
          have HDb := Lib.hid hDb
          have HB := Lib.hid hB
          clear hDa hDb hB
          have i0 : (0 : Int) ≤ (i : Int) := by omega
          by_cases hlt : i < 9
          · have i1 : (i : Int) < 9 := by omega
            have HIn : Hid (i < 9) := hlt
            go_wp2_with fail
            refine (read_yes i (by rw [HN9.out]; exact hlt) HDa.out).mono ?_
            rintro e w6 ⟨g6, rfl, hr6, hg6, hb6⟩
            have HR6 := Lib.hid hr6
            have HDa6 := Lib.hid (HDa.out.later hb6)
            have HDb6 := Lib.hid (HDb.out.later hb6)
            have HB6 := Lib.hid (HB.out.trans (hb6.mono HB.out.size))
            clear hr6 hg6 hb6 HDa HDb HB
            go_wp2_with fail
            refine (read_yes (d := bareD da.n da.S da.S) i (show i < da.n by rw [HN9.out]; exact hlt) HDb6.out).mono ?_
            rintro e w7 ⟨g7, rfl, hr7, hg7, hb7⟩
            have HR7 : Hid (BBlk w7 g7 (da.S i)) := hr7
            rw [HNS.out] at HR6
            have HR6 := Lib.hid (HR6.out.out (X := fun _ => False) (Out.of_below hb7) (fun h => h))
            have HDa7 := Lib.hid (HDa6.out.later hb7)
            have HDb7 := Lib.hid (HDb6.out.later hb7)
            have HB7 := Lib.hid (HB6.out.trans (hb7.mono HB6.out.size))
            clear hr7 hg7 hb7 HDa6 HDb6 HB6
            have hcv1 := run_str w7 36 9 U8 Try.underlying36 Try.underlying5 Try.underlying9 (da.S i) _ 64 64 HR6.out.2.1.symm (bytes_blk HR6.out)
            have hcv2 := run_str w7 36 9 U8 Try.underlying36 Try.underlying5 Try.underlying9 (da.S i) _ 64 64 HR7.out.2.1.symm (bytes_blk HR7.out)
            generalize da.S i = X at *
            have hs2 : ((strOf X).toList != (strOf X).toList) = false := by simp
            have hs1 : ((strOf X).toList == (strOf X).toList) = true := by simp
            go_wp2_with fail
            clear hcv1 hcv2 hs1 hs2
            go_roundw
            case rel => exact ⟨i + 1, HIn.out, by simp, HDa7.out, HDb7.out, HB7.out⟩
            case measure => simp [intOf]; omega
          · have i1 : ¬ (i : Int) < 9 := by omega
            go_wp2
            go_ret
            exact ⟨rfl, HB.out⟩
end Go.Proofs.Ytefphnmabbfbjaa
