/-
  The walk of DiskPlays.
-/
import Derived.Test.YtefphnmabbfbjaaDkPlay
import Derived.Test.YtefphnmabbfbjaaDkAwake
namespace Go.Proofs.Ytefphnmabbfbjaa
open Go.RowKit

/-- What stands ahead of a round. -/
def PlR (w : World) (a : Option Addr) (len : Nat) (F : Nat → OpT) (t dv : Value) (bm : Nat) (wr : World) : Prop :=
  ∃ (k : Nat) (L : Dl) (d : Dm) (sa qa : Option Addr) (sc qc : Nat), k ≤ 60 ∧ t = .int .i64 k ∧ dv = .pointer (some ⟨L.bd, 0, none⟩) ∧ Dk w.heap.size wr L d ∧ Mr wr sa qa sc qc d ∧ Sm k d ∧ Blo wr bm RDT (agR sa qa sc qc d) ∧ Below w.heap.size w wr
set_option maxRecDepth 100000 in
set_option maxHeartbeats 4000000 in
theorem diskPlays_bad (k : Int) (a : Option Addr) (len cap : Nat) (w : World) (hk : k < 1 ∨ 4096 < k) :
    Calls Try.prog 3 #[.int .i64 k, .slice a len cap] w fun e w' => e = .returned (.bool true) ∧ Below w.heap.size w w' := by
  have HAw := Lib.hid (awake_any w)
  have HN1 := Lib.hid (fun W => new_bad k W hk)
  have HN2 : Hid (∀ W, Calls Try.prog 12 #[.int .i64 k] W fun e w' => e = .returned (.tuple #[.agg #[.slice none 0 0, .slice none 0 0, .int .i64 0, .int .i64 0], .int .i64 22]) ∧ Below W.heap.size W w') := fun W => by
    by_cases c : k < 1
    · exact rnew_low k c W
    · exact rnew_high k c (by omega) W
  rcases hk with hk | hk
  · have g1 : ¬ (40 : Int) < k := by omega
    clear hk
    go_enter Try.func3, Try.ntmps3
    go_wp2_with fail
    refine HAw.out.mono ?_
    rintro e w1 ⟨rfl, hb1⟩
    have HB1 := Lib.hid hb1
    clear hb1 HAw
    go_wp2_with fail
    refine (HN1.out w1).mono ?_
    rintro e w' ⟨rfl, rfl⟩
    go_wp2_with fail
    refine (HN2.out w1).mono ?_
    rintro e w2 ⟨rfl, hb2⟩
    have HB2 := Lib.hid (HB1.out.trans (hb2.mono HB1.out.size))
    clear hb2
    go_wp2_with fail
    have HB3 : Hid (Below w.heap.size w (w2.alloc (.cells #[.slice none 0 0, .slice none 0 0, .int .i64 0, .int .i64 0] RDT))) := HB2.out.alloc HB2.out.size _
    generalize (w2.alloc (.cells #[.slice none 0 0, .slice none 0 0, .int .i64 0, .int .i64 0] RDT)) = w3 at *
    go_loop [5, 9] (fun dv t => dv = .pointer none ∧ t = .int .i64 0) (fun _ _ => 0)
    case atStart => exact ⟨rfl, rfl⟩
    case round =>
      obtain ⟨rfl, rfl⟩ := hrel
      go_wp2
      go_ret
      exact ⟨rfl, HB3.out⟩
  · have g1 : (40 : Int) < k := by omega
    have g2 : ¬ k ≤ 4096 := by omega
    clear hk
    go_enter Try.func3, Try.ntmps3
    go_wp2_with fail
    refine HAw.out.mono ?_
    rintro e w1 ⟨rfl, hb1⟩
    have HB1 := Lib.hid hb1
    clear hb1 HAw
    go_wp2_with fail
    refine (HN1.out w1).mono ?_
    rintro e w' ⟨rfl, rfl⟩
    go_wp2_with fail
    refine (HN2.out w1).mono ?_
    rintro e w2 ⟨rfl, hb2⟩
    have HB2 := Lib.hid (HB1.out.trans (hb2.mono HB1.out.size))
    clear hb2
    go_wp2_with fail
    have HB3 : Hid (Below w.heap.size w (w2.alloc (.cells #[.slice none 0 0, .slice none 0 0, .int .i64 0, .int .i64 0] RDT))) := HB2.out.alloc HB2.out.size _
    generalize (w2.alloc (.cells #[.slice none 0 0, .slice none 0 0, .int .i64 0, .int .i64 0] RDT)) = w3 at *
    go_loop [5, 9] (fun dv t => dv = .pointer none ∧ t = .int .i64 0) (fun _ _ => 0)
    case atStart => exact ⟨rfl, rfl⟩
    case round =>
      obtain ⟨rfl, rfl⟩ := hrel
      go_wp2
      go_ret
      exact ⟨rfl, HB3.out⟩
set_option maxRecDepth 100000 in
set_option maxHeartbeats 4000000 in
theorem diskPlays_small (n : Nat) (a : Option Addr) (len cap : Nat) (F : Nat → OpT) (w : World) (h1 : 1 ≤ n) (h2 : n ≤ 40) (hops : Ops w a len F) :
    Calls Try.prog 3 #[.int .i64 (n : Int), .slice a len cap] w fun e w' => e = .returned (.bool true) ∧ Below w.heap.size w w' := by
  have HAw := Lib.hid (awake_any w)
  have HOps := Lib.hid hops
  have hlen := hops.1
  have g1 : ¬ (40 : Int) < (n : Int) := by omega
  clear hops
  go_enter Try.func3, Try.ntmps3
  go_wp2_with fail
  refine HAw.out.mono ?_
  rintro e w1 ⟨rfl, hb1⟩
  have HB1 := Lib.hid hb1
  clear hb1 HAw
  go_wp2_with fail
  refine (new_any n w1 (by omega) (by omega)).mono ?_
  rintro e w2 ⟨L, rfl, hD, hb⟩
  have HD := Lib.hid (hD.deeper HB1.out.size)
  have HB2 := Lib.hid (HB1.out.trans (hb.mono HB1.out.size))
  clear hD hb HB1
  go_wp2_with fail
  refine (mnew_any n w2 (by omega) (by omega)).mono ?_
  rintro e w3 ⟨sa, qa, sc, qc, rfl, hM, hb3⟩
  unfold agR
  have HD3 := Lib.hid (HD.out.later hb3)
  have HM3 := Lib.hid hM
  have HB3 := Lib.hid (HB2.out.trans (hb3.mono HB2.out.size))
  clear hM hb3 HD HB2
  go_wp2_with fail
  have hal : Below w3.heap.size w3 (w3.alloc (.cells (agR sa qa sc qc (newD n)) RDT)) := (Below.refl _ _).alloc (Nat.le_refl _) _
  have HSt : Hid (PlR w a len F (.int .i64 0) (.pointer (some ⟨L.bd, 0, none⟩)) w3.heap.size (w3.alloc (.cells (agR sa qa sc qc (newD n)) RDT))) :=
    ⟨0, L, newD n, sa, qa, sc, qc, by decide, rfl, rfl, HD3.out.later hal, HM3.out.later hal, ⟨by simp [newD], by simp [newD], by simp [newD]⟩, blo_laid w3 RDT _, HB3.out.trans (hal.mono HB3.out.size)⟩
  have HBm : Hid (w.heap.size ≤ w3.heap.size) := HB3.out.size
  clear hal HD3 HM3 HB3
  go_loopw [5, 9] (fun dv t wr => PlR w a len F t dv w3.heap.size wr) (fun _ t _ => 60 - (intOf t).toNat)
  case atStart => exact HSt.out
  case round =>
    clear HSt
    obtain ⟨k, L, d, sa, qa, sc, qc, hk, rfl, rfl, hD, hM, hS, hX, hB⟩ := hrel
    have HD := Lib.hid hD
    have HM := Lib.hid hM
    have HS := Lib.hid hS
    have HX := Lib.hid hX
    have HB := Lib.hid hB
    clear hD hM hS hX hB
    have k0 : (0 : Int) ≤ (k : Int) := by omega
    by_cases hlt : k < 60 ∧ k < len
    · obtain ⟨hk60, hkl⟩ := hlt
      have k1 : (k : Int) < 60 := by omega
      have k2 : (k : Int) < (len : Int) := by omega
      have HKn : Hid (k < 60) := hk60
      obtain ⟨b, o, ba, bn, bc, ka, kn, kc, ha, hop, hcell⟩ := HOps.out.2 k hkl
      have HOp := Lib.hid hop
      have HHc := Lib.hid hcell
      clear hop hcell
      have HOps2 := HOps
      subst ha
      have hbd : Below wr.heap.size wr wr.drew := (Below.refl _ _).drew
      have HPl : Hid (Calls Try.prog 13 #[.pointer (some ⟨L.bd, 0, none⟩), .agg #[.slice sa d.n sc, .slice qa d.Q.length qc, .int .i64 d.steps, .int .i64 (lfD d)], .agg #[.int .i64 (F k).k, .int .i64 (F k).n, .int .i64 (F k).s, .slice ba bn bc, .bool (F k).raw, .slice ka kn kc]] wr.drew (PlayO w.heap.size L wr.drew (playD d (F k)))) :=
        play_any HB.out.drew HOp.out (HD.out.later hbd) (HM.out.later hbd) (HS.out.mono (by omega))
      have e0 : wr.cell? ⟨b, o + k * 6, none⟩ = some (.int .i64 (F k).k) := cell_later HB.out (HHc.out 0 _ rfl)
      have e1 : wr.cell? ⟨b, o + k * 6 + 1, none⟩ = some (.int .i64 (F k).n) := cell_later HB.out (HHc.out 1 _ rfl)
      have e2 : wr.cell? ⟨b, o + k * 6 + 2, none⟩ = some (.int .i64 (F k).s) := cell_later HB.out (HHc.out 2 _ rfl)
      have e3 : wr.cell? ⟨b, o + k * 6 + 3, none⟩ = some (.slice ba bn bc) := cell_later HB.out (HHc.out 3 _ rfl)
      have e4 : wr.cell? ⟨b, o + k * 6 + 4, none⟩ = some (.bool (F k).raw) := cell_later HB.out (HHc.out 4 _ rfl)
      have e5 : wr.cell? ⟨b, o + k * 6 + 5, none⟩ = some (.slice ka kn kc) := cell_later HB.out (HHc.out 5 _ rfl)
      have y0 := HX.out.cell 0
      have y1 := HX.out.cell 1
      have y2 := HX.out.cell 2
      have y3 := HX.out.cell 3
      simp [agR] at y0 y1 y2 y3
      have HXd := Lib.hid (HX.out.later hbd)
      have HNo : Hid (¬ L.has w3.heap.size) := HD.out.apart HX.out (by decide) (by decide) (by decide)
      clear hbd
      go_wp2_with fail
      go_region_with ((go_at_call 13; (with_reducible refine HPl.out.mono ?_); rintro e W' ⟨L', sa', qa', sc', qc', rfl, hD', hM', hF'⟩; unfold agR; have HX' := Lib.hid (Out.blo hF' HXd.out HNo.out); have HD' := Lib.hid hD'; have HM' := Lib.hid hM'; have HF' := Lib.hid hF'; have z0 := HX'.out.cell 0; have z1 := HX'.out.cell 1; have z2 := HX'.out.cell 2; have z3 := HX'.out.cell 3; have f0 := HX'.out.frozen 0; have f1 := HX'.out.frozen 1; have f2 := HX'.out.frozen 2; have f3 := HX'.out.frozen 3; simp [agR] at z0 z1 z2 z3; clear hD' hM' hF'))
      all_goals
        have hso := put4_out W' w3.heap.size (.slice sa' (playD d (F k)).n sc') (.slice qa' (playD d (F k)).Q.length qc') (.int .i64 (playD d (F k)).steps) (.int .i64 (lfD (playD d (F k))))
        have HX5 : Hid (Blo (SetR W' w3.heap.size sa' qa' sc' qc' (playD d (F k))) w3.heap.size RDT (agR sa' qa' sc' qc' (playD d (F k)))) := put4_blo HX'.out _ _ _ _
        have HD5 : Hid (Dk w.heap.size (SetR W' w3.heap.size sa' qa' sc' qc' (playD d (F k))) L' (playD d (F k))) := HD'.out.out hso (fun i hi e => (HD'.out.apart HX'.out (by decide) (by decide) (by decide)) (by rw [← e]; exact hi))
        have HM5 : Hid (Mr (SetR W' w3.heap.size sa' qa' sc' qc' (playD d (F k))) sa' qa' sc' qc' (playD d (F k))) := HM'.out.out hso (fun g cs hb e => by
          subst e
          rcases hb with hb | hb
          · exact hb.apart HX'.out (by decide) rfl
          · exact hb.apart HX'.out (by decide) rfl)
        have HB5 : Hid (Below w.heap.size w (SetR W' w3.heap.size sa' qa' sc' qc' (playD d (F k)))) := (HB.out.drew.trans (Fr.below HF'.out (HD.out.later ((Below.refl _ _).drew)) HB.out.size)).trans (hso.below (Nat.le_trans HB.out.size HF'.out.size) (fun i _ e => by have := HBm.out; omega))
        have HS5 := Lib.hid (sm_play HS.out (F k))
        obtain ⟨W5, hw5⟩ : ∃ W5, SetR W' w3.heap.size sa' qa' sc' qc' (playD d (F k)) = W5 := ⟨_, rfl⟩
        rw [hw5] at HX5 HD5 HM5 HB5
        have hw6 : ((((W'.setCell ⟨w3.heap.size, 0, none⟩ (.slice sa' (playD d (F k)).n sc')).setCell ⟨w3.heap.size, 1, none⟩ (.slice qa' (playD d (F k)).Q.length qc')).setCell ⟨w3.heap.size, 2, none⟩ (.int .i64 (playD d (F k)).steps)).setCell ⟨w3.heap.size, 3, none⟩ (.int .i64 (lfD (playD d (F k))))) = W5 := hw5
        simp only [hw6]
        clear hw5 hw6 hso HX' HD' HM' HF' HXd HNo HX HD HM HB HS HPl z0 z1 z2 z3 f0 f1 f2 f3 y0 y1 y2 y3 e0 e1 e2 e3 e4 e5 HOp HHc
        generalize playD d (F k) = d' at *
        have y0 := HX5.out.cell 0
        have y1 := HX5.out.cell 1
        have y2 := HX5.out.cell 2
        have y3 := HX5.out.cell 3
        simp [agR] at y0 y1 y2 y3
        go_wp2_with fail
        refine (tells_any sa' qa' sc' qc' HD5.out HM5.out).mono ?_
        rintro e W6 ⟨rfl, hb6⟩
        have HX6 := Lib.hid (HX5.out.later hb6)
        have HD6 := Lib.hid (HD5.out.later hb6)
        have HM6 := Lib.hid (HM5.out.later hb6)
        have HB6 := Lib.hid (HB5.out.trans (hb6.mono HB5.out.size))
        clear hb6 HX5 HD5 HM5 HB5 y0 y1 y2 y3
        go_wp2_with fail
        go_roundw
        case rel => exact ⟨k + 1, L', d', sa', qa', sc', qc', HKn.out, by simp, rfl, HD6.out, HM6.out, HS5.out, HX6.out, HB6.out⟩
        case measure => simp [intOf]; have := HKn.out; omega
    · have hno : ¬ (k : Int) < (len : Int) ∨ ¬ (k : Int) < 60 := by omega
      by_cases hkl : k < len
      · have k1 : ¬ (k : Int) < 60 := by omega
        have k2 : (k : Int) < (len : Int) := by omega
        clear hno
        go_wp2
        go_ret
        exact ⟨rfl, HB.out⟩
      · have k2 : ¬ (k : Int) < (len : Int) := by omega
        clear hno
        go_wp2
        go_ret
        exact ⟨rfl, HB.out⟩
set_option maxRecDepth 100000 in
set_option maxHeartbeats 4000000 in
theorem diskPlays_big (k : Int) (a : Option Addr) (len cap : Nat) (F : Nat → OpT) (w : World) (h1 : 40 < k) (h2 : k ≤ 4096) (hops : Ops w a len F) :
    Calls Try.prog 3 #[.int .i64 k, .slice a len cap] w fun e w' => e = .returned (.bool true) ∧ Below w.heap.size w w' := by
  have HAw := Lib.hid (awake_any w)
  have HOps := Lib.hid hops
  have hlen := hops.1
  clear hops
  go_enter Try.func3, Try.ntmps3
  go_wp2_with fail
  refine HAw.out.mono ?_
  rintro e w1 ⟨rfl, hb1⟩
  have HB1 := Lib.hid hb1
  clear hb1 HAw
  go_wp2_with fail
  refine (new_any 40 w1 (by omega) (by omega)).mono ?_
  rintro e w2 ⟨L, rfl, hD, hb⟩
  have HD := Lib.hid (hD.deeper HB1.out.size)
  have HB2 := Lib.hid (HB1.out.trans (hb.mono HB1.out.size))
  clear hD hb HB1
  go_wp2_with fail
  refine (mnew_any 40 w2 (by omega) (by omega)).mono ?_
  rintro e w3 ⟨sa, qa, sc, qc, rfl, hM, hb3⟩
  unfold agR
  have HD3 := Lib.hid (HD.out.later hb3)
  have HM3 := Lib.hid hM
  have HB3 := Lib.hid (HB2.out.trans (hb3.mono HB2.out.size))
  clear hM hb3 HD HB2
  go_wp2_with fail
  have hal : Below w3.heap.size w3 (w3.alloc (.cells (agR sa qa sc qc (newD 40)) RDT)) := (Below.refl _ _).alloc (Nat.le_refl _) _
  have HSt : Hid (PlR w a len F (.int .i64 0) (.pointer (some ⟨L.bd, 0, none⟩)) w3.heap.size (w3.alloc (.cells (agR sa qa sc qc (newD 40)) RDT))) :=
    ⟨0, L, newD 40, sa, qa, sc, qc, by decide, rfl, rfl, HD3.out.later hal, HM3.out.later hal, ⟨by simp [newD], by simp [newD], by simp [newD]⟩, blo_laid w3 RDT _, HB3.out.trans (hal.mono HB3.out.size)⟩
  have HBm : Hid (w.heap.size ≤ w3.heap.size) := HB3.out.size
  clear hal HD3 HM3 HB3
  go_loopw [5, 9] (fun dv t wr => PlR w a len F t dv w3.heap.size wr) (fun _ t _ => 60 - (intOf t).toNat)
  case atStart => exact HSt.out
  case round =>
    clear HSt
    obtain ⟨k, L, d, sa, qa, sc, qc, hk, rfl, rfl, hD, hM, hS, hX, hB⟩ := hrel
    have HD := Lib.hid hD
    have HM := Lib.hid hM
    have HS := Lib.hid hS
    have HX := Lib.hid hX
    have HB := Lib.hid hB
    clear hD hM hS hX hB
    have k0 : (0 : Int) ≤ (k : Int) := by omega
    by_cases hlt : k < 60 ∧ k < len
    · obtain ⟨hk60, hkl⟩ := hlt
      have k1 : (k : Int) < 60 := by omega
      have k2 : (k : Int) < (len : Int) := by omega
      have HKn : Hid (k < 60) := hk60
      obtain ⟨b, o, ba, bn, bc, ka, kn, kc, ha, hop, hcell⟩ := HOps.out.2 k hkl
      have HOp := Lib.hid hop
      have HHc := Lib.hid hcell
      clear hop hcell
      have HOps2 := HOps
      subst ha
      have hbd : Below wr.heap.size wr wr.drew := (Below.refl _ _).drew
      have HPl : Hid (Calls Try.prog 13 #[.pointer (some ⟨L.bd, 0, none⟩), .agg #[.slice sa d.n sc, .slice qa d.Q.length qc, .int .i64 d.steps, .int .i64 (lfD d)], .agg #[.int .i64 (F k).k, .int .i64 (F k).n, .int .i64 (F k).s, .slice ba bn bc, .bool (F k).raw, .slice ka kn kc]] wr.drew (PlayO w.heap.size L wr.drew (playD d (F k)))) :=
        play_any HB.out.drew HOp.out (HD.out.later hbd) (HM.out.later hbd) (HS.out.mono (by omega))
      have e0 : wr.cell? ⟨b, o + k * 6, none⟩ = some (.int .i64 (F k).k) := cell_later HB.out (HHc.out 0 _ rfl)
      have e1 : wr.cell? ⟨b, o + k * 6 + 1, none⟩ = some (.int .i64 (F k).n) := cell_later HB.out (HHc.out 1 _ rfl)
      have e2 : wr.cell? ⟨b, o + k * 6 + 2, none⟩ = some (.int .i64 (F k).s) := cell_later HB.out (HHc.out 2 _ rfl)
      have e3 : wr.cell? ⟨b, o + k * 6 + 3, none⟩ = some (.slice ba bn bc) := cell_later HB.out (HHc.out 3 _ rfl)
      have e4 : wr.cell? ⟨b, o + k * 6 + 4, none⟩ = some (.bool (F k).raw) := cell_later HB.out (HHc.out 4 _ rfl)
      have e5 : wr.cell? ⟨b, o + k * 6 + 5, none⟩ = some (.slice ka kn kc) := cell_later HB.out (HHc.out 5 _ rfl)
      have y0 := HX.out.cell 0
      have y1 := HX.out.cell 1
      have y2 := HX.out.cell 2
      have y3 := HX.out.cell 3
      simp [agR] at y0 y1 y2 y3
      have HXd := Lib.hid (HX.out.later hbd)
      have HNo : Hid (¬ L.has w3.heap.size) := HD.out.apart HX.out (by decide) (by decide) (by decide)
      clear hbd
      go_wp2_with fail
      go_region_with ((go_at_call 13; (with_reducible refine HPl.out.mono ?_); rintro e W' ⟨L', sa', qa', sc', qc', rfl, hD', hM', hF'⟩; unfold agR; have HX' := Lib.hid (Out.blo hF' HXd.out HNo.out); have HD' := Lib.hid hD'; have HM' := Lib.hid hM'; have HF' := Lib.hid hF'; have z0 := HX'.out.cell 0; have z1 := HX'.out.cell 1; have z2 := HX'.out.cell 2; have z3 := HX'.out.cell 3; have f0 := HX'.out.frozen 0; have f1 := HX'.out.frozen 1; have f2 := HX'.out.frozen 2; have f3 := HX'.out.frozen 3; simp [agR] at z0 z1 z2 z3; clear hD' hM' hF'))
      all_goals
        have hso := put4_out W' w3.heap.size (.slice sa' (playD d (F k)).n sc') (.slice qa' (playD d (F k)).Q.length qc') (.int .i64 (playD d (F k)).steps) (.int .i64 (lfD (playD d (F k))))
        have HX5 : Hid (Blo (SetR W' w3.heap.size sa' qa' sc' qc' (playD d (F k))) w3.heap.size RDT (agR sa' qa' sc' qc' (playD d (F k)))) := put4_blo HX'.out _ _ _ _
        have HD5 : Hid (Dk w.heap.size (SetR W' w3.heap.size sa' qa' sc' qc' (playD d (F k))) L' (playD d (F k))) := HD'.out.out hso (fun i hi e => (HD'.out.apart HX'.out (by decide) (by decide) (by decide)) (by rw [← e]; exact hi))
        have HM5 : Hid (Mr (SetR W' w3.heap.size sa' qa' sc' qc' (playD d (F k))) sa' qa' sc' qc' (playD d (F k))) := HM'.out.out hso (fun g cs hb e => by
          subst e
          rcases hb with hb | hb
          · exact hb.apart HX'.out (by decide) rfl
          · exact hb.apart HX'.out (by decide) rfl)
        have HB5 : Hid (Below w.heap.size w (SetR W' w3.heap.size sa' qa' sc' qc' (playD d (F k)))) := (HB.out.drew.trans (Fr.below HF'.out (HD.out.later ((Below.refl _ _).drew)) HB.out.size)).trans (hso.below (Nat.le_trans HB.out.size HF'.out.size) (fun i _ e => by have := HBm.out; omega))
        have HS5 := Lib.hid (sm_play HS.out (F k))
        obtain ⟨W5, hw5⟩ : ∃ W5, SetR W' w3.heap.size sa' qa' sc' qc' (playD d (F k)) = W5 := ⟨_, rfl⟩
        rw [hw5] at HX5 HD5 HM5 HB5
        have hw6 : ((((W'.setCell ⟨w3.heap.size, 0, none⟩ (.slice sa' (playD d (F k)).n sc')).setCell ⟨w3.heap.size, 1, none⟩ (.slice qa' (playD d (F k)).Q.length qc')).setCell ⟨w3.heap.size, 2, none⟩ (.int .i64 (playD d (F k)).steps)).setCell ⟨w3.heap.size, 3, none⟩ (.int .i64 (lfD (playD d (F k))))) = W5 := hw5
        simp only [hw6]
        clear hw5 hw6 hso HX' HD' HM' HF' HXd HNo HX HD HM HB HS HPl z0 z1 z2 z3 f0 f1 f2 f3 y0 y1 y2 y3 e0 e1 e2 e3 e4 e5 HOp HHc
        generalize playD d (F k) = d' at *
        have y0 := HX5.out.cell 0
        have y1 := HX5.out.cell 1
        have y2 := HX5.out.cell 2
        have y3 := HX5.out.cell 3
        simp [agR] at y0 y1 y2 y3
        go_wp2_with fail
        refine (tells_any sa' qa' sc' qc' HD5.out HM5.out).mono ?_
        rintro e W6 ⟨rfl, hb6⟩
        have HX6 := Lib.hid (HX5.out.later hb6)
        have HD6 := Lib.hid (HD5.out.later hb6)
        have HM6 := Lib.hid (HM5.out.later hb6)
        have HB6 := Lib.hid (HB5.out.trans (hb6.mono HB5.out.size))
        clear hb6 HX5 HD5 HM5 HB5 y0 y1 y2 y3
        go_wp2_with fail
        go_roundw
        case rel => exact ⟨k + 1, L', d', sa', qa', sc', qc', HKn.out, by simp, rfl, HD6.out, HM6.out, HS5.out, HX6.out, HB6.out⟩
        case measure => simp [intOf]; have := HKn.out; omega
    · have hno : ¬ (k : Int) < (len : Int) ∨ ¬ (k : Int) < 60 := by omega
      by_cases hkl : k < len
      · have k1 : ¬ (k : Int) < 60 := by omega
        have k2 : (k : Int) < (len : Int) := by omega
        clear hno
        go_wp2
        go_ret
        exact ⟨rfl, HB.out⟩
      · have k2 : ¬ (k : Int) < (len : Int) := by omega
        clear hno
        go_wp2
        go_ret
        exact ⟨rfl, HB.out⟩
theorem diskPlays_walk (k : Int) (a : Option Addr) (len cap : Nat) (F : Nat → OpT) (w : World) (hk : (Lit.int .i64 k).wf = true) (hops : Ops w a len F) :
    Calls Try.prog 3 #[.int .i64 k, .slice a len cap] w fun e w' => e = .returned (.bool true) ∧ Below w.heap.size w w' := by
  by_cases h1 : k < 1 ∨ 4096 < k
  · exact diskPlays_bad k a len cap w h1
  · by_cases h2 : 40 < k
    · exact diskPlays_big k a len cap F w h2 (by omega) hops
    · obtain ⟨n, rfl⟩ : ∃ n : Nat, k = (n : Int) := ⟨k.toNat, by omega⟩
      exact diskPlays_small n a len cap F w (by omega) (by omega) hops
end Go.Proofs.Ytefphnmabbfbjaa
