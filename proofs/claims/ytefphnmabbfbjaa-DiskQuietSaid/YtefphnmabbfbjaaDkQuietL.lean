/-
  The walk of DiskQuiet.
-/
import Derived.Test.YtefphnmabbfbjaaDkPlays
namespace Go.Proofs.Ytefphnmabbfbjaa
open Go.RowKit

/-- What stands ahead of a round. -/
def QuR (w : World) (t dv ov : Value) (bm : Nat) (wr : World) : Prop :=
  ∃ (k : Nat) (L : Dl) (d : Dm) (sa qa : Option Addr) (sc qc : Nat), k ≤ 30 ∧ t = .int .i64 k ∧ dv = .pointer (some ⟨L.bd, 0, none⟩) ∧ ov = .bool true ∧ Dk w.heap.size wr L d ∧ Mr wr sa qa sc qc d ∧ Sm k d ∧ d.n = 7 ∧ Blo wr bm RDT (agR sa qa sc qc d) ∧ Below w.heap.size w wr
def Qu2 (w : World) (L : Dl) (d : Dm) (sa qa : Option Addr) (sc qc : Nat) (bm : Nat) (t : Value) (n : Nat) (wr : World) : Prop :=
  ∃ k : Nat, k ≤ n ∧ t = .int .i64 k ∧ Dk w.heap.size wr L d ∧ Mr wr sa qa sc qc d ∧ Blo wr bm RDT (agR sa qa sc qc d) ∧ Below w.heap.size w wr
theorem IsRow.ints {w : World} {a : Option Addr} {len cap : Nat} {zs : List Int} (h : IsRow .i64 w a len cap zs) : len ≤ 9223372036854775807 ∧ (len ≠ 0 → ∃ b o, a = some ⟨b, o, none⟩ ∧ ∀ i, i < len → w.cell? ⟨b, o + i, none⟩ = some (.int .i64 (zs.getD i 0))) := by
  rcases h with ⟨rfl, rfl, rfl, rfl⟩ | ⟨x, rfl, h1, h2, h3, h4, h5⟩
  · exact ⟨by decide, fun h => absurd rfl h⟩
  · have hmx : (maxLen : Nat) = 9223372036854775807 := by decide
    refine ⟨by omega, fun hne => ?_⟩
    obtain ⟨b, o, rfl, hc⟩ := Go.ints_at h4 (by omega)
    exact ⟨b, o, rfl, fun i hi => hc i (by omega)⟩
theorem size_intw (W : World) : (Go.sizeOf 3).run Try.prog W = .ok 1 W := by kernel_rfl
theorem cut_ints (b o n cap hi : Nat) (v : Int) (hv : v = (hi : Int)) (hhi : hi ≤ n) (hn : n ≤ cap) (hpos : 0 < cap) (W : World) :
    (Instr.slice 50 (.slice (some ⟨b, o, none⟩) n cap) none (some (.int .i64 v)) none).run Try.prog W = .ok (.slice (some ⟨b, o, none⟩) hi cap) W := by
  have ht' : Try.prog.underlying 50 = some (.slice (Try.prog.elem 50)) := by simp [Program.elem, Try.underlying50]
  have he : Try.prog.elem 50 = 3 := by simp [Program.elem, Try.underlying50]
  have e2 : ¬ cap = 0 := by omega
  subst hv
  rw [run_slice_h W 50 _ _ _ ht' .i64 _ (by omega) (by omega), he, size_intw]
  simp [Result.andThen, sliced, Addr.add, e2]
theorem read_some {C : Nat} {w : World} {L : Dl} {d : Dm} (k : Int) (h : Dk C w L d) : Calls Try.prog 21 #[.pointer (some ⟨L.bd, 0, none⟩), .int .i64 k] w fun e w' => ∃ v, e = .returned v ∧ Below w.heap.size w w' := by
  by_cases c : k < 0 ∨ (d.n : Int) ≤ k
  · exact (read_bad k c h).mono fun e w' ⟨h1, h2⟩ => ⟨_, h1, by rw [← h2]; exact Below.refl _ _⟩
  · obtain ⟨i, rfl⟩ : ∃ i : Nat, k = (i : Int) := ⟨k.toNat, by omega⟩
    refine (read_yes i (by omega) h).mono ?_
    rintro e w' ⟨g, h1, _, _, h2⟩
    exact ⟨_, h1, h2⟩
theorem bools_two (w : World) : Bools (w.alloc (.cells #[.bool true, .bool false] 4)) (some ⟨w.heap.size, 0, none⟩) [true, false] := fun _ => ⟨w.heap.size, 0, rfl, fun i hi => by
  have h := (blo_laid w 4 #[.bool true, .bool false]).cell i
  rw [Nat.zero_add, h]
  match i, hi with
  | 0, _ => rfl
  | 1, _ => rfl
  | n + 2, hi => simp at hi; omega⟩
def QuC (w : World) (zs : List Int) (len1 : Nat) (r : Nat) (v : Value) : Prop := r ≤ 30 ∧ r ≤ len1 ∧ ∃ a2 c2, v = .slice a2 r c2 ∧ (0 < r → ∃ b o, a2 = some ⟨b, o, none⟩ ∧ ∀ i, i < r → w.cell? ⟨b, o + i, none⟩ = some (.int .i64 (zs.getD i 0)))
set_option maxRecDepth 100000 in
set_option maxHeartbeats 4000000 in
theorem diskQuiet_walk (a : Option Addr) (len cap : Nat) (F : Nat → OpT) (a1 : Option Addr) (len1 cap1 : Nat) (zs : List Int) (w : World) (hops : Ops w a len F) (hz : IsRow .i64 w a1 len1 cap1 zs) :
    Calls Try.prog 9 #[.slice a len cap, .slice a1 len1 cap1] w fun e w' => e = .returned (.bool true) ∧ Below w.heap.size w w' := by
  have HAw := Lib.hid (fun W => awake_any W)
  have HOps := Lib.hid hops
  have HZ := Lib.hid hz
  have hlen := hops.1
  clear hops hz
  go_enter Try.func9, Try.ntmps9
  go_wp2_with fail
  refine (HAw.out w).mono ?_
  rintro e w1 ⟨rfl, hb1⟩
  have HB1 := Lib.hid (hb1)
  clear hb1 HAw
  go_wp2_with fail
  refine (new_any 7 w1 (by omega) (by omega)).mono ?_
  rintro e w2 ⟨L, rfl, hD, hb⟩
  have HD := Lib.hid (hD.deeper HB1.out.size)
  have HB2 := Lib.hid (HB1.out.trans (hb.mono HB1.out.size))
  clear hD hb HB1
  go_wp2_with fail
  refine (mnew_any 7 w2 (by omega) (by omega)).mono ?_
  rintro e w3 ⟨sa, qa, sc, qc, rfl, hM, hb3⟩
  unfold agR
  have HD3 := Lib.hid (HD.out.later hb3)
  have HM3 := Lib.hid hM
  have HB3 := Lib.hid (HB2.out.trans (hb3.mono HB2.out.size))
  clear hM hb3 HD HB2
  go_wp2_with fail
  have hal : Below w3.heap.size w3 (w3.alloc (.cells (agR sa qa sc qc (newD 7)) RDT)) := (Below.refl _ _).alloc (Nat.le_refl _) _
  have HSt : Hid (QuR w (.int .i64 0) (.pointer (some ⟨L.bd, 0, none⟩)) (.bool true) w3.heap.size (w3.alloc (.cells (agR sa qa sc qc (newD 7)) RDT))) :=
    ⟨0, L, newD 7, sa, qa, sc, qc, by decide, rfl, rfl, rfl, HD3.out.later hal, HM3.out.later hal, ⟨by simp [newD], by simp [newD], by simp [newD]⟩, rfl, blo_laid w3 RDT _, HB3.out.trans (hal.mono HB3.out.size)⟩
  have HBm : Hid (w.heap.size ≤ w3.heap.size) := HB3.out.size
  clear hal HD3 HM3 HB3
  go_loopw [5, 9, 10] (fun dv ov t wr => QuR w t dv ov w3.heap.size wr) (fun _ _ t _ => 30 - (intOf t).toNat)
  case atStart => exact HSt.out
  case round =>
    clear HSt
    obtain ⟨k, L, d, sa, qa, sc, qc, hk, rfl, rfl, rfl, hD, hM, hS, hn, hX, hB⟩ := hrel
    have HD := Lib.hid hD
    have HM := Lib.hid hM
    have HS := Lib.hid hS
    have HX := Lib.hid hX
    have HB := Lib.hid hB
    have HN := Lib.hid hn
    clear hD hM hS hX hB hn
    have k0 : (0 : Int) ≤ (k : Int) := by omega
    by_cases hlt : k < 30 ∧ k < len
    · obtain ⟨hk60, hkl⟩ := hlt
      have k1 : (k : Int) < 30 := by omega
      have k2 : (k : Int) < (len : Int) := by omega
      have HKn : Hid (k < 30) := hk60
      obtain ⟨b, o, ba, bn, bc, ka, kn, kc, ha, hop, hcell⟩ := HOps.out.2 k hkl
      have HOp := Lib.hid hop
      have HHc := Lib.hid hcell
      clear hop hcell
      have HOps2 := HOps
      subst ha
      have hbd : Below wr.heap.size wr wr.drew := (Below.refl _ _).drew
      have HPl : Hid (Calls Try.prog 13 #[.pointer (some ⟨L.bd, 0, none⟩), .agg #[.slice sa d.n sc, .slice qa d.Q.length qc, .int .i64 d.steps, .int .i64 (lfD d)], .agg #[.int .i64 (F k).k, .int .i64 (F k).n, .int .i64 (F k).s, .slice ba bn bc, .bool (F k).raw, .slice ka kn kc]] wr.drew (PlayO w.heap.size L wr.drew (playD d (F k)))) :=
        play_any HB.out.drew HOp.out (HD.out.later hbd) (HM.out.later hbd) (HS.out.mono (by have := HKn.out; omega))
      have e0 : wr.cell? ⟨b, o + k * 6, none⟩ = some (.int .i64 (F k).k) := cell_later HB.out (HHc.out 0 _ rfl)
      have e1 : wr.cell? ⟨b, o + k * 6 + 1, none⟩ = some (.int .i64 (F k).n) := cell_later HB.out (HHc.out 1 _ rfl)
      have e2 : wr.cell? ⟨b, o + k * 6 + 2, none⟩ = some (.int .i64 (F k).s) := cell_later HB.out (HHc.out 2 _ rfl)
      have e3 : wr.cell? ⟨b, o + k * 6 + 3, none⟩ = some (.slice ba bn bc) := cell_later HB.out (HHc.out 3 _ rfl)
      have e4 : wr.cell? ⟨b, o + k * 6 + 4, none⟩ = some (.bool (F k).raw) := cell_later HB.out (HHc.out 4 _ rfl)
      have e5 : wr.cell? ⟨b, o + k * 6 + 5, none⟩ = some (.slice ka kn kc) := cell_later HB.out (HHc.out 5 _ rfl)
      have y0 := HX.out.cell 0
      have y1 := HX.out.cell 1
      have y2 := HX.out.cell 2
      have y3 := HX.out.cell 3
      simp [agR] at y0 y1 y2 y3
      have HXd := Lib.hid (HX.out.later hbd)
      have HNo : Hid (¬ L.has w3.heap.size) := HD.out.apart HX.out (by decide) (by decide) (by decide)
      clear hbd
      go_wp2_with fail
      go_region_with ((go_at_call 13; (with_reducible refine HPl.out.mono ?_); rintro e W' ⟨L', sa', qa', sc', qc', rfl, hD', hM', hF'⟩; unfold agR; have HX' := Lib.hid (Out.blo hF' HXd.out HNo.out); have HD' := Lib.hid hD'; have HM' := Lib.hid hM'; have HF' := Lib.hid hF'; have z0 := HX'.out.cell 0; have z1 := HX'.out.cell 1; have z2 := HX'.out.cell 2; have z3 := HX'.out.cell 3; have f0 := HX'.out.frozen 0; have f1 := HX'.out.frozen 1; have f2 := HX'.out.frozen 2; have f3 := HX'.out.frozen 3; simp [agR] at z0 z1 z2 z3; clear hD' hM' hF'))
      all_goals
        have hso := put4_out W' w3.heap.size (.slice sa' (playD d (F k)).n sc') (.slice qa' (playD d (F k)).Q.length qc') (.int .i64 (playD d (F k)).steps) (.int .i64 (lfD (playD d (F k))))
        have HX5 : Hid (Blo (SetR W' w3.heap.size sa' qa' sc' qc' (playD d (F k))) w3.heap.size RDT (agR sa' qa' sc' qc' (playD d (F k)))) := put4_blo HX'.out _ _ _ _
        have HD5 : Hid (Dk w.heap.size (SetR W' w3.heap.size sa' qa' sc' qc' (playD d (F k))) L' (playD d (F k))) := HD'.out.out hso (fun i hi e => (HD'.out.apart HX'.out (by decide) (by decide) (by decide)) (by rw [← e]; exact hi))
        have HM5 : Hid (Mr (SetR W' w3.heap.size sa' qa' sc' qc' (playD d (F k))) sa' qa' sc' qc' (playD d (F k))) := HM'.out.out hso (fun g cs hb e => by
          subst e
          rcases hb with hb | hb
          · exact hb.apart HX'.out (by decide) rfl
          · exact hb.apart HX'.out (by decide) rfl)
        have HB5 : Hid (Below w.heap.size w (SetR W' w3.heap.size sa' qa' sc' qc' (playD d (F k)))) := (HB.out.drew.trans (Fr.below HF'.out (HD.out.later ((Below.refl _ _).drew)) HB.out.size)).trans (hso.below (Nat.le_trans HB.out.size HF'.out.size) (fun i _ e => by have := HBm.out; omega))
        have HS5 := Lib.hid (sm_play HS.out (F k))
        have HN5 : Hid ((playD d (F k)).n = 7) := (playD_n d (F k)).trans HN.out
        obtain ⟨W5, hw5⟩ : ∃ W5, SetR W' w3.heap.size sa' qa' sc' qc' (playD d (F k)) = W5 := ⟨_, rfl⟩
        rw [hw5] at HX5 HD5 HM5 HB5
        have hw6 : ((((W'.setCell ⟨w3.heap.size, 0, none⟩ (.slice sa' (playD d (F k)).n sc')).setCell ⟨w3.heap.size, 1, none⟩ (.slice qa' (playD d (F k)).Q.length qc')).setCell ⟨w3.heap.size, 2, none⟩ (.int .i64 (playD d (F k)).steps)).setCell ⟨w3.heap.size, 3, none⟩ (.int .i64 (lfD (playD d (F k))))) = W5 := hw5
        simp only [hw6]
        clear hw5 hw6 hso HX' HD' HM' HF' HXd HNo HX HD HM HB HS HPl HN z0 z1 z2 z3 f0 f1 f2 f3 y0 y1 y2 y3 e0 e1 e2 e3 e4 e5 HOp HHc
        generalize playD d (F k) = d' at *
        go_wp2_with fail
        go_roundw
        case rel => exact ⟨k + 1, L', d', sa', qa', sc', qc', HKn.out, by simp, rfl, rfl, HD5.out, HM5.out, HS5.out, HN5.out, HX5.out, HB5.out⟩
        case measure => simp [intOf]; have := HKn.out; omega
    · have HZc : Hid (len1 ≤ cap1) := by
        rcases HZ.out with ⟨_, h1, h2, _⟩ | ⟨_, _, h1, _⟩
        · show len1 ≤ cap1; omega
        · exact h1
      have hz1 := (HZ.out.ints).1
      by_cases hkl : k < len
      · have k1 : ¬ (k : Int) < 30 := by omega
        have k2 : (k : Int) < (len : Int) := by omega
        clear hlt
        go_upto_region 14 with (fail)
        go_cut [60, 61, 62] (fun v60 v61 v62 W => ∃ r : Nat, QuC w zs len1 r v60 ∧ v61 = .int .i64 r ∧ v62 = .int .i64 0 ∧ W = wr)
        case first =>
          by_cases h0 : len1 = 0
          · subst h0
            have g1 : ¬ (30 : Int) < ((0 : Nat) : Int) := by decide
            go_wp2_with fail
            go_meet
            exact ⟨0, ⟨by decide, Nat.le_refl _, _, _, rfl, fun h => absurd h (by decide)⟩, rfl, rfl, rfl⟩
          · obtain ⟨b1, o1, ha1, hc1⟩ := (HZ.out.ints).2 h0
            have HC1 := Lib.hid hc1
            clear hc1
            subst ha1
            by_cases g1 : (30 : Int) < (len1 : Int)
            · have hcut := cut_ints b1 o1 len1 cap1 30 30 rfl (by omega) HZc.out (by have := HZc.out; omega)
              go_wp2_with fail
              go_meet
              exact ⟨30, ⟨by decide, by omega, _, _, rfl, fun _ => ⟨b1, o1, rfl, fun i hi => HC1.out i (by omega)⟩⟩, rfl, rfl, rfl⟩
            · have hcut := cut_ints b1 o1 len1 cap1 len1 (len1 : Int) rfl (by omega) HZc.out (by have := HZc.out; omega)
              go_wp2_with fail
              go_meet
              exact ⟨len1, ⟨by omega, by omega, _, _, rfl, fun _ => ⟨b1, o1, rfl, fun i hi => HC1.out i (by omega)⟩⟩, rfl, rfl, rfl⟩
        case rest =>
          obtain ⟨r, ⟨hr1, hr2, a2, c2, rfl, ha2⟩, rfl, rfl, rfl⟩ := hcut
          have HA2 := Lib.hid ha2
          have HR2 := Lib.hid hr2
          clear ha2 hr2
          have HQl : Hid (d.Q.length ≤ 1000000) := HD.out.len
          have HFe : Hid (d.n = 7) := HN.out
          have HSt : Hid (Qu2 w L d sa qa sc qc w3.heap.size (.int .i64 0) r wc) := ⟨0, Nat.zero_le _, rfl, HD.out, HM.out, HX.out, HB.out⟩
          clear HD HM HX HB HS HN
          go_wp2_with fail
          go_loopw [62] (fun t wr => Qu2 w L d sa qa sc qc w3.heap.size t r wr) (fun t _ => r - (intOf t).toNat)
          case atStart => exact HSt.out
          case round =>
            clear HSt
            obtain ⟨i, hi, rfl, hD, hM, hX, hB⟩ := hrel
            have HD := Lib.hid hD
            have HM := Lib.hid hM
            have HX := Lib.hid hX
            have HB := Lib.hid hB
            clear hD hM hX hB
            have i0 : (0 : Int) ≤ (i : Int) := by omega
            by_cases hlt : i < r
            · have i1 : (i : Int) < (r : Int) := by omega
              have HIn : Hid (i < r) := hlt
              obtain ⟨b1, o1, ha1, hc1⟩ := HA2.out (by omega)
              have hci := cell_later HB.out (hc1 i hlt)
              subst ha1
              generalize zs.getD i 0 = z at *
              clear hc1
              go_wp2_with fail
              clear hci
              refine (read_some z HD.out).mono ?_
              rintro e w6 ⟨v6, rfl, hb6⟩
              have HD6 := Lib.hid (HD.out.later hb6)
              have HM6 := Lib.hid (HM.out.later hb6)
              have HX6 := Lib.hid (HX.out.later hb6)
              have HB6 := Lib.hid (HB.out.trans (hb6.mono HB.out.size))
              clear hb6 HD HM HX HB
              go_wp2_with fail
              have hal : Below w6.heap.size w6 (w6.alloc (.cells #[.bool true, .bool false] 4)) := (Below.refl _ _).alloc (Nat.le_refl _) _
              refine (crash_any (HD6.out.later hal) _ [true, false] 2 2 rfl (by decide) (bools_two w6) z z).mono ?_
              rintro e w7 ⟨Lc, rfl, _, hb7⟩
              have hb7 : Below w6.heap.size w6 w7 := hal.trans (hb7.mono hal.size)
              have HD7 := Lib.hid (HD6.out.later hb7)
              have HM7 := Lib.hid (HM6.out.later hb7)
              have HX7 := Lib.hid (HX6.out.later hb7)
              have HB7 := Lib.hid (HB6.out.trans (hb7.mono HB6.out.size))
              clear hal hb7 HD6 HM6 HX6 HB6
              go_wp2_with fail
              refine (queue_any HD7.out).mono ?_
              rintro e w8 ⟨g8, rfl, hq8, hg8, hb8⟩
              have HQ8 := Lib.hid hq8
              have HD8 := Lib.hid (HD7.out.later hb8)
              have HM8 := Lib.hid (HM7.out.later hb8)
              have HX8 := Lib.hid (HX7.out.later hb8)
              have HB8 := Lib.hid (HB7.out.trans (hb8.mono HB7.out.size))
              have HG8 : Hid (w.heap.size ≤ g8) := Nat.le_trans HB7.out.size hg8
              clear hq8 hg8 hb8 HD7 HM7 HX7 HB7
              by_cases hq : 0 < d.Q.length
              · have hqi : (0 : Int) < (d.Q.length : Int) := by omega
                have x0 := HQ8.out.cell 0
                have f0 := HQ8.out.frozen 0
                obtain ⟨v0, hv0⟩ : ∃ v0, (cellsI (d.Q.map fun p => (p.1 : Int))).toArray[0]? = some v0 := ⟨_, Array.getElem?_eq_getElem (by simpa [cellsI] using hq)⟩
                rw [hv0] at x0
                clear hv0
                go_wp2_with fail
                have ho := out_put (X := fun j => j = g8) w8 ⟨g8, 0, none⟩ (.int .i64 99) rfl
                have HD9 := Lib.hid (HD8.out.out ho (fun j hj e => (HD8.out.apart HQ8.out (by decide) (by decide) (by decide)) (by rw [← e]; exact hj)))
                have HM9 : Hid (Mr (w8.setCell ⟨g8, 0, none⟩ (.int .i64 99)) sa qa sc qc d) := HM8.out.out ho (fun g cs hb e => by
                  subst e
                  rcases hb with hb | hb
                  · exact hb.apart HQ8.out (by decide) rfl
                  · exact hb.apart HQ8.out (by decide) rfl)
                have HX9 := Lib.hid (ho.blo HX8.out (fun e => by
                  have h := HX8.out
                  rw [e] at h
                  exact h.apart HQ8.out (by decide) rfl))
                have HB9 := Lib.hid (HB8.out.trans (ho.below HB8.out.size (fun j _ e => by have := HG8.out; omega)))
                clear ho HD8 HM8 HX8 HB8 HQ8 x0 f0
                go_roundw
                case rel => exact ⟨i + 1, HIn.out, by simp, HD9.out, HM9.out, HX9.out, HB9.out⟩
                case measure => simp [intOf]; omega
              · have hqi : ¬ (0 : Int) < (d.Q.length : Int) := by omega
                go_wp2_with fail
                go_roundw
                case rel => exact ⟨i + 1, HIn.out, by simp, HD8.out, HM8.out, HX8.out, HB8.out⟩
                case measure => simp [intOf]; omega
            · have i1 : ¬ (i : Int) < (r : Int) := by omega
              have y0 := HX.out.cell 0
              have y1 := HX.out.cell 1
              have y2 := HX.out.cell 2
              have y3 := HX.out.cell 3
              simp [agR] at y0 y1 y2 y3
              go_wp2_with fail
              refine (tells_any sa qa sc qc HD.out HM.out).mono ?_
              rintro e w9 ⟨rfl, hb9⟩
              have HB9 := Lib.hid (HB.out.trans (hb9.mono HB.out.size))
              clear hb9
              go_wp2
              go_ret
              exact ⟨rfl, HB9.out⟩
      · have k2 : ¬ (k : Int) < (len : Int) := by omega
        clear hlt
        go_upto_region 14 with (fail)
        go_cut [60, 61, 62] (fun v60 v61 v62 W => ∃ r : Nat, QuC w zs len1 r v60 ∧ v61 = .int .i64 r ∧ v62 = .int .i64 0 ∧ W = wr)
        case first =>
          by_cases h0 : len1 = 0
          · subst h0
            have g1 : ¬ (30 : Int) < ((0 : Nat) : Int) := by decide
            go_wp2_with fail
            go_meet
            exact ⟨0, ⟨by decide, Nat.le_refl _, _, _, rfl, fun h => absurd h (by decide)⟩, rfl, rfl, rfl⟩
          · obtain ⟨b1, o1, ha1, hc1⟩ := (HZ.out.ints).2 h0
            have HC1 := Lib.hid hc1
            clear hc1
            subst ha1
            by_cases g1 : (30 : Int) < (len1 : Int)
            · have hcut := cut_ints b1 o1 len1 cap1 30 30 rfl (by omega) HZc.out (by have := HZc.out; omega)
              go_wp2_with fail
              go_meet
              exact ⟨30, ⟨by decide, by omega, _, _, rfl, fun _ => ⟨b1, o1, rfl, fun i hi => HC1.out i (by omega)⟩⟩, rfl, rfl, rfl⟩
            · have hcut := cut_ints b1 o1 len1 cap1 len1 (len1 : Int) rfl (by omega) HZc.out (by have := HZc.out; omega)
              go_wp2_with fail
              go_meet
              exact ⟨len1, ⟨by omega, by omega, _, _, rfl, fun _ => ⟨b1, o1, rfl, fun i hi => HC1.out i (by omega)⟩⟩, rfl, rfl, rfl⟩
        case rest =>
          obtain ⟨r, ⟨hr1, hr2, a2, c2, rfl, ha2⟩, rfl, rfl, rfl⟩ := hcut
          have HA2 := Lib.hid ha2
          have HR2 := Lib.hid hr2
          clear ha2 hr2
          have HQl : Hid (d.Q.length ≤ 1000000) := HD.out.len
          have HFe : Hid (d.n = 7) := HN.out
          have HSt : Hid (Qu2 w L d sa qa sc qc w3.heap.size (.int .i64 0) r wc) := ⟨0, Nat.zero_le _, rfl, HD.out, HM.out, HX.out, HB.out⟩
          clear HD HM HX HB HS HN
          go_wp2_with fail
          go_loopw [62] (fun t wr => Qu2 w L d sa qa sc qc w3.heap.size t r wr) (fun t _ => r - (intOf t).toNat)
          case atStart => exact HSt.out
          case round =>
            clear HSt
            obtain ⟨i, hi, rfl, hD, hM, hX, hB⟩ := hrel
            have HD := Lib.hid hD
            have HM := Lib.hid hM
            have HX := Lib.hid hX
            have HB := Lib.hid hB
            clear hD hM hX hB
            have i0 : (0 : Int) ≤ (i : Int) := by omega
            by_cases hlt : i < r
            · have i1 : (i : Int) < (r : Int) := by omega
              have HIn : Hid (i < r) := hlt
              obtain ⟨b1, o1, ha1, hc1⟩ := HA2.out (by omega)
              have hci := cell_later HB.out (hc1 i hlt)
              subst ha1
              generalize zs.getD i 0 = z at *
              clear hc1
              go_wp2_with fail
              clear hci
              refine (read_some z HD.out).mono ?_
              rintro e w6 ⟨v6, rfl, hb6⟩
              have HD6 := Lib.hid (HD.out.later hb6)
              have HM6 := Lib.hid (HM.out.later hb6)
              have HX6 := Lib.hid (HX.out.later hb6)
              have HB6 := Lib.hid (HB.out.trans (hb6.mono HB.out.size))
              clear hb6 HD HM HX HB
              go_wp2_with fail
              have hal : Below w6.heap.size w6 (w6.alloc (.cells #[.bool true, .bool false] 4)) := (Below.refl _ _).alloc (Nat.le_refl _) _
              refine (crash_any (HD6.out.later hal) _ [true, false] 2 2 rfl (by decide) (bools_two w6) z z).mono ?_
              rintro e w7 ⟨Lc, rfl, _, hb7⟩
              have hb7 : Below w6.heap.size w6 w7 := hal.trans (hb7.mono hal.size)
              have HD7 := Lib.hid (HD6.out.later hb7)
              have HM7 := Lib.hid (HM6.out.later hb7)
              have HX7 := Lib.hid (HX6.out.later hb7)
              have HB7 := Lib.hid (HB6.out.trans (hb7.mono HB6.out.size))
              clear hal hb7 HD6 HM6 HX6 HB6
              go_wp2_with fail
              refine (queue_any HD7.out).mono ?_
              rintro e w8 ⟨g8, rfl, hq8, hg8, hb8⟩
              have HQ8 := Lib.hid hq8
              have HD8 := Lib.hid (HD7.out.later hb8)
              have HM8 := Lib.hid (HM7.out.later hb8)
              have HX8 := Lib.hid (HX7.out.later hb8)
              have HB8 := Lib.hid (HB7.out.trans (hb8.mono HB7.out.size))
              have HG8 : Hid (w.heap.size ≤ g8) := Nat.le_trans HB7.out.size hg8
              clear hq8 hg8 hb8 HD7 HM7 HX7 HB7
              by_cases hq : 0 < d.Q.length
              · have hqi : (0 : Int) < (d.Q.length : Int) := by omega
                have x0 := HQ8.out.cell 0
                have f0 := HQ8.out.frozen 0
                obtain ⟨v0, hv0⟩ : ∃ v0, (cellsI (d.Q.map fun p => (p.1 : Int))).toArray[0]? = some v0 := ⟨_, Array.getElem?_eq_getElem (by simpa [cellsI] using hq)⟩
                rw [hv0] at x0
                clear hv0
                go_wp2_with fail
                have ho := out_put (X := fun j => j = g8) w8 ⟨g8, 0, none⟩ (.int .i64 99) rfl
                have HD9 := Lib.hid (HD8.out.out ho (fun j hj e => (HD8.out.apart HQ8.out (by decide) (by decide) (by decide)) (by rw [← e]; exact hj)))
                have HM9 : Hid (Mr (w8.setCell ⟨g8, 0, none⟩ (.int .i64 99)) sa qa sc qc d) := HM8.out.out ho (fun g cs hb e => by
                  subst e
                  rcases hb with hb | hb
                  · exact hb.apart HQ8.out (by decide) rfl
                  · exact hb.apart HQ8.out (by decide) rfl)
                have HX9 := Lib.hid (ho.blo HX8.out (fun e => by
                  have h := HX8.out
                  rw [e] at h
                  exact h.apart HQ8.out (by decide) rfl))
                have HB9 := Lib.hid (HB8.out.trans (ho.below HB8.out.size (fun j _ e => by have := HG8.out; omega)))
                clear ho HD8 HM8 HX8 HB8 HQ8 x0 f0
                go_roundw
                case rel => exact ⟨i + 1, HIn.out, by simp, HD9.out, HM9.out, HX9.out, HB9.out⟩
                case measure => simp [intOf]; omega
              · have hqi : ¬ (0 : Int) < (d.Q.length : Int) := by omega
                go_wp2_with fail
                go_roundw
                case rel => exact ⟨i + 1, HIn.out, by simp, HD8.out, HM8.out, HX8.out, HB8.out⟩
                case measure => simp [intOf]; omega
            · have i1 : ¬ (i : Int) < (r : Int) := by omega
              have y0 := HX.out.cell 0
              have y1 := HX.out.cell 1
              have y2 := HX.out.cell 2
              have y3 := HX.out.cell 3
              simp [agR] at y0 y1 y2 y3
              go_wp2_with fail
              refine (tells_any sa qa sc qc HD.out HM.out).mono ?_
              rintro e w9 ⟨rfl, hb9⟩
              have HB9 := Lib.hid (HB.out.trans (hb9.mono HB.out.size))
              clear hb9
              go_wp2
              go_ret
              exact ⟨rfl, HB9.out⟩
end Go.Proofs.Ytefphnmabbfbjaa
