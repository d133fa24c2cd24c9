/-
  The walk of PointPlays.
-/
import Derived.Test.YtmkhliabmodbdaaPtPlayU
import Derived.Test.YtmkhliabmodbdaaPtAwake
import Derived.Deep.CutBlock
import Derived.Deep.DeepCutAuto
namespace Go.Proofs.Ytmkhliabmodbdaa
open Go.RowKit

/-- What stands ahead of a round. -/
def PpR (w : World) (n : Nat) (t dv : Value) (bm : Nat) (wr : World) : Prop :=
  ∃ (k : Nat) (L : Dl) (d : Dm) (sa qa : Option Addr) (sc qc : Nat), k ≤ 40 ∧ t = .int .i64 k ∧ dv = .pointer (some ⟨L.bd, 0, none⟩) ∧ Dk w.heap.size wr L d ∧ Mr wr sa qa sc qc d ∧ Sm (3 * k) d ∧ d.n = n ∧ Blo wr bm RDT (agR sa qa sc qc d) ∧ Below w.heap.size w wr
set_option maxRecDepth 100000 in
set_option maxHeartbeats 4000000 in
theorem pointPlays_main (n : Nat) (a : Option Addr) (len cap : Nat) (F : Nat → OpP) (w : World) (h1 : 1 ≤ n) (h2 : n ≤ 20) (hops : OpsP w a len F) :
    Calls Try.prog 3 #[.int .i64 (n : Int), .slice a len cap] w fun e w' => e = .returned (.bool true) ∧ Below w.heap.size w w' := by
  have HAw := Lib.hid (awake_any w)
  have HOps := Lib.hid hops
  have hlen := hops.1
  have g0 : ¬ (n : Int) < 1 := by omega
  have g1 : ¬ (20 : Int) < (n : Int) := by omega
  clear hops
  go_enter Try.func3, Try.ntmps3
  go_wp2_with fail
  refine HAw.out.mono ?_
  rintro e w1 ⟨rfl, hb1⟩
  have HB1 := Lib.hid hb1
  clear hb1 HAw
  go_wp2_with fail
  refine (new_any n w1 (by omega) (by omega)).mono ?_
  rintro e w2 ⟨L, rfl, hD, hb⟩
  have HD := Lib.hid (hD.deeper HB1.out.size)
  have HB2 := Lib.hid (HB1.out.trans (hb.mono HB1.out.size))
  clear hD hb HB1
  go_wp2_with fail
  refine (mnew_any n w2 (by omega) (by omega)).mono ?_
  rintro e w3 ⟨sa, qa, sc, qc, rfl, hM, hb3⟩
  unfold agR
  have HD3 := Lib.hid (HD.out.later hb3)
  have HM3 := Lib.hid hM
  have HB3 := Lib.hid (HB2.out.trans (hb3.mono HB2.out.size))
  clear hM hb3 HD HB2
  go_wp2_with fail
  have hal : Below w3.heap.size w3 (w3.alloc (.cells (agR sa qa sc qc (newD n)) RDT)) := (Below.refl _ _).alloc (Nat.le_refl _) _
  have HSt : Hid (PpR w n (.int .i64 0) (.pointer (some ⟨L.bd, 0, none⟩)) w3.heap.size (w3.alloc (.cells (agR sa qa sc qc (newD n)) RDT))) :=
    ⟨0, L, newD n, sa, qa, sc, qc, by decide, rfl, rfl, HD3.out.later hal, HM3.out.later hal, ⟨by simp [newD], by simp [newD], by simp [newD]⟩, rfl, blo_laid w3 RDT _, HB3.out.trans (hal.mono HB3.out.size)⟩
  have HBm : Hid (w.heap.size ≤ w3.heap.size) := HB3.out.size
  clear hal HD3 HM3 HB3
  go_loopw [5, 9] (fun dv t wr => PpR w n t dv w3.heap.size wr) (fun _ t _ => 40 - (intOf t).toNat)
  case atStart => exact HSt.out
  case round =>
    clear HSt
    obtain ⟨k, L, d, sa, qa, sc, qc, hk, rfl, rfl, hD, hM, hS, hN, hX, hB⟩ := hrel
    generalize w3.heap.size = bm at *
    have HD := Lib.hid hD
    have HM := Lib.hid hM
    have HS := Lib.hid hS
    have HN := Lib.hid hN
    have HX := Lib.hid hX
    have HB := Lib.hid hB
    clear hD hM hS hX hB hN
    have k0 : (0 : Int) ≤ (k : Int) := by omega
    by_cases hlt : k < len ∧ k < 40
    · obtain ⟨hkl, hk40⟩ := hlt
      have k1 : (k : Int) < 40 := by omega
      have k2 : (k : Int) < (len : Int) := by omega
      have HKn : Hid (k < 40) := hk40
      obtain ⟨b, o, ba, bn, bc, ka, kn, kc, ha, hop, hcell⟩ := HOps.out.2 k hkl
      have HOp := Lib.hid (hop.below HB.out)
      have HOpw := Lib.hid hop
      have HHc := Lib.hid hcell
      clear hop hcell
      have HOps2 := HOps
      subst ha
      have e0 : wr.cell? ⟨b, o + k * 9, none⟩ = some (.int .i64 (F k).k) := cell_later HB.out (HHc.out 0 _ rfl)
      have e1 : wr.cell? ⟨b, o + k * 9 + 1, none⟩ = some (.int .i64 (F k).n) := cell_later HB.out (HHc.out 1 _ rfl)
      have e2 : wr.cell? ⟨b, o + k * 9 + 2, none⟩ = some (.int .i64 (F k).s) := cell_later HB.out (HHc.out 2 _ rfl)
      have e3 : wr.cell? ⟨b, o + k * 9 + 3, none⟩ = some (.int .i64 (F k).p.e) := cell_later HB.out (HHc.out 3 _ rfl)
      have e4 : wr.cell? ⟨b, o + k * 9 + 4, none⟩ = some (.int .i64 (F k).p.c) := cell_later HB.out (HHc.out 4 _ rfl)
      have e5 : wr.cell? ⟨b, o + k * 9 + 5, none⟩ = some (.int .i64 (F k).p.n) := cell_later HB.out (HHc.out 5 _ rfl)
      have e6 : wr.cell? ⟨b, o + k * 9 + 6, none⟩ = some (.int .i64 (F k).p.f) := cell_later HB.out (HHc.out 6 _ rfl)
      have e7 : wr.cell? ⟨b, o + k * 9 + 7, none⟩ = some (.slice ba bn bc) := cell_later HB.out (HHc.out 7 _ rfl)
      have e8 : wr.cell? ⟨b, o + k * 9 + 8, none⟩ = some (.slice ka kn kc) := cell_later HB.out (HHc.out 8 _ rfl)
      generalize F k = x at *
      have HS0 : Hid (PpS w bm wr.heap.size L d d sa qa sc qc #[.int .i64 x.k, .int .i64 x.n, .int .i64 x.s, .int .i64 x.p.e, .int .i64 x.p.c, .int .i64 x.p.n, .int .i64 x.p.f, .slice ba bn bc, .slice ka kn kc] (wr.alloc (.cells #[.int .i64 x.k, .int .i64 x.n, .int .i64 x.s, .int .i64 x.p.e, .int .i64 x.p.c, .int .i64 x.p.n, .int .i64 x.p.f, .slice ba bn bc, .slice ka kn kc] OPP))) := by
        have hal : Below wr.heap.size wr (wr.alloc (.cells #[.int .i64 x.k, .int .i64 x.n, .int .i64 x.s, .int .i64 x.p.e, .int .i64 x.p.c, .int .i64 x.p.n, .int .i64 x.p.f, .slice ba bn bc, .slice ka kn kc] OPP)) := (Below.refl _ _).alloc (Nat.le_refl _) _
        exact ⟨HD.out.later hal, HM.out.later hal, HX.out.later hal, blo_laid _ _ _, HB.out.trans (hal.mono HB.out.size), HBm.out⟩
      have HOp5 : Hid (OpPs (wr.alloc (.cells #[.int .i64 x.k, .int .i64 x.n, .int .i64 x.s, .int .i64 x.p.e, .int .i64 x.p.c, .int .i64 x.p.n, .int .i64 x.p.f, .slice ba bn bc, .slice ka kn kc] OPP)) ba bn bc ka kn kc x) := HOp.out.below ((Below.refl _ _).alloc (Nat.le_refl _) _)
      go_upto_block 2 with fail
      clear e0 e1 e2 e3 e4 e5 e6 e7 e8 HD HM HX HB HOps HHc
      generalize (wr.alloc (.cells #[.int .i64 x.k, .int .i64 x.n, .int .i64 x.s, .int .i64 x.p.e, .int .i64 x.p.c, .int .i64 x.p.n, .int .i64 x.p.f, .slice ba bn bc, .slice ka kn kc] OPP)) = w5 at *
      generalize wr.heap.size = bo at *
      have HNu := Lib.hid HS0.out.dk.nums
      have HNb := Lib.hid HS0.out.dk.now.byte
      have hst := HS.out.st
      have hql := HS.out.ql
      have hps := HS.out.pos
      have hkk := HKn.out
      have o0 := HS0.out.o.cell 0
      have o1 := HS0.out.o.cell 1
      have o2 := HS0.out.o.cell 2
      have o3 := HS0.out.o.cell 3
      have o4 := HS0.out.o.cell 4
      have o5 := HS0.out.o.cell 5
      have o6 := HS0.out.o.cell 6
      have o7 := HS0.out.o.cell 7
      have o8 := HS0.out.o.cell 8
      have x0 := HS0.out.x.cell 0
      have x1 := HS0.out.x.cell 1
      have x2 := HS0.out.x.cell 2
      have x3 := HS0.out.x.cell 3
      have f0 := HS0.out.x.frozen 0
      have f1 := HS0.out.x.frozen 1
      have f2 := HS0.out.x.frozen 2
      have f3 := HS0.out.x.frozen 3
      simp at o0 o1 o2 o3 o4 o5 o6 o7 o8 x0 x1 x2 x3
      go_cut [5, 11, 12] (fun dv e c wx => PpC w bm bo #[.int .i64 x.k, .int .i64 x.n, .int .i64 x.s, .int .i64 x.p.e, .int .i64 x.p.c, .int .i64 x.p.n, .int .i64 x.p.f, .slice ba bn bc, .slice ka kn kc] (playP d x).1 (playP d x).2 dv e c wx)
      case first =>
        by_cases hk1 : x.k = 1
        · have hp : playP d x = saveV d x.p := by unfold playP; rw [if_pos hk1]
          have Hp := Lib.hid hp
          have b1 : (x.k == 1) = true := by simpa using hk1
          clear hp hk1
          as_aux_lemma =>
            have HRf : Hid (∀ W, Mr W sa qa sc qc d → Calls Try.prog 13 #[.agg #[.slice sa d.n sc, .slice qa d.Q.length qc, .int .i64 d.steps, .int .i64 (lfD d)], .agg #[.int .i64 x.p.e, .int .i64 x.p.c, .int .i64 x.p.n, .int .i64 x.p.f]] W (MrO W (saveV d x.p).1 (saveV d x.p).2)) := fun W hW => rsave_all x.p HNu.out hW (by omega) (by omega) HNb.out
            go_wp2_with fail
            refine (save_all x.p HS0.out.dk (Sm.ok HS.out (by omega))).mono ?_
            intro e w6 hO
            obtain ⟨rfl, q6, hS6⟩ := pp_code HS0.out hO
            have HS6 := Lib.hid hS6
            clear hO hS6 HS0 o0 o1 o2 o3 o4 o5 o6 o7 o8 x0 x1 x2 x3 f0 f1 f2 f3
            have o0 := HS6.out.o.cell 0
            have o1 := HS6.out.o.cell 1
            have o2 := HS6.out.o.cell 2
            have o3 := HS6.out.o.cell 3
            have o4 := HS6.out.o.cell 4
            have o5 := HS6.out.o.cell 5
            have o6 := HS6.out.o.cell 6
            have o7 := HS6.out.o.cell 7
            have o8 := HS6.out.o.cell 8
            have x0 := HS6.out.x.cell 0
            have x1 := HS6.out.x.cell 1
            have x2 := HS6.out.x.cell 2
            have x3 := HS6.out.x.cell 3
            have f0 := HS6.out.x.frozen 0
            have f1 := HS6.out.x.frozen 1
            have f2 := HS6.out.x.frozen 2
            have f3 := HS6.out.x.frozen 3
            simp at o0 o1 o2 o3 o4 o5 o6 o7 o8 x0 x1 x2 x3
            go_wp2_with fail
            go_region_with (first
              | (go_at_call 14; (with_reducible refine (ref_any _ _ _ _ _).mono ?_); rintro e w7 ⟨rfl, hb7⟩; have HSr := Lib.hid (HS6.out.later (((Below.refl _ _).drew).trans hb7)); clear hb7; have x0 := HSr.out.x.cell 0; have x1 := HSr.out.x.cell 1; have x2 := HSr.out.x.cell 2; have x3 := HSr.out.x.cell 3; have f0 := HSr.out.x.frozen 0; have f1 := HSr.out.x.frozen 1; have f2 := HSr.out.x.frozen 2; have f3 := HSr.out.x.frozen 3; simp at x0 x1 x2 x3)
              | (go_at_call 13; (with_reducible refine (HRf.out _ HSr.out.m).mono ?_); rintro e w8 ⟨sa7, qa7, sc7, qc7, rfl, hm7, hb8⟩; unfold agR; have HS7 := Lib.hid (HSr.out.later hb8); have HS8 := Lib.hid (pp_ref HSr.out hb8 hm7); clear hm7 hb8; have x0 := HS7.out.x.cell 0; have x1 := HS7.out.x.cell 1; have x2 := HS7.out.x.cell 2; have x3 := HS7.out.x.cell 3; have f0 := HS7.out.x.frozen 0; have f1 := HS7.out.x.frozen 1; have f2 := HS7.out.x.frozen 2; have f3 := HS7.out.x.frozen 3; simp at x0 x1 x2 x3)
              | fail)
            all_goals
              go_wp2_with fail
              go_meet
              rw [Hp.out]
              exact ⟨{ L with qv := q6 }, sa7, qa7, sc7, qc7, rfl, rfl, rfl, HS8.out⟩
        · by_cases hk2 : x.k = 2
          · have hp : playP d x = wipeV d := by unfold playP; rw [if_neg hk1, if_pos hk2]
            have Hp := Lib.hid hp
            have b1 : (x.k == 1) = false := by simpa using hk1
            have b2 : (x.k == 2) = true := by simpa using hk2
            clear hp hk1 hk2
            as_aux_lemma =>
              go_wp2_with fail
              refine (wipe_all HS0.out.dk hps (by omega) (by omega)).mono ?_
              intro e w6 hO
              obtain ⟨rfl, q6, hS6⟩ := pp_code HS0.out hO
              have HS6 := Lib.hid hS6
              clear hO hS6 HS0 o0 o1 o2 o3 o4 o5 o6 o7 o8 x0 x1 x2 x3 f0 f1 f2 f3
              have o0 := HS6.out.o.cell 0
              have o1 := HS6.out.o.cell 1
              have o2 := HS6.out.o.cell 2
              have o3 := HS6.out.o.cell 3
              have o4 := HS6.out.o.cell 4
              have o5 := HS6.out.o.cell 5
              have o6 := HS6.out.o.cell 6
              have o7 := HS6.out.o.cell 7
              have o8 := HS6.out.o.cell 8
              have x0 := HS6.out.x.cell 0
              have x1 := HS6.out.x.cell 1
              have x2 := HS6.out.x.cell 2
              have x3 := HS6.out.x.cell 3
              have f0 := HS6.out.x.frozen 0
              have f1 := HS6.out.x.frozen 1
              have f2 := HS6.out.x.frozen 2
              have f3 := HS6.out.x.frozen 3
              simp at o0 o1 o2 o3 o4 o5 o6 o7 o8 x0 x1 x2 x3
              go_wp2_with fail
              refine (rwipe_all HNu.out HS6.out.m (by omega) (by omega)).mono ?_
              rintro e w7 ⟨sa7, qa7, sc7, qc7, rfl, hm7, hb7⟩
              unfold agR
              have HS7 := Lib.hid (HS6.out.later hb7)
              have HS8 := Lib.hid (pp_ref HS6.out hb7 hm7)
              clear hm7 hb7 HS6 o0 o1 o2 o3 o4 o5 o6 o7 o8 x0 x1 x2 x3 f0 f1 f2 f3
              have x0 := HS7.out.x.cell 0
              have x1 := HS7.out.x.cell 1
              have x2 := HS7.out.x.cell 2
              have x3 := HS7.out.x.cell 3
              have f0 := HS7.out.x.frozen 0
              have f1 := HS7.out.x.frozen 1
              have f2 := HS7.out.x.frozen 2
              have f3 := HS7.out.x.frozen 3
              simp at  x0 x1 x2 x3
              go_wp2_with fail
              go_meet
              rw [Hp.out]
              exact ⟨{ L with qv := q6 }, sa7, qa7, sc7, qc7, rfl, rfl, rfl, HS8.out⟩
          · by_cases hk3 : x.k = 3
            · have hp : playP d x = armsD d x.n := by unfold playP; rw [if_neg hk1, if_neg hk2, if_pos hk3]
              have Hp := Lib.hid hp
              have b1 : (x.k == 1) = false := by simpa using hk1
              have b2 : (x.k == 2) = false := by simpa using hk2
              have b3 : (x.k == 3) = true := by simpa using hk3
              clear hp hk1 hk2 hk3
              as_aux_lemma =>
                go_wp2_with fail
                refine (arms_any x.n HOp.out.hi HS0.out.dk).mono ?_
                intro e w6 hO
                obtain ⟨rfl, q6, hS6⟩ := pp_code HS0.out hO
                have HS6 := Lib.hid hS6
                clear hO hS6 HS0 o0 o1 o2 o3 o4 o5 o6 o7 o8 x0 x1 x2 x3 f0 f1 f2 f3
                have o0 := HS6.out.o.cell 0
                have o1 := HS6.out.o.cell 1
                have o2 := HS6.out.o.cell 2
                have o3 := HS6.out.o.cell 3
                have o4 := HS6.out.o.cell 4
                have o5 := HS6.out.o.cell 5
                have o6 := HS6.out.o.cell 6
                have o7 := HS6.out.o.cell 7
                have o8 := HS6.out.o.cell 8
                have x0 := HS6.out.x.cell 0
                have x1 := HS6.out.x.cell 1
                have x2 := HS6.out.x.cell 2
                have x3 := HS6.out.x.cell 3
                have f0 := HS6.out.x.frozen 0
                have f1 := HS6.out.x.frozen 1
                have f2 := HS6.out.x.frozen 2
                have f3 := HS6.out.x.frozen 3
                simp at o0 o1 o2 o3 o4 o5 o6 o7 o8 x0 x1 x2 x3
                go_wp2_with fail
                refine (marm_any x.n HS6.out.m).mono ?_
                rintro e w7 ⟨sa7, qa7, sc7, qc7, rfl, hm7, hb7⟩
                unfold agR
                have HS7 := Lib.hid (HS6.out.later hb7)
                have HS8 := Lib.hid (pp_ref HS6.out hb7 hm7)
                clear hm7 hb7 HS6 o0 o1 o2 o3 o4 o5 o6 o7 o8 x0 x1 x2 x3 f0 f1 f2 f3
                have x0 := HS7.out.x.cell 0
                have x1 := HS7.out.x.cell 1
                have x2 := HS7.out.x.cell 2
                have x3 := HS7.out.x.cell 3
                have f0 := HS7.out.x.frozen 0
                have f1 := HS7.out.x.frozen 1
                have f2 := HS7.out.x.frozen 2
                have f3 := HS7.out.x.frozen 3
                simp at  x0 x1 x2 x3
                go_wp2_with fail
                go_meet
                rw [Hp.out]
                exact ⟨{ L with qv := q6 }, sa7, qa7, sc7, qc7, rfl, rfl, rfl, HS8.out⟩
            · by_cases hk4 : x.k = 4
              · have b1 : (x.k == 1) = false := by simpa using hk1
                have b2 : (x.k == 2) = false := by simpa using hk2
                have b3 : (x.k == 3) = false := by simpa using hk3
                have b4 : (x.k == 4) = true := by simpa using hk4
                have hp : playP d x = (crashD d x.keep x.n x.s, 0) := by unfold playP; rw [if_neg hk1, if_neg hk2, if_neg hk3, if_pos hk4]
                have Hp := Lib.hid hp
                clear hp hk1 hk2 hk3 hk4
                as_aux_lemma =>
                  have HRf : Hid (∀ W, Mr W sa qa sc qc d → Bools W ka x.keep → Calls Try.prog 20 #[.agg #[.slice sa d.n sc, .slice qa d.Q.length qc, .int .i64 d.steps, .int .i64 (lfD d)], .slice ka kn kc, .int .i64 x.n, .int .i64 x.s] W (MrV W (crashD d x.keep x.n x.s))) := fun W hW hk => mcrash_any ka kn kc x.keep x.n x.s HS0.out.dk hW (by omega) HOp5.out.keep.1 (by have := HOp5.out.keep.2.2.2; omega) hk
                  have HKb : Hid (BoolsIn w5 ka kn kc x.keep) := HOp5.out.keep
                  have hkm : kn ≤ 9223372036854775807 := by have := HOp5.out.keep.2.2.2; omega
                  go_upto_region 23 with fail
                  have HSd := Lib.hid (HS0.out.later ((Below.refl _ _).drew))
                  refine wp_region_held_drew (S := fun W => W.cell? ⟨bo, 1, none⟩ = some (.int .i64 x.n) ∧ W.cell? ⟨bo, 2, none⟩ = some (.int .i64 x.s) ∧ W.cell? ⟨bo, 8, none⟩ = some (.slice ka kn kc)) (by kernel_rfl) ⟨HSd.out.o.cell 1, HSd.out.o.cell 2, HSd.out.o.cell 8⟩ (fun hHeld => ?_)
                  refine wpAnyH_take (i := 0) (oi := ⟨some 98, _, _, _, _, _⟩) (v := ?_) rfl (by kernel_rfl) (by kernel_rfl) (by kernel_rfl) (fun _ _ _ h => h) (Or.inl ⟨by rfl, fun W hW => ?_⟩) (by assumption) ?_
                  rotate_left
                  · obtain ⟨q1, q2, q8⟩ := hW; go_simp; try with_reducible rfl
                  simp only [Act.put, List.setIfInBounds_toArray, List.set_cons_zero, List.set_cons_succ]
                  refine wpAnyH_take (i := 1) (oi := ⟨some 99, _, _, _, _, _⟩) (v := ?_) rfl (by kernel_rfl) (by kernel_rfl) (by kernel_rfl) (fun _ _ _ h => h) (Or.inl ⟨by rfl, fun W hW => ?_⟩) (by assumption) ?_
                  rotate_left
                  · obtain ⟨q1, q2, q8⟩ := hW; go_simp; try with_reducible rfl
                  simp only [Act.put, List.setIfInBounds_toArray, List.set_cons_zero, List.set_cons_succ]
                  refine wpAnyH_take (i := 2) (oi := ⟨some 100, _, _, _, _, _⟩) (v := ?_) rfl (by kernel_rfl) (by kernel_rfl) (by kernel_rfl) (fun _ _ _ h => h) (Or.inl ⟨by rfl, fun W hW => ?_⟩) (by assumption) ?_
                  rotate_left
                  · obtain ⟨q1, q2, q8⟩ := hW; go_simp; try with_reducible rfl
                  simp only [Act.put, List.setIfInBounds_toArray, List.set_cons_zero, List.set_cons_succ]
                  refine wpAnyH_take (i := 3) (oi := ⟨some 101, _, _, _, _, _⟩) (v := ?_) rfl (by kernel_rfl) (by kernel_rfl) (by kernel_rfl) (fun _ _ _ h => h) (Or.inl ⟨by rfl, fun W hW => ?_⟩) (by assumption) ?_
                  rotate_left
                  · obtain ⟨q1, q2, q8⟩ := hW; go_simp; try with_reducible rfl
                  simp only [Act.put, List.setIfInBounds_toArray, List.set_cons_zero, List.set_cons_succ]
                  refine wpAnyH_take (i := 4) (oi := ⟨some 102, _, _, _, _, _⟩) (v := ?_) rfl (by kernel_rfl) (by kernel_rfl) (by kernel_rfl) (fun _ _ _ h => h) (Or.inl ⟨by rfl, fun W hW => ?_⟩) (by assumption) ?_
                  rotate_left
                  · obtain ⟨q1, q2, q8⟩ := hW; go_simp; try with_reducible rfl
                  simp only [Act.put, List.setIfInBounds_toArray, List.set_cons_zero, List.set_cons_succ]
                  refine wpAnyH_take (i := 5) (oi := ⟨some 103, _, _, _, _, _⟩) (v := ?_) rfl (by kernel_rfl) (by kernel_rfl) (by kernel_rfl) (fun _ _ _ h => h) (Or.inl ⟨by rfl, fun W hW => ?_⟩) (by assumption) ?_
                  rotate_left
                  · obtain ⟨q1, q2, q8⟩ := hW; go_simp; try with_reducible rfl
                  simp only [Act.put, List.setIfInBounds_toArray, List.set_cons_zero, List.set_cons_succ]
                  refine wpAnyH_take (i := 6) (oi := ⟨some 104, _, _, _, _, _⟩) (v := ?_) rfl (by kernel_rfl) (by kernel_rfl) (by kernel_rfl) (fun _ _ _ h => h) (Or.inl ⟨by rfl, fun W hW => ?_⟩) (by assumption) ?_
                  rotate_left
                  · obtain ⟨q1, q2, q8⟩ := hW; go_simp; try with_reducible rfl
                  simp only [Act.put, List.setIfInBounds_toArray, List.set_cons_zero, List.set_cons_succ]
                  refine wpAnyH_take (i := 9) (oi := ⟨some 107, _, _, _, _, _⟩) (v := ?_) rfl (by kernel_rfl) (by kernel_rfl) (by kernel_rfl) (fun _ _ _ h => h) (Or.inl ⟨by rfl, fun W hW => ?_⟩) (by assumption) ?_
                  rotate_left
                  · obtain ⟨q1, q2, q8⟩ := hW; go_simp; try with_reducible rfl
                  simp only [Act.put, List.setIfInBounds_toArray, List.set_cons_zero, List.set_cons_succ]
                  refine wpAnyH_take (i := 10) (oi := ⟨some 108, _, _, _, _, _⟩) (v := ?_) rfl (by kernel_rfl) (by kernel_rfl) (by kernel_rfl) (fun _ _ _ h => h) (Or.inl ⟨by rfl, fun W hW => ?_⟩) (by assumption) ?_
                  rotate_left
                  · obtain ⟨q1, q2, q8⟩ := hW; go_simp; try with_reducible rfl
                  simp only [Act.put, List.setIfInBounds_toArray, List.set_cons_zero, List.set_cons_succ]
                  refine wpAnyH_take (i := 11) (oi := ⟨some 109, _, _, _, _, _⟩) (v := ?_) rfl (by kernel_rfl) (by kernel_rfl) (by kernel_rfl) (fun _ _ _ h => h) (Or.inl ⟨by rfl, fun W hW => ?_⟩) (by assumption) ?_
                  rotate_left
                  · obtain ⟨q1, q2, q8⟩ := hW; go_simp; try with_reducible rfl
                  simp only [Act.put, List.setIfInBounds_toArray, List.set_cons_zero, List.set_cons_succ]
                  refine wpAnyH_take (i := 12) (oi := ⟨some 110, _, _, _, _, _⟩) (v := ?_) rfl (by kernel_rfl) (by kernel_rfl) (by kernel_rfl) (fun _ _ _ h => h) (Or.inl ⟨by rfl, fun W hW => ?_⟩) (by assumption) ?_
                  rotate_left
                  · obtain ⟨q1, q2, q8⟩ := hW; go_simp; try with_reducible rfl
                  simp only [Act.put, List.setIfInBounds_toArray, List.set_cons_zero, List.set_cons_succ]
                  refine wpAnyH_take (i := 13) (oi := ⟨some 111, _, _, _, _, _⟩) (v := ?_) rfl (by kernel_rfl) (by kernel_rfl) (by kernel_rfl) (fun _ _ _ h => h) (Or.inl ⟨by rfl, fun W hW => ?_⟩) (by assumption) ?_
                  rotate_left
                  · obtain ⟨q1, q2, q8⟩ := hW; go_simp; try with_reducible rfl
                  simp only [Act.put, List.setIfInBounds_toArray, List.set_cons_zero, List.set_cons_succ]
                  refine wpAnyH_take (i := 14) (oi := ⟨some 112, _, _, _, _, _⟩) (v := ?_) rfl (by kernel_rfl) (by kernel_rfl) (by kernel_rfl) (fun _ _ _ h => h) (Or.inl ⟨by rfl, fun W hW => ?_⟩) (by assumption) ?_
                  rotate_left
                  · obtain ⟨q1, q2, q8⟩ := hW; go_simp; try with_reducible rfl
                  simp only [Act.put, List.setIfInBounds_toArray, List.set_cons_zero, List.set_cons_succ]
                  refine wpAnyH_ready (rs := [7, 8]) (by kernel_rfl) (by simp) ?_
                  refine AllReadyH.cons (o := ⟨some 105, _, _, _, _, _⟩) rfl (fun K hK => ?_) ?_
                  · go_simp
                    go_wp2_with (go_at_call 19; (refine (crash_any HSd.out.dk ka x.keep kn kc HKb.out.1 hkm (HKb.out.2.1.below ((Below.refl _ _).drew)) x.n x.s).mono ?_); rintro e w6 ⟨Lc, rfl, hDc, hbc⟩)
                    have HSr := Lib.hid (HSd.out.fresh hDc hbc)
                    have HK6 := Lib.hid ((HKb.out.2.1.below ((Below.refl _ _).drew)).below hbc)
                    clear hDc hbc
                    have x0 := HSr.out.x.cell 0; have x1 := HSr.out.x.cell 1; have x2 := HSr.out.x.cell 2; have x3 := HSr.out.x.cell 3; have f0 := HSr.out.x.frozen 0; have f1 := HSr.out.x.frozen 1; have f2 := HSr.out.x.frozen 2; have f3 := HSr.out.x.frozen 3; simp at x0 x1 x2 x3
                    refine hK.out _ _ ⟨HSr.out.o.cell 1, HSr.out.o.cell 2, HSr.out.o.cell 8⟩ (fun hHeld => ?_)
                    clear hK K
                    try simp only [Act.put, List.setIfInBounds_toArray, List.set_cons_zero, List.set_cons_succ]
                    refine wpAnyH_ready (rs := [8]) (by kernel_rfl) (by simp) ?_
                    refine AllReadyH.cons (o := ⟨some 106, _, _, _, _, _⟩) rfl (fun K hK => ?_) AllReadyH.nil
                    go_simp
                    refine hK.out _ _ hHeld (fun hHeld => ?_)
                    clear hK K
                    try simp only [Act.put, List.setIfInBounds_toArray, List.set_cons_zero, List.set_cons_succ]
                    refine wpAnyH_ready (rs := [15]) (by kernel_rfl) (by simp) ?_
                    refine AllReadyH.cons (o := ⟨some 113, _, _, _, _, _⟩) rfl (fun K hK => ?_) AllReadyH.nil
                    go_simp
                    go_wp2_with (go_at_call 20; (refine (HRf.out _ HSr.out.m HK6.out).mono ?_); rintro e w8 ⟨sa7, qa7, sc7, qc7, rfl, hm7, hb8⟩)
                    unfold agR
                    have HS7 := Lib.hid (HSr.out.later hb8)
                    have HS8 := Lib.hid (pp_ref HSr.out hb8 hm7)
                    clear hm7 hb8
                    have x0 := HS7.out.x.cell 0; have x1 := HS7.out.x.cell 1; have x2 := HS7.out.x.cell 2; have x3 := HS7.out.x.cell 3; have f0 := HS7.out.x.frozen 0; have f1 := HS7.out.x.frozen 1; have f2 := HS7.out.x.frozen 2; have f3 := HS7.out.x.frozen 3; simp at x0 x1 x2 x3
                    refine hK.out _ _ ⟨HS7.out.o.cell 1, HS7.out.o.cell 2, HS7.out.o.cell 8⟩ (fun hHeld => ?_)
                    clear hK K
                    try simp only [Act.put, List.setIfInBounds_toArray, List.set_cons_zero, List.set_cons_succ]
                    refine wpAnyH_take (i := 16) (oi := ⟨some 5, _, _, _, _, _⟩) (v := ?_) rfl (by kernel_rfl) (by kernel_rfl) (by kernel_rfl) (fun _ _ _ h => h) (Or.inl ⟨by rfl, fun W hW => ?_⟩) (by assumption) ?_
                    rotate_left
                    · obtain ⟨q1, q2, q8⟩ := hW; go_simp; try with_reducible rfl
                    simp only [Act.put, List.setIfInBounds_toArray, List.set_cons_zero, List.set_cons_succ]
                    refine wpAnyH_ready (rs := [17]) (by kernel_rfl) (by simp) ?_
                    refine AllReadyH.cons (o := ⟨none, _, _, _, _, _⟩) rfl (fun K hK => ?_) AllReadyH.nil
                    go_simp
                    refine hK.out _ _ ⟨HS8.out.o.cell 1, HS8.out.o.cell 2, HS8.out.o.cell 8⟩ (fun hHeld => ?_)
                    clear hK K
                    try simp only [Act.put, List.setIfInBounds_toArray, List.set_cons_zero, List.set_cons_succ]
                    refine wpAnyH_done (by kernel_rfl) ?_ _
                    go_wp2_with fail
                    go_meet
                    rw [Hp.out]
                    exact ⟨Lc, sa7, qa7, sc7, qc7, rfl, rfl, rfl, HS8.out⟩
                  refine AllReadyH.cons (o := ⟨some 106, _, _, _, _, _⟩) rfl (fun K hK => ?_) AllReadyH.nil
                  go_simp
                  refine hK.out _ _ hHeld (fun hHeld => ?_)
                  clear hK K
                  try simp only [Act.put, List.setIfInBounds_toArray, List.set_cons_zero, List.set_cons_succ]
                  refine wpAnyH_ready (rs := [7]) (by kernel_rfl) (by simp) ?_
                  refine AllReadyH.cons (o := ⟨some 105, _, _, _, _, _⟩) rfl (fun K hK => ?_) AllReadyH.nil
                  go_simp
                  go_wp2_with (go_at_call 19; (refine (crash_any HSd.out.dk ka x.keep kn kc HKb.out.1 hkm (HKb.out.2.1.below ((Below.refl _ _).drew)) x.n x.s).mono ?_); rintro e w6 ⟨Lc, rfl, hDc, hbc⟩)
                  have HSr := Lib.hid (HSd.out.fresh hDc hbc)
                  have HK6 := Lib.hid ((HKb.out.2.1.below ((Below.refl _ _).drew)).below hbc)
                  clear hDc hbc
                  have x0 := HSr.out.x.cell 0; have x1 := HSr.out.x.cell 1; have x2 := HSr.out.x.cell 2; have x3 := HSr.out.x.cell 3; have f0 := HSr.out.x.frozen 0; have f1 := HSr.out.x.frozen 1; have f2 := HSr.out.x.frozen 2; have f3 := HSr.out.x.frozen 3; simp at x0 x1 x2 x3
                  refine hK.out _ _ ⟨HSr.out.o.cell 1, HSr.out.o.cell 2, HSr.out.o.cell 8⟩ (fun hHeld => ?_)
                  clear hK K
                  try simp only [Act.put, List.setIfInBounds_toArray, List.set_cons_zero, List.set_cons_succ]
                  refine wpAnyH_ready (rs := [15]) (by kernel_rfl) (by simp) ?_
                  refine AllReadyH.cons (o := ⟨some 113, _, _, _, _, _⟩) rfl (fun K hK => ?_) AllReadyH.nil
                  go_simp
                  go_wp2_with (go_at_call 20; (refine (HRf.out _ HSr.out.m HK6.out).mono ?_); rintro e w8 ⟨sa7, qa7, sc7, qc7, rfl, hm7, hb8⟩)
                  unfold agR
                  have HS7 := Lib.hid (HSr.out.later hb8)
                  have HS8 := Lib.hid (pp_ref HSr.out hb8 hm7)
                  clear hm7 hb8
                  have x0 := HS7.out.x.cell 0; have x1 := HS7.out.x.cell 1; have x2 := HS7.out.x.cell 2; have x3 := HS7.out.x.cell 3; have f0 := HS7.out.x.frozen 0; have f1 := HS7.out.x.frozen 1; have f2 := HS7.out.x.frozen 2; have f3 := HS7.out.x.frozen 3; simp at x0 x1 x2 x3
                  refine hK.out _ _ ⟨HS7.out.o.cell 1, HS7.out.o.cell 2, HS7.out.o.cell 8⟩ (fun hHeld => ?_)
                  clear hK K
                  try simp only [Act.put, List.setIfInBounds_toArray, List.set_cons_zero, List.set_cons_succ]
                  refine wpAnyH_take (i := 16) (oi := ⟨some 5, _, _, _, _, _⟩) (v := ?_) rfl (by kernel_rfl) (by kernel_rfl) (by kernel_rfl) (fun _ _ _ h => h) (Or.inl ⟨by rfl, fun W hW => ?_⟩) (by assumption) ?_
                  rotate_left
                  · obtain ⟨q1, q2, q8⟩ := hW; go_simp; try with_reducible rfl
                  simp only [Act.put, List.setIfInBounds_toArray, List.set_cons_zero, List.set_cons_succ]
                  refine wpAnyH_ready (rs := [17]) (by kernel_rfl) (by simp) ?_
                  refine AllReadyH.cons (o := ⟨none, _, _, _, _, _⟩) rfl (fun K hK => ?_) AllReadyH.nil
                  go_simp
                  refine hK.out _ _ ⟨HS8.out.o.cell 1, HS8.out.o.cell 2, HS8.out.o.cell 8⟩ (fun hHeld => ?_)
                  clear hK K
                  try simp only [Act.put, List.setIfInBounds_toArray, List.set_cons_zero, List.set_cons_succ]
                  refine wpAnyH_done (by kernel_rfl) ?_ _
                  go_wp2_with fail
                  go_meet
                  rw [Hp.out]
                  exact ⟨Lc, sa7, qa7, sc7, qc7, rfl, rfl, rfl, HS8.out⟩
              · have b1 : (x.k == 1) = false := by simpa using hk1
                have b2 : (x.k == 2) = false := by simpa using hk2
                have b3 : (x.k == 3) = false := by simpa using hk3
                have b4 : (x.k == 4) = false := by simpa using hk4
                by_cases hk5 : x.k = 5
                · have hp : playP d x = writeD d x.n (byt x.b) := by unfold playP; rw [if_neg hk1, if_neg hk2, if_neg hk3, if_neg hk4, if_pos hk5]
                  have Hp := Lib.hid hp
                  have b5 : (x.k == 5) = true := by simpa using hk5
                  clear hp hk1 hk2 hk3 hk4 hk5
                  as_aux_lemma =>
                    have HRf : Hid (∀ W, Mr W sa qa sc qc d → Calls Try.prog 23 #[.agg #[.slice sa d.n sc, .slice qa d.Q.length qc, .int .i64 d.steps, .int .i64 (lfD d)], .int .i64 x.n, .string (strOf (byt x.b))] W (MrO W (writeD d x.n (byt x.b)).1 (writeD d x.n (byt x.b)).2)) := fun W hW => mput_n x.n (byt x.b) HNu.out hW (by omega) (by omega)
                    have HBn : Hid (bn = x.b.length) := HOp5.out.b.1
                    have HBy : Hid (Bytes w5 ba x.b) := HOp5.out.b.2.1
                    have hbm : bn ≤ 9223372036854775807 := by have := HOp5.out.b.2.2.2.2; omega
                    go_upto_region 27 with fail
                    go_cut [11] (fun e wx => ∃ q6, e = .int .i64 (writeD d x.n (byt x.b)).2 ∧ PpS w bm bo { L with qv := q6 } (writeD d x.n (byt x.b)).1 d sa qa sc qc #[.int .i64 x.k, .int .i64 x.n, .int .i64 x.s, .int .i64 x.p.e, .int .i64 x.p.c, .int .i64 x.p.n, .int .i64 x.p.f, .slice ba bn bc, .slice ka kn kc] wx ∧ Below w5.heap.size w5 w5)
                    case first =>
                      go_region_with (first
                        | (go_at_call 22; (with_reducible refine (bytes_any _ _ _ x.b _ HBn.out hbm (HBy.out.below ((Below.refl _ _).drew))).mono ?_); rintro e w7 ⟨g7, rfl, hk7, hg7, hb7⟩; have HSr := Lib.hid (HS0.out.later (((Below.refl _ _).drew).trans hb7)); have HK7 := Lib.hid hk7; clear hk7 hg7 hb7; have o1 := HSr.out.o.cell 1; simp at o1)
                        | (go_at_call 21; (with_reducible refine (write_any x.n _ 64 64 (byt x.b) (byt_length _).symm (by decide) hps (by omega) (by omega) (fun _ => ⟨g7, rfl, HK7.out.s⟩) HSr.out.dk).mono ?_); intro e w8 hO; obtain ⟨rfl, q6, hS6⟩ := pp_code HSr.out hO; have HS6 := Lib.hid hS6; clear hO hS6)
                        | fail)
                      all_goals
                        go_wp2_with fail
                        go_meet
                        exact ⟨q6, rfl, HS6.out, Below.refl _ _⟩
                    case rest =>
                      obtain ⟨q6, rfl, hS6, _⟩ := hcut
                      have HS6 := Lib.hid hS6
                      have HBy6 : Hid (Bytes wc ba x.b) := HOpw.out.b.2.1.below HS6.out.b
                      clear hS6 HS0 HBy o0 o1 o2 o3 o4 o5 o6 o7 o8 x0 x1 x2 x3 f0 f1 f2 f3
                      have o0 := HS6.out.o.cell 0
                      have o1 := HS6.out.o.cell 1
                      have o2 := HS6.out.o.cell 2
                      have o3 := HS6.out.o.cell 3
                      have o4 := HS6.out.o.cell 4
                      have o5 := HS6.out.o.cell 5
                      have o6 := HS6.out.o.cell 6
                      have o7 := HS6.out.o.cell 7
                      have o8 := HS6.out.o.cell 8
                      have x0 := HS6.out.x.cell 0
                      have x1 := HS6.out.x.cell 1
                      have x2 := HS6.out.x.cell 2
                      have x3 := HS6.out.x.cell 3
                      have f0 := HS6.out.x.frozen 0
                      have f1 := HS6.out.x.frozen 1
                      have f2 := HS6.out.x.frozen 2
                      have f3 := HS6.out.x.frozen 3
                      simp at o0 o1 o2 o3 o4 o5 o6 o7 o8 x0 x1 x2 x3
                      go_upto_region 28 with fail
                      go_upto_region 28 with fail
                      have HS6d := Lib.hid (HS6.out.later ((Below.refl _ _).drew))
                      refine wp_region_held_drew (S := fun W => W.cell? ⟨bo, 1, none⟩ = some (.int .i64 x.n) ∧ W.cell? ⟨bo, 7, none⟩ = some (.slice ba bn bc)) (by kernel_rfl) ⟨HS6d.out.o.cell 1, HS6d.out.o.cell 7⟩ (fun hHeld => ?_)
                      refine wpAnyH_take (i := 1) (oi := ⟨some 127, _, _, _, _, _⟩) (v := ?_) rfl (by kernel_rfl) (by kernel_rfl) (by kernel_rfl) (fun _ _ _ h => h) (Or.inl ⟨by rfl, fun W hW => ?_⟩) (by assumption) ?_
                      rotate_left
                      · obtain ⟨q1, q7⟩ := hW; go_simp; try with_reducible rfl
                      simp only [Act.put, List.setIfInBounds_toArray, List.set_cons_zero, List.set_cons_succ]
                      refine wpAnyH_take (i := 2) (oi := ⟨some 128, _, _, _, _, _⟩) (v := ?_) rfl (by kernel_rfl) (by kernel_rfl) (by kernel_rfl) (fun _ _ _ h => h) (Or.inl ⟨by rfl, fun W hW => ?_⟩) (by assumption) ?_
                      rotate_left
                      · obtain ⟨q1, q7⟩ := hW; go_simp; try with_reducible rfl
                      simp only [Act.put, List.setIfInBounds_toArray, List.set_cons_zero, List.set_cons_succ]
                      refine wpAnyH_take (i := 3) (oi := ⟨some 129, _, _, _, _, _⟩) (v := ?_) rfl (by kernel_rfl) (by kernel_rfl) (by kernel_rfl) (fun _ _ _ h => h) (Or.inl ⟨by rfl, fun W hW => ?_⟩) (by assumption) ?_
                      rotate_left
                      · obtain ⟨q1, q7⟩ := hW; go_simp; try with_reducible rfl
                      simp only [Act.put, List.setIfInBounds_toArray, List.set_cons_zero, List.set_cons_succ]
                      refine wpAnyH_take (i := 4) (oi := ⟨some 130, _, _, _, _, _⟩) (v := ?_) rfl (by kernel_rfl) (by kernel_rfl) (by kernel_rfl) (fun _ _ _ h => h) (Or.inl ⟨by rfl, fun W hW => ?_⟩) (by assumption) ?_
                      rotate_left
                      · obtain ⟨q1, q7⟩ := hW; go_simp; try with_reducible rfl
                      simp only [Act.put, List.setIfInBounds_toArray, List.set_cons_zero, List.set_cons_succ]
                      refine wpAnyH_ready (rs := [0, 5]) (by kernel_rfl) (by simp) ?_
                      refine AllReadyH.cons (o := ⟨some 126, _, _, _, _, _⟩) rfl (fun K hK => ?_) ?_
                      · go_simp
                        refine hK.out _ _ hHeld (fun hHeld => ?_)
                        clear hK K
                        try simp only [Act.put, List.setIfInBounds_toArray, List.set_cons_zero, List.set_cons_succ]
                        refine wpAnyH_ready (rs := [5]) (by kernel_rfl) (by simp) ?_
                        refine AllReadyH.cons (o := ⟨some 131, _, _, _, _, _⟩) rfl (fun K hK => ?_) AllReadyH.nil
                        go_simp
                        go_wp2_with (go_at_call 22; (refine (bytes_any _ _ _ x.b _ HBn.out hbm (HBy6.out.below ((Below.refl _ _).drew))).mono ?_); rintro e w7 ⟨g7, rfl, hk7, hg7, hb7⟩)
                        have HSr := Lib.hid (HS6d.out.later hb7)
                        have hcv := run_str w7 36 9 U8 Try.underlying36 Try.underlying5 Try.underlying9 (byt x.b) (some ⟨g7, 0, none⟩) 64 64 (byt_length _).symm hk7.bytes
                        clear hk7 hg7 hb7
                        have x0 := HSr.out.x.cell 0; have x1 := HSr.out.x.cell 1; have x2 := HSr.out.x.cell 2; have x3 := HSr.out.x.cell 3; have f0 := HSr.out.x.frozen 0; have f1 := HSr.out.x.frozen 1; have f2 := HSr.out.x.frozen 2; have f3 := HSr.out.x.frozen 3; simp at x0 x1 x2 x3
                        refine hK.out _ _ ⟨HSr.out.o.cell 1, HSr.out.o.cell 7⟩ (fun hHeld => ?_)
                        clear hK K
                        try simp only [Act.put, List.setIfInBounds_toArray, List.set_cons_zero, List.set_cons_succ]
                        refine wpAnyH_ready (rs := [6]) (by kernel_rfl) (by simp) ?_
                        refine AllReadyH.cons (o := ⟨some 132, _, _, _, _, _⟩) rfl (fun K hK => ?_) AllReadyH.nil
                        go_simp
                        refine hK.out _ _ hHeld (fun hHeld => ?_)
                        clear hK K
                        try simp only [Act.put, List.setIfInBounds_toArray, List.set_cons_zero, List.set_cons_succ]
                        refine wpAnyH_ready (rs := [7]) (by kernel_rfl) (by simp) ?_
                        refine AllReadyH.cons (o := ⟨some 133, _, _, _, _, _⟩) rfl (fun K hK => ?_) AllReadyH.nil
                        go_simp
                        go_wp2_with (go_at_call 23; (refine (HRf.out _ HSr.out.m).mono ?_); rintro e w8 ⟨sa7, qa7, sc7, qc7, rfl, hm7, hb8⟩)
                        unfold agR
                        have HS7 := Lib.hid (HSr.out.later hb8)
                        have HS8 := Lib.hid (pp_ref HSr.out hb8 hm7)
                        clear hm7 hb8
                        have x0 := HS7.out.x.cell 0; have x1 := HS7.out.x.cell 1; have x2 := HS7.out.x.cell 2; have x3 := HS7.out.x.cell 3; have f0 := HS7.out.x.frozen 0; have f1 := HS7.out.x.frozen 1; have f2 := HS7.out.x.frozen 2; have f3 := HS7.out.x.frozen 3; simp at x0 x1 x2 x3
                        refine hK.out _ _ ⟨HS7.out.o.cell 1, HS7.out.o.cell 7⟩ (fun hHeld => ?_)
                        clear hK K
                        try simp only [Act.put, List.setIfInBounds_toArray, List.set_cons_zero, List.set_cons_succ]
                        refine wpAnyH_take (i := 8) (oi := ⟨some 125, _, _, _, _, _⟩) (v := ?_) rfl (by kernel_rfl) (by kernel_rfl) (by kernel_rfl) (fun _ _ _ h => h) (Or.inl ⟨by rfl, fun W hW => ?_⟩) (by assumption) ?_
                        rotate_left
                        · obtain ⟨q1, q7⟩ := hW; go_simp; try with_reducible rfl
                        simp only [Act.put, List.setIfInBounds_toArray, List.set_cons_zero, List.set_cons_succ]
                        refine wpAnyH_take (i := 9) (oi := ⟨some 134, _, _, _, _, _⟩) (v := ?_) rfl (by kernel_rfl) (by kernel_rfl) (by kernel_rfl) (fun _ _ _ h => h) (Or.inl ⟨by rfl, fun W hW => ?_⟩) (by assumption) ?_
                        rotate_left
                        · obtain ⟨q1, q7⟩ := hW; go_simp; try with_reducible rfl
                        simp only [Act.put, List.setIfInBounds_toArray, List.set_cons_zero, List.set_cons_succ]
                        refine wpAnyH_take (i := 10) (oi := ⟨some 135, _, _, _, _, _⟩) (v := ?_) rfl (by kernel_rfl) (by kernel_rfl) (by kernel_rfl) (fun _ _ _ h => h) (Or.inl ⟨by rfl, fun W hW => ?_⟩) (by assumption) ?_
                        rotate_left
                        · obtain ⟨q1, q7⟩ := hW; go_simp; try with_reducible rfl
                        simp only [Act.put, List.setIfInBounds_toArray, List.set_cons_zero, List.set_cons_succ]
                        refine wpAnyH_ready (rs := [11]) (by kernel_rfl) (by simp) ?_
                        refine AllReadyH.cons (o := ⟨none, _, _, _, _, _⟩) rfl (fun K hK => ?_) AllReadyH.nil
                        go_simp
                        refine hK.out _ _ ⟨HS8.out.o.cell 1, HS8.out.o.cell 7⟩ (fun hHeld => ?_)
                        clear hK K
                        try simp only [Act.put, List.setIfInBounds_toArray, List.set_cons_zero, List.set_cons_succ]
                        refine wpAnyH_take (i := 12) (oi := ⟨some 12, _, _, _, _, _⟩) (v := ?_) rfl (by kernel_rfl) (by kernel_rfl) (by kernel_rfl) (fun _ _ _ h => h) (Or.inl ⟨by rfl, fun W hW => ?_⟩) (by assumption) ?_
                        rotate_left
                        · obtain ⟨q1, q7⟩ := hW; go_simp; try with_reducible rfl
                        simp only [Act.put, List.setIfInBounds_toArray, List.set_cons_zero, List.set_cons_succ]
                        refine wpAnyH_done (by kernel_rfl) ?_ _
                        go_wp2_with fail
                        go_meet
                        rw [Hp.out]
                        exact ⟨{ L with qv := q6 }, sa7, qa7, sc7, qc7, rfl, rfl, rfl, HS8.out⟩
                      refine AllReadyH.cons (o := ⟨some 131, _, _, _, _, _⟩) rfl (fun K hK => ?_) AllReadyH.nil
                      go_simp
                      go_wp2_with (go_at_call 22; (refine (bytes_any _ _ _ x.b _ HBn.out hbm (HBy6.out.below ((Below.refl _ _).drew))).mono ?_); rintro e w7 ⟨g7, rfl, hk7, hg7, hb7⟩)
                      have HSr := Lib.hid (HS6d.out.later hb7)
                      have hcv := run_str w7 36 9 U8 Try.underlying36 Try.underlying5 Try.underlying9 (byt x.b) (some ⟨g7, 0, none⟩) 64 64 (byt_length _).symm hk7.bytes
                      clear hk7 hg7 hb7
                      have x0 := HSr.out.x.cell 0; have x1 := HSr.out.x.cell 1; have x2 := HSr.out.x.cell 2; have x3 := HSr.out.x.cell 3; have f0 := HSr.out.x.frozen 0; have f1 := HSr.out.x.frozen 1; have f2 := HSr.out.x.frozen 2; have f3 := HSr.out.x.frozen 3; simp at x0 x1 x2 x3
                      refine hK.out _ _ ⟨HSr.out.o.cell 1, HSr.out.o.cell 7⟩ (fun hHeld => ?_)
                      clear hK K
                      try simp only [Act.put, List.setIfInBounds_toArray, List.set_cons_zero, List.set_cons_succ]
                      refine wpAnyH_ready (rs := [0, 6]) (by kernel_rfl) (by simp) ?_
                      refine AllReadyH.cons (o := ⟨some 126, _, _, _, _, _⟩) rfl (fun K hK => ?_) ?_
                      · go_simp
                        refine hK.out _ _ hHeld (fun hHeld => ?_)
                        clear hK K
                        try simp only [Act.put, List.setIfInBounds_toArray, List.set_cons_zero, List.set_cons_succ]
                        refine wpAnyH_ready (rs := [6]) (by kernel_rfl) (by simp) ?_
                        refine AllReadyH.cons (o := ⟨some 132, _, _, _, _, _⟩) rfl (fun K hK => ?_) AllReadyH.nil
                        go_simp
                        refine hK.out _ _ hHeld (fun hHeld => ?_)
                        clear hK K
                        try simp only [Act.put, List.setIfInBounds_toArray, List.set_cons_zero, List.set_cons_succ]
                        refine wpAnyH_ready (rs := [7]) (by kernel_rfl) (by simp) ?_
                        refine AllReadyH.cons (o := ⟨some 133, _, _, _, _, _⟩) rfl (fun K hK => ?_) AllReadyH.nil
                        go_simp
                        go_wp2_with (go_at_call 23; (refine (HRf.out _ HSr.out.m).mono ?_); rintro e w8 ⟨sa7, qa7, sc7, qc7, rfl, hm7, hb8⟩)
                        unfold agR
                        have HS7 := Lib.hid (HSr.out.later hb8)
                        have HS8 := Lib.hid (pp_ref HSr.out hb8 hm7)
                        clear hm7 hb8
                        have x0 := HS7.out.x.cell 0; have x1 := HS7.out.x.cell 1; have x2 := HS7.out.x.cell 2; have x3 := HS7.out.x.cell 3; have f0 := HS7.out.x.frozen 0; have f1 := HS7.out.x.frozen 1; have f2 := HS7.out.x.frozen 2; have f3 := HS7.out.x.frozen 3; simp at x0 x1 x2 x3
                        refine hK.out _ _ ⟨HS7.out.o.cell 1, HS7.out.o.cell 7⟩ (fun hHeld => ?_)
                        clear hK K
                        try simp only [Act.put, List.setIfInBounds_toArray, List.set_cons_zero, List.set_cons_succ]
                        refine wpAnyH_take (i := 8) (oi := ⟨some 125, _, _, _, _, _⟩) (v := ?_) rfl (by kernel_rfl) (by kernel_rfl) (by kernel_rfl) (fun _ _ _ h => h) (Or.inl ⟨by rfl, fun W hW => ?_⟩) (by assumption) ?_
                        rotate_left
                        · obtain ⟨q1, q7⟩ := hW; go_simp; try with_reducible rfl
                        simp only [Act.put, List.setIfInBounds_toArray, List.set_cons_zero, List.set_cons_succ]
                        refine wpAnyH_take (i := 9) (oi := ⟨some 134, _, _, _, _, _⟩) (v := ?_) rfl (by kernel_rfl) (by kernel_rfl) (by kernel_rfl) (fun _ _ _ h => h) (Or.inl ⟨by rfl, fun W hW => ?_⟩) (by assumption) ?_
                        rotate_left
                        · obtain ⟨q1, q7⟩ := hW; go_simp; try with_reducible rfl
                        simp only [Act.put, List.setIfInBounds_toArray, List.set_cons_zero, List.set_cons_succ]
                        refine wpAnyH_take (i := 10) (oi := ⟨some 135, _, _, _, _, _⟩) (v := ?_) rfl (by kernel_rfl) (by kernel_rfl) (by kernel_rfl) (fun _ _ _ h => h) (Or.inl ⟨by rfl, fun W hW => ?_⟩) (by assumption) ?_
                        rotate_left
                        · obtain ⟨q1, q7⟩ := hW; go_simp; try with_reducible rfl
                        simp only [Act.put, List.setIfInBounds_toArray, List.set_cons_zero, List.set_cons_succ]
                        refine wpAnyH_ready (rs := [11]) (by kernel_rfl) (by simp) ?_
                        refine AllReadyH.cons (o := ⟨none, _, _, _, _, _⟩) rfl (fun K hK => ?_) AllReadyH.nil
                        go_simp
                        refine hK.out _ _ ⟨HS8.out.o.cell 1, HS8.out.o.cell 7⟩ (fun hHeld => ?_)
                        clear hK K
                        try simp only [Act.put, List.setIfInBounds_toArray, List.set_cons_zero, List.set_cons_succ]
                        refine wpAnyH_take (i := 12) (oi := ⟨some 12, _, _, _, _, _⟩) (v := ?_) rfl (by kernel_rfl) (by kernel_rfl) (by kernel_rfl) (fun _ _ _ h => h) (Or.inl ⟨by rfl, fun W hW => ?_⟩) (by assumption) ?_
                        rotate_left
                        · obtain ⟨q1, q7⟩ := hW; go_simp; try with_reducible rfl
                        simp only [Act.put, List.setIfInBounds_toArray, List.set_cons_zero, List.set_cons_succ]
                        refine wpAnyH_done (by kernel_rfl) ?_ _
                        go_wp2_with fail
                        go_meet
                        rw [Hp.out]
                        exact ⟨{ L with qv := q6 }, sa7, qa7, sc7, qc7, rfl, rfl, rfl, HS8.out⟩
                      refine AllReadyH.cons (o := ⟨some 132, _, _, _, _, _⟩) rfl (fun K hK => ?_) AllReadyH.nil
                      go_simp
                      refine hK.out _ _ hHeld (fun hHeld => ?_)
                      clear hK K
                      try simp only [Act.put, List.setIfInBounds_toArray, List.set_cons_zero, List.set_cons_succ]
                      refine wpAnyH_ready (rs := [0]) (by kernel_rfl) (by simp) ?_
                      refine AllReadyH.cons (o := ⟨some 126, _, _, _, _, _⟩) rfl (fun K hK => ?_) AllReadyH.nil
                      go_simp
                      refine hK.out _ _ hHeld (fun hHeld => ?_)
                      clear hK K
                      try simp only [Act.put, List.setIfInBounds_toArray, List.set_cons_zero, List.set_cons_succ]
                      refine wpAnyH_ready (rs := [7]) (by kernel_rfl) (by simp) ?_
                      refine AllReadyH.cons (o := ⟨some 133, _, _, _, _, _⟩) rfl (fun K hK => ?_) AllReadyH.nil
                      go_simp
                      go_wp2_with (go_at_call 23; (refine (HRf.out _ HSr.out.m).mono ?_); rintro e w8 ⟨sa7, qa7, sc7, qc7, rfl, hm7, hb8⟩)
                      unfold agR
                      have HS7 := Lib.hid (HSr.out.later hb8)
                      have HS8 := Lib.hid (pp_ref HSr.out hb8 hm7)
                      clear hm7 hb8
                      have x0 := HS7.out.x.cell 0; have x1 := HS7.out.x.cell 1; have x2 := HS7.out.x.cell 2; have x3 := HS7.out.x.cell 3; have f0 := HS7.out.x.frozen 0; have f1 := HS7.out.x.frozen 1; have f2 := HS7.out.x.frozen 2; have f3 := HS7.out.x.frozen 3; simp at x0 x1 x2 x3
                      refine hK.out _ _ ⟨HS7.out.o.cell 1, HS7.out.o.cell 7⟩ (fun hHeld => ?_)
                      clear hK K
                      try simp only [Act.put, List.setIfInBounds_toArray, List.set_cons_zero, List.set_cons_succ]
                      refine wpAnyH_take (i := 8) (oi := ⟨some 125, _, _, _, _, _⟩) (v := ?_) rfl (by kernel_rfl) (by kernel_rfl) (by kernel_rfl) (fun _ _ _ h => h) (Or.inl ⟨by rfl, fun W hW => ?_⟩) (by assumption) ?_
                      rotate_left
                      · obtain ⟨q1, q7⟩ := hW; go_simp; try with_reducible rfl
                      simp only [Act.put, List.setIfInBounds_toArray, List.set_cons_zero, List.set_cons_succ]
                      refine wpAnyH_take (i := 9) (oi := ⟨some 134, _, _, _, _, _⟩) (v := ?_) rfl (by kernel_rfl) (by kernel_rfl) (by kernel_rfl) (fun _ _ _ h => h) (Or.inl ⟨by rfl, fun W hW => ?_⟩) (by assumption) ?_
                      rotate_left
                      · obtain ⟨q1, q7⟩ := hW; go_simp; try with_reducible rfl
                      simp only [Act.put, List.setIfInBounds_toArray, List.set_cons_zero, List.set_cons_succ]
                      refine wpAnyH_take (i := 10) (oi := ⟨some 135, _, _, _, _, _⟩) (v := ?_) rfl (by kernel_rfl) (by kernel_rfl) (by kernel_rfl) (fun _ _ _ h => h) (Or.inl ⟨by rfl, fun W hW => ?_⟩) (by assumption) ?_
                      rotate_left
                      · obtain ⟨q1, q7⟩ := hW; go_simp; try with_reducible rfl
                      simp only [Act.put, List.setIfInBounds_toArray, List.set_cons_zero, List.set_cons_succ]
                      refine wpAnyH_ready (rs := [11]) (by kernel_rfl) (by simp) ?_
                      refine AllReadyH.cons (o := ⟨none, _, _, _, _, _⟩) rfl (fun K hK => ?_) AllReadyH.nil
                      go_simp
                      refine hK.out _ _ ⟨HS8.out.o.cell 1, HS8.out.o.cell 7⟩ (fun hHeld => ?_)
                      clear hK K
                      try simp only [Act.put, List.setIfInBounds_toArray, List.set_cons_zero, List.set_cons_succ]
                      refine wpAnyH_take (i := 12) (oi := ⟨some 12, _, _, _, _, _⟩) (v := ?_) rfl (by kernel_rfl) (by kernel_rfl) (by kernel_rfl) (fun _ _ _ h => h) (Or.inl ⟨by rfl, fun W hW => ?_⟩) (by assumption) ?_
                      rotate_left
                      · obtain ⟨q1, q7⟩ := hW; go_simp; try with_reducible rfl
                      simp only [Act.put, List.setIfInBounds_toArray, List.set_cons_zero, List.set_cons_succ]
                      refine wpAnyH_done (by kernel_rfl) ?_ _
                      go_wp2_with fail
                      go_meet
                      rw [Hp.out]
                      exact ⟨{ L with qv := q6 }, sa7, qa7, sc7, qc7, rfl, rfl, rfl, HS8.out⟩
                · have b5 : (x.k == 5) = false := by simpa using hk5
                  by_cases hk6 : x.k = 6
                  · have b6 : (x.k == 6) = true := by simpa using hk6
                    as_aux_lemma =>
                      have HEb0 := @encP_byte x.p
                      have HRf : Hid (∀ W, Mr W sa qa sc qc d → Calls Try.prog 23 #[.agg #[.slice sa d.n sc, .slice qa d.Q.length qc, .int .i64 d.steps, .int .i64 (lfD d)], .int .i64 x.n, .string (strOf (encP x.p))] W (MrO W (writeD d x.n (encP x.p)).1 (writeD d x.n (encP x.p)).2)) := fun W hW => mput_n x.n (encP x.p) HNu.out hW (by omega) (by omega)
                      by_cases hg : Good4 x.p
                      · have hp : playP d x = writeD d x.n (encP x.p) := by unfold playP; rw [if_neg hk1, if_neg hk2, if_neg hk3, if_neg hk4, if_neg hk5, if_pos ⟨hk6, hg⟩]
                        have Hp := Lib.hid hp
                        have HEb := Lib.hid (HEb0 hg)
                        have HGd : Hid (decide (Good4 ⟨x.p.e, x.p.c, x.p.n, x.p.f⟩) = true) := decide_eq_true hg
                        have HEn : Hid (∀ W, Calls Try.prog 25 #[.agg #[.int .i64 x.p.e, .int .i64 x.p.c, .int .i64 x.p.n, .int .i64 x.p.f]] W fun e' w' => e' = .returned (.string (strOf (encP x.p))) ∧ Below W.heap.size W w') := fun W => rencode_any x.p W hg
                        clear hp hk1 hk2 hk3 hk4 hk5 hk6 hg HEb0
                        go_wp2_with fail
                        refine (ref_any _ _ _ _ _).mono ?_
                        rintro e w6 ⟨rfl, hb6⟩
                        have HS6 := Lib.hid (HS0.out.later hb6)
                        clear hb6 HS0 o0 o1 o2 o3 o4 o5 o6 o7 o8 x0 x1 x2 x3 f0 f1 f2 f3
                        go_wp2_with fail
                        refine (rgood_any _ _ _ _ _).mono ?_
                        rintro e w7 ⟨rfl, hb7⟩
                        rw [HGd.out]
                        have HS7 := Lib.hid (HS6.out.later hb7)
                        clear hb7 HS6
                        have o0 := HS7.out.o.cell 0
                        have o1 := HS7.out.o.cell 1
                        have o2 := HS7.out.o.cell 2
                        have o3 := HS7.out.o.cell 3
                        have o4 := HS7.out.o.cell 4
                        have o5 := HS7.out.o.cell 5
                        have o6 := HS7.out.o.cell 6
                        have o7 := HS7.out.o.cell 7
                        have o8 := HS7.out.o.cell 8
                        have x0 := HS7.out.x.cell 0
                        have x1 := HS7.out.x.cell 1
                        have x2 := HS7.out.x.cell 2
                        have x3 := HS7.out.x.cell 3
                        have f0 := HS7.out.x.frozen 0
                        have f1 := HS7.out.x.frozen 1
                        have f2 := HS7.out.x.frozen 2
                        have f3 := HS7.out.x.frozen 3
                        simp at o0 o1 o2 o3 o4 o5 o6 o7 o8 x0 x1 x2 x3
                        go_upto_region 31 with fail
                        go_cut [11] (fun e wx => ∃ q6, e = .int .i64 (writeD d x.n (encP x.p)).2 ∧ PpS w bm bo { L with qv := q6 } (writeD d x.n (encP x.p)).1 d sa qa sc qc #[.int .i64 x.k, .int .i64 x.n, .int .i64 x.s, .int .i64 x.p.e, .int .i64 x.p.c, .int .i64 x.p.n, .int .i64 x.p.f, .slice ba bn bc, .slice ka kn kc] wx ∧ Below w5.heap.size w5 w5)
                        case first =>
                          have HS7d := Lib.hid (HS7.out.later ((Below.refl _ _).drew))
                          refine wp_region_held_drew (S := fun W => W.cell? ⟨bo, 1, none⟩ = some (.int .i64 x.n) ∧ W.cell? ⟨bo, 3, none⟩ = some (.int .i64 x.p.e) ∧ W.cell? ⟨bo, 4, none⟩ = some (.int .i64 x.p.c) ∧ W.cell? ⟨bo, 5, none⟩ = some (.int .i64 x.p.n) ∧ W.cell? ⟨bo, 6, none⟩ = some (.int .i64 x.p.f)) (by kernel_rfl) ⟨HS7d.out.o.cell 1, HS7d.out.o.cell 3, HS7d.out.o.cell 4, HS7d.out.o.cell 5, HS7d.out.o.cell 6⟩ (fun hHeld => ?_)
                          refine wpAnyH_take (i := 0) (oi := ⟨some 142, _, _, _, _, _⟩) (v := ?_) rfl (by kernel_rfl) (by kernel_rfl) (by kernel_rfl) (fun _ _ _ h => h) (Or.inl ⟨by rfl, fun W hW => ?_⟩) (by assumption) ?_
                          rotate_left
                          · obtain ⟨q1, q3, q4, q5, q6⟩ := hW; go_simp; try with_reducible rfl
                          simp only [Act.put, List.setIfInBounds_toArray, List.set_cons_zero, List.set_cons_succ]
                          refine wpAnyH_take (i := 1) (oi := ⟨some 143, _, _, _, _, _⟩) (v := ?_) rfl (by kernel_rfl) (by kernel_rfl) (by kernel_rfl) (fun _ _ _ h => h) (Or.inl ⟨by rfl, fun W hW => ?_⟩) (by assumption) ?_
                          rotate_left
                          · obtain ⟨q1, q3, q4, q5, q6⟩ := hW; go_simp; try with_reducible rfl
                          simp only [Act.put, List.setIfInBounds_toArray, List.set_cons_zero, List.set_cons_succ]
                          refine wpAnyH_take (i := 2) (oi := ⟨some 144, _, _, _, _, _⟩) (v := ?_) rfl (by kernel_rfl) (by kernel_rfl) (by kernel_rfl) (fun _ _ _ h => h) (Or.inl ⟨by rfl, fun W hW => ?_⟩) (by assumption) ?_
                          rotate_left
                          · obtain ⟨q1, q3, q4, q5, q6⟩ := hW; go_simp; try with_reducible rfl
                          simp only [Act.put, List.setIfInBounds_toArray, List.set_cons_zero, List.set_cons_succ]
                          refine wpAnyH_take (i := 3) (oi := ⟨some 145, _, _, _, _, _⟩) (v := ?_) rfl (by kernel_rfl) (by kernel_rfl) (by kernel_rfl) (fun _ _ _ h => h) (Or.inl ⟨by rfl, fun W hW => ?_⟩) (by assumption) ?_
                          rotate_left
                          · obtain ⟨q1, q3, q4, q5, q6⟩ := hW; go_simp; try with_reducible rfl
                          simp only [Act.put, List.setIfInBounds_toArray, List.set_cons_zero, List.set_cons_succ]
                          refine wpAnyH_take (i := 4) (oi := ⟨some 146, _, _, _, _, _⟩) (v := ?_) rfl (by kernel_rfl) (by kernel_rfl) (by kernel_rfl) (fun _ _ _ h => h) (Or.inl ⟨by rfl, fun W hW => ?_⟩) (by assumption) ?_
                          rotate_left
                          · obtain ⟨q1, q3, q4, q5, q6⟩ := hW; go_simp; try with_reducible rfl
                          simp only [Act.put, List.setIfInBounds_toArray, List.set_cons_zero, List.set_cons_succ]
                          refine wpAnyH_ready (rs := [5]) (by kernel_rfl) (by simp) ?_
                          refine AllReadyH.cons (o := ⟨some 147, _, _, _, _, _⟩) rfl (fun K hK => ?_) AllReadyH.nil
                          go_simp
                          go_wp2_with (go_at_call 14; (refine (ref_any _ _ _ _ _).mono ?_); rintro e wa ⟨rfl, hba⟩)
                          have HSa := Lib.hid (HS7d.out.later hba)
                          clear hba
                          refine hK.out _ _ ⟨HSa.out.o.cell 1, HSa.out.o.cell 3, HSa.out.o.cell 4, HSa.out.o.cell 5, HSa.out.o.cell 6⟩ (fun hHeld => ?_)
                          clear hK K
                          try simp only [Act.put, List.setIfInBounds_toArray, List.set_cons_zero, List.set_cons_succ]
                          refine wpAnyH_ready (rs := [6]) (by kernel_rfl) (by simp) ?_
                          refine AllReadyH.cons (o := ⟨some 148, _, _, _, _, _⟩) rfl (fun K hK => ?_) AllReadyH.nil
                          go_simp
                          go_wp2_with (go_at_call 25; (refine (HEn.out _).mono ?_); rintro e wb ⟨rfl, hbb⟩)
                          have HSb := Lib.hid (HSa.out.later hbb)
                          have hcv := Lib.run_convert_string_bytes (P := Try.prog) wb 9 36 U8 (strOf (encP x.p)) Try.underlying9 Try.underlying36 Try.underlying5
                          rw [strOf_sz, encP_length] at hcv
                          have HSw := Lib.hid (HSb.out.later (bytesWorld_below wb U8 (strOf (encP x.p))))
                          have HBk := Lib.hid (bytesWorld_sblk wb (encP x.p) (encP_length _) HEb.out)
                          clear hbb
                          refine hK.out _ _ ⟨HSb.out.o.cell 1, HSb.out.o.cell 3, HSb.out.o.cell 4, HSb.out.o.cell 5, HSb.out.o.cell 6⟩ (fun hHeld => ?_)
                          clear hK K
                          try simp only [Act.put, List.setIfInBounds_toArray, List.set_cons_zero, List.set_cons_succ]
                          refine wpAnyH_ready (rs := [7]) (by kernel_rfl) (by simp) ?_
                          refine AllReadyH.cons (o := ⟨some 149, _, _, _, _, _⟩) rfl (fun K hK => ?_) AllReadyH.nil
                          go_simp
                          refine hK.out _ _ ⟨HSw.out.o.cell 1, HSw.out.o.cell 3, HSw.out.o.cell 4, HSw.out.o.cell 5, HSw.out.o.cell 6⟩ (fun hHeld => ?_)
                          clear hK K
                          try simp only [Act.put, List.setIfInBounds_toArray, List.set_cons_zero, List.set_cons_succ]
                          refine wpAnyH_ready (rs := [8]) (by kernel_rfl) (by simp) ?_
                          refine AllReadyH.cons (o := ⟨some 150, _, _, _, _, _⟩) rfl (fun K hK => ?_) AllReadyH.nil
                          go_simp
                          go_wp2_with (go_at_call 21; (refine (write_any x.n _ 64 _ (encP x.p) (encP_length _).symm (by decide) hps (by omega) (by omega) (fun _ => ⟨_, rfl, HBk.out⟩) HSw.out.dk).mono ?_); intro e w8 hO; obtain ⟨rfl, q6, hS8⟩ := pp_code HSw.out hO)
                          have HSx := Lib.hid hS8
                          clear hO hS8 hcv
                          refine hK.out _ _ ⟨HSx.out.o.cell 1, HSx.out.o.cell 3, HSx.out.o.cell 4, HSx.out.o.cell 5, HSx.out.o.cell 6⟩ (fun hHeld => ?_)
                          clear hK K
                          try simp only [Act.put, List.setIfInBounds_toArray, List.set_cons_zero, List.set_cons_succ]
                          refine wpAnyH_take (i := 9) (oi := ⟨some 11, _, _, _, _, _⟩) (v := ?_) rfl (by kernel_rfl) (by kernel_rfl) (by kernel_rfl) (fun _ _ _ h => h) (Or.inl ⟨by rfl, fun W hW => ?_⟩) (by assumption) ?_
                          rotate_left
                          · obtain ⟨q1, q3, q4, q5, q6⟩ := hW; go_simp; try with_reducible rfl
                          simp only [Act.put, List.setIfInBounds_toArray, List.set_cons_zero, List.set_cons_succ]
                          refine wpAnyH_done (by kernel_rfl) ?_ _
                          go_wp2_with fail
                          go_meet
                          exact ⟨q6, rfl, HSx.out, Below.refl _ _⟩
                        case rest =>
                          obtain ⟨q6, rfl, hS6, _⟩ := hcut
                          have HS6 := Lib.hid hS6
                          clear hS6 HS7 o0 o1 o2 o3 o4 o5 o6 o7 o8 x0 x1 x2 x3 f0 f1 f2 f3
                          have o0 := HS6.out.o.cell 0
                          have o1 := HS6.out.o.cell 1
                          have o2 := HS6.out.o.cell 2
                          have o3 := HS6.out.o.cell 3
                          have o4 := HS6.out.o.cell 4
                          have o5 := HS6.out.o.cell 5
                          have o6 := HS6.out.o.cell 6
                          have o7 := HS6.out.o.cell 7
                          have o8 := HS6.out.o.cell 8
                          have x0 := HS6.out.x.cell 0
                          have x1 := HS6.out.x.cell 1
                          have x2 := HS6.out.x.cell 2
                          have x3 := HS6.out.x.cell 3
                          have f0 := HS6.out.x.frozen 0
                          have f1 := HS6.out.x.frozen 1
                          have f2 := HS6.out.x.frozen 2
                          have f3 := HS6.out.x.frozen 3
                          simp at o0 o1 o2 o3 o4 o5 o6 o7 o8 x0 x1 x2 x3
                          go_upto_region 32 with fail
                          have HS6d := Lib.hid (HS6.out.later ((Below.refl _ _).drew))
                          refine wp_region_held_drew (S := fun W => W.cell? ⟨bo, 1, none⟩ = some (.int .i64 x.n) ∧ W.cell? ⟨bo, 3, none⟩ = some (.int .i64 x.p.e) ∧ W.cell? ⟨bo, 4, none⟩ = some (.int .i64 x.p.c) ∧ W.cell? ⟨bo, 5, none⟩ = some (.int .i64 x.p.n) ∧ W.cell? ⟨bo, 6, none⟩ = some (.int .i64 x.p.f)) (by kernel_rfl) ⟨HS6d.out.o.cell 1, HS6d.out.o.cell 3, HS6d.out.o.cell 4, HS6d.out.o.cell 5, HS6d.out.o.cell 6⟩ (fun hHeld => ?_)
                          refine wpAnyH_take (i := 1) (oi := ⟨some 153, _, _, _, _, _⟩) (v := ?_) rfl (by kernel_rfl) (by kernel_rfl) (by kernel_rfl) (fun _ _ _ h => h) (Or.inl ⟨by rfl, fun W hW => ?_⟩) (by assumption) ?_
                          rotate_left
                          · obtain ⟨q1, q3, q4, q5, q6⟩ := hW; go_simp; try with_reducible rfl
                          simp only [Act.put, List.setIfInBounds_toArray, List.set_cons_zero, List.set_cons_succ]
                          refine wpAnyH_take (i := 2) (oi := ⟨some 154, _, _, _, _, _⟩) (v := ?_) rfl (by kernel_rfl) (by kernel_rfl) (by kernel_rfl) (fun _ _ _ h => h) (Or.inl ⟨by rfl, fun W hW => ?_⟩) (by assumption) ?_
                          rotate_left
                          · obtain ⟨q1, q3, q4, q5, q6⟩ := hW; go_simp; try with_reducible rfl
                          simp only [Act.put, List.setIfInBounds_toArray, List.set_cons_zero, List.set_cons_succ]
                          refine wpAnyH_take (i := 3) (oi := ⟨some 155, _, _, _, _, _⟩) (v := ?_) rfl (by kernel_rfl) (by kernel_rfl) (by kernel_rfl) (fun _ _ _ h => h) (Or.inl ⟨by rfl, fun W hW => ?_⟩) (by assumption) ?_
                          rotate_left
                          · obtain ⟨q1, q3, q4, q5, q6⟩ := hW; go_simp; try with_reducible rfl
                          simp only [Act.put, List.setIfInBounds_toArray, List.set_cons_zero, List.set_cons_succ]
                          refine wpAnyH_take (i := 4) (oi := ⟨some 156, _, _, _, _, _⟩) (v := ?_) rfl (by kernel_rfl) (by kernel_rfl) (by kernel_rfl) (fun _ _ _ h => h) (Or.inl ⟨by rfl, fun W hW => ?_⟩) (by assumption) ?_
                          rotate_left
                          · obtain ⟨q1, q3, q4, q5, q6⟩ := hW; go_simp; try with_reducible rfl
                          simp only [Act.put, List.setIfInBounds_toArray, List.set_cons_zero, List.set_cons_succ]
                          refine wpAnyH_ready (rs := [0, 5]) (by kernel_rfl) (by simp) ?_
                          refine AllReadyH.cons (o := ⟨some 152, _, _, _, _, _⟩) rfl (fun K hK => ?_) ?_
                          · go_simp
                            refine hK.out _ _ hHeld (fun hHeld => ?_)
                            clear hK K
                            try simp only [Act.put, List.setIfInBounds_toArray, List.set_cons_zero, List.set_cons_succ]
                            refine wpAnyH_ready (rs := [5]) (by kernel_rfl) (by simp) ?_
                            refine AllReadyH.cons (o := ⟨some 157, _, _, _, _, _⟩) rfl (fun K hK => ?_) AllReadyH.nil
                            go_simp
                            go_wp2_with (go_at_call 14; (refine (ref_any _ _ _ _ _).mono ?_); rintro e wa ⟨rfl, hba⟩)
                            have HSa := Lib.hid (HS6d.out.later hba)
                            clear hba
                            have x0 := HSa.out.x.cell 0; have x1 := HSa.out.x.cell 1; have x2 := HSa.out.x.cell 2; have x3 := HSa.out.x.cell 3; have f0 := HSa.out.x.frozen 0; have f1 := HSa.out.x.frozen 1; have f2 := HSa.out.x.frozen 2; have f3 := HSa.out.x.frozen 3; simp at x0 x1 x2 x3
                            refine hK.out _ _ ⟨HSa.out.o.cell 1, HSa.out.o.cell 3, HSa.out.o.cell 4, HSa.out.o.cell 5, HSa.out.o.cell 6⟩ (fun hHeld => ?_)
                            clear hK K
                            try simp only [Act.put, List.setIfInBounds_toArray, List.set_cons_zero, List.set_cons_succ]
                            refine wpAnyH_ready (rs := [6]) (by kernel_rfl) (by simp) ?_
                            refine AllReadyH.cons (o := ⟨some 158, _, _, _, _, _⟩) rfl (fun K hK => ?_) AllReadyH.nil
                            go_simp
                            go_wp2_with (go_at_call 25; (refine (HEn.out _).mono ?_); rintro e wb ⟨rfl, hbb⟩)
                            have HSb := Lib.hid (HSa.out.later hbb)
                            clear hbb
                            have x0 := HSb.out.x.cell 0; have x1 := HSb.out.x.cell 1; have x2 := HSb.out.x.cell 2; have x3 := HSb.out.x.cell 3; have f0 := HSb.out.x.frozen 0; have f1 := HSb.out.x.frozen 1; have f2 := HSb.out.x.frozen 2; have f3 := HSb.out.x.frozen 3; simp at x0 x1 x2 x3
                            refine hK.out _ _ ⟨HSb.out.o.cell 1, HSb.out.o.cell 3, HSb.out.o.cell 4, HSb.out.o.cell 5, HSb.out.o.cell 6⟩ (fun hHeld => ?_)
                            clear hK K
                            try simp only [Act.put, List.setIfInBounds_toArray, List.set_cons_zero, List.set_cons_succ]
                            refine wpAnyH_ready (rs := [7]) (by kernel_rfl) (by simp) ?_
                            refine AllReadyH.cons (o := ⟨some 159, _, _, _, _, _⟩) rfl (fun K hK => ?_) AllReadyH.nil
                            go_simp
                            go_wp2_with (go_at_call 23; (refine (HRf.out _ HSb.out.m).mono ?_); rintro e w8 ⟨sa7, qa7, sc7, qc7, rfl, hm7, hb8⟩)
                            unfold agR
                            have HSz := Lib.hid (HSb.out.later hb8)
                            have HS8 := Lib.hid (pp_ref HSb.out hb8 hm7)
                            clear hm7 hb8
                            have x0 := HSz.out.x.cell 0; have x1 := HSz.out.x.cell 1; have x2 := HSz.out.x.cell 2; have x3 := HSz.out.x.cell 3; have f0 := HSz.out.x.frozen 0; have f1 := HSz.out.x.frozen 1; have f2 := HSz.out.x.frozen 2; have f3 := HSz.out.x.frozen 3; simp at x0 x1 x2 x3
                            refine hK.out _ _ ⟨HSz.out.o.cell 1, HSz.out.o.cell 3, HSz.out.o.cell 4, HSz.out.o.cell 5, HSz.out.o.cell 6⟩ (fun hHeld => ?_)
                            clear hK K
                            try simp only [Act.put, List.setIfInBounds_toArray, List.set_cons_zero, List.set_cons_succ]
                            refine wpAnyH_take (i := 8) (oi := ⟨some 151, _, _, _, _, _⟩) (v := ?_) rfl (by kernel_rfl) (by kernel_rfl) (by kernel_rfl) (fun _ _ _ h => h) (Or.inl ⟨by rfl, fun W hW => ?_⟩) (by assumption) ?_
                            rotate_left
                            · obtain ⟨q1, q3, q4, q5, q6⟩ := hW; go_simp; try with_reducible rfl
                            simp only [Act.put, List.setIfInBounds_toArray, List.set_cons_zero, List.set_cons_succ]
                            refine wpAnyH_take (i := 9) (oi := ⟨some 160, _, _, _, _, _⟩) (v := ?_) rfl (by kernel_rfl) (by kernel_rfl) (by kernel_rfl) (fun _ _ _ h => h) (Or.inl ⟨by rfl, fun W hW => ?_⟩) (by assumption) ?_
                            rotate_left
                            · obtain ⟨q1, q3, q4, q5, q6⟩ := hW; go_simp; try with_reducible rfl
                            simp only [Act.put, List.setIfInBounds_toArray, List.set_cons_zero, List.set_cons_succ]
                            refine wpAnyH_take (i := 10) (oi := ⟨some 161, _, _, _, _, _⟩) (v := ?_) rfl (by kernel_rfl) (by kernel_rfl) (by kernel_rfl) (fun _ _ _ h => h) (Or.inl ⟨by rfl, fun W hW => ?_⟩) (by assumption) ?_
                            rotate_left
                            · obtain ⟨q1, q3, q4, q5, q6⟩ := hW; go_simp; try with_reducible rfl
                            simp only [Act.put, List.setIfInBounds_toArray, List.set_cons_zero, List.set_cons_succ]
                            refine wpAnyH_ready (rs := [11]) (by kernel_rfl) (by simp) ?_
                            refine AllReadyH.cons (o := ⟨none, _, _, _, _, _⟩) rfl (fun K hK => ?_) AllReadyH.nil
                            go_simp
                            refine hK.out _ _ ⟨HS8.out.o.cell 1, HS8.out.o.cell 3, HS8.out.o.cell 4, HS8.out.o.cell 5, HS8.out.o.cell 6⟩ (fun hHeld => ?_)
                            clear hK K
                            try simp only [Act.put, List.setIfInBounds_toArray, List.set_cons_zero, List.set_cons_succ]
                            refine wpAnyH_take (i := 12) (oi := ⟨some 12, _, _, _, _, _⟩) (v := ?_) rfl (by kernel_rfl) (by kernel_rfl) (by kernel_rfl) (fun _ _ _ h => h) (Or.inl ⟨by rfl, fun W hW => ?_⟩) (by assumption) ?_
                            rotate_left
                            · obtain ⟨q1, q3, q4, q5, q6⟩ := hW; go_simp; try with_reducible rfl
                            simp only [Act.put, List.setIfInBounds_toArray, List.set_cons_zero, List.set_cons_succ]
                            refine wpAnyH_done (by kernel_rfl) ?_ _
                            go_wp2_with fail
                            go_meet
                            rw [Hp.out]
                            exact ⟨{ L with qv := q6 }, sa7, qa7, sc7, qc7, rfl, rfl, rfl, HS8.out⟩
                          refine AllReadyH.cons (o := ⟨some 157, _, _, _, _, _⟩) rfl (fun K hK => ?_) AllReadyH.nil
                          go_simp
                          go_wp2_with (go_at_call 14; (refine (ref_any _ _ _ _ _).mono ?_); rintro e wa ⟨rfl, hba⟩)
                          have HSa := Lib.hid (HS6d.out.later hba)
                          clear hba
                          have x0 := HSa.out.x.cell 0; have x1 := HSa.out.x.cell 1; have x2 := HSa.out.x.cell 2; have x3 := HSa.out.x.cell 3; have f0 := HSa.out.x.frozen 0; have f1 := HSa.out.x.frozen 1; have f2 := HSa.out.x.frozen 2; have f3 := HSa.out.x.frozen 3; simp at x0 x1 x2 x3
                          refine hK.out _ _ ⟨HSa.out.o.cell 1, HSa.out.o.cell 3, HSa.out.o.cell 4, HSa.out.o.cell 5, HSa.out.o.cell 6⟩ (fun hHeld => ?_)
                          clear hK K
                          try simp only [Act.put, List.setIfInBounds_toArray, List.set_cons_zero, List.set_cons_succ]
                          refine wpAnyH_ready (rs := [0, 6]) (by kernel_rfl) (by simp) ?_
                          refine AllReadyH.cons (o := ⟨some 152, _, _, _, _, _⟩) rfl (fun K hK => ?_) ?_
                          · go_simp
                            refine hK.out _ _ hHeld (fun hHeld => ?_)
                            clear hK K
                            try simp only [Act.put, List.setIfInBounds_toArray, List.set_cons_zero, List.set_cons_succ]
                            refine wpAnyH_ready (rs := [6]) (by kernel_rfl) (by simp) ?_
                            refine AllReadyH.cons (o := ⟨some 158, _, _, _, _, _⟩) rfl (fun K hK => ?_) AllReadyH.nil
                            go_simp
                            go_wp2_with (go_at_call 25; (refine (HEn.out _).mono ?_); rintro e wb ⟨rfl, hbb⟩)
                            have HSb := Lib.hid (HSa.out.later hbb)
                            clear hbb
                            have x0 := HSb.out.x.cell 0; have x1 := HSb.out.x.cell 1; have x2 := HSb.out.x.cell 2; have x3 := HSb.out.x.cell 3; have f0 := HSb.out.x.frozen 0; have f1 := HSb.out.x.frozen 1; have f2 := HSb.out.x.frozen 2; have f3 := HSb.out.x.frozen 3; simp at x0 x1 x2 x3
                            refine hK.out _ _ ⟨HSb.out.o.cell 1, HSb.out.o.cell 3, HSb.out.o.cell 4, HSb.out.o.cell 5, HSb.out.o.cell 6⟩ (fun hHeld => ?_)
                            clear hK K
                            try simp only [Act.put, List.setIfInBounds_toArray, List.set_cons_zero, List.set_cons_succ]
                            refine wpAnyH_ready (rs := [7]) (by kernel_rfl) (by simp) ?_
                            refine AllReadyH.cons (o := ⟨some 159, _, _, _, _, _⟩) rfl (fun K hK => ?_) AllReadyH.nil
                            go_simp
                            go_wp2_with (go_at_call 23; (refine (HRf.out _ HSb.out.m).mono ?_); rintro e w8 ⟨sa7, qa7, sc7, qc7, rfl, hm7, hb8⟩)
                            unfold agR
                            have HSz := Lib.hid (HSb.out.later hb8)
                            have HS8 := Lib.hid (pp_ref HSb.out hb8 hm7)
                            clear hm7 hb8
                            have x0 := HSz.out.x.cell 0; have x1 := HSz.out.x.cell 1; have x2 := HSz.out.x.cell 2; have x3 := HSz.out.x.cell 3; have f0 := HSz.out.x.frozen 0; have f1 := HSz.out.x.frozen 1; have f2 := HSz.out.x.frozen 2; have f3 := HSz.out.x.frozen 3; simp at x0 x1 x2 x3
                            refine hK.out _ _ ⟨HSz.out.o.cell 1, HSz.out.o.cell 3, HSz.out.o.cell 4, HSz.out.o.cell 5, HSz.out.o.cell 6⟩ (fun hHeld => ?_)
                            clear hK K
                            try simp only [Act.put, List.setIfInBounds_toArray, List.set_cons_zero, List.set_cons_succ]
                            refine wpAnyH_take (i := 8) (oi := ⟨some 151, _, _, _, _, _⟩) (v := ?_) rfl (by kernel_rfl) (by kernel_rfl) (by kernel_rfl) (fun _ _ _ h => h) (Or.inl ⟨by rfl, fun W hW => ?_⟩) (by assumption) ?_
                            rotate_left
                            · obtain ⟨q1, q3, q4, q5, q6⟩ := hW; go_simp; try with_reducible rfl
                            simp only [Act.put, List.setIfInBounds_toArray, List.set_cons_zero, List.set_cons_succ]
                            refine wpAnyH_take (i := 9) (oi := ⟨some 160, _, _, _, _, _⟩) (v := ?_) rfl (by kernel_rfl) (by kernel_rfl) (by kernel_rfl) (fun _ _ _ h => h) (Or.inl ⟨by rfl, fun W hW => ?_⟩) (by assumption) ?_
                            rotate_left
                            · obtain ⟨q1, q3, q4, q5, q6⟩ := hW; go_simp; try with_reducible rfl
                            simp only [Act.put, List.setIfInBounds_toArray, List.set_cons_zero, List.set_cons_succ]
                            refine wpAnyH_take (i := 10) (oi := ⟨some 161, _, _, _, _, _⟩) (v := ?_) rfl (by kernel_rfl) (by kernel_rfl) (by kernel_rfl) (fun _ _ _ h => h) (Or.inl ⟨by rfl, fun W hW => ?_⟩) (by assumption) ?_
                            rotate_left
                            · obtain ⟨q1, q3, q4, q5, q6⟩ := hW; go_simp; try with_reducible rfl
                            simp only [Act.put, List.setIfInBounds_toArray, List.set_cons_zero, List.set_cons_succ]
                            refine wpAnyH_ready (rs := [11]) (by kernel_rfl) (by simp) ?_
                            refine AllReadyH.cons (o := ⟨none, _, _, _, _, _⟩) rfl (fun K hK => ?_) AllReadyH.nil
                            go_simp
                            refine hK.out _ _ ⟨HS8.out.o.cell 1, HS8.out.o.cell 3, HS8.out.o.cell 4, HS8.out.o.cell 5, HS8.out.o.cell 6⟩ (fun hHeld => ?_)
                            clear hK K
                            try simp only [Act.put, List.setIfInBounds_toArray, List.set_cons_zero, List.set_cons_succ]
                            refine wpAnyH_take (i := 12) (oi := ⟨some 12, _, _, _, _, _⟩) (v := ?_) rfl (by kernel_rfl) (by kernel_rfl) (by kernel_rfl) (fun _ _ _ h => h) (Or.inl ⟨by rfl, fun W hW => ?_⟩) (by assumption) ?_
                            rotate_left
                            · obtain ⟨q1, q3, q4, q5, q6⟩ := hW; go_simp; try with_reducible rfl
                            simp only [Act.put, List.setIfInBounds_toArray, List.set_cons_zero, List.set_cons_succ]
                            refine wpAnyH_done (by kernel_rfl) ?_ _
                            go_wp2_with fail
                            go_meet
                            rw [Hp.out]
                            exact ⟨{ L with qv := q6 }, sa7, qa7, sc7, qc7, rfl, rfl, rfl, HS8.out⟩
                          refine AllReadyH.cons (o := ⟨some 158, _, _, _, _, _⟩) rfl (fun K hK => ?_) AllReadyH.nil
                          go_simp
                          go_wp2_with (go_at_call 25; (refine (HEn.out _).mono ?_); rintro e wb ⟨rfl, hbb⟩)
                          have HSb := Lib.hid (HSa.out.later hbb)
                          clear hbb
                          have x0 := HSb.out.x.cell 0; have x1 := HSb.out.x.cell 1; have x2 := HSb.out.x.cell 2; have x3 := HSb.out.x.cell 3; have f0 := HSb.out.x.frozen 0; have f1 := HSb.out.x.frozen 1; have f2 := HSb.out.x.frozen 2; have f3 := HSb.out.x.frozen 3; simp at x0 x1 x2 x3
                          refine hK.out _ _ ⟨HSb.out.o.cell 1, HSb.out.o.cell 3, HSb.out.o.cell 4, HSb.out.o.cell 5, HSb.out.o.cell 6⟩ (fun hHeld => ?_)
                          clear hK K
                          try simp only [Act.put, List.setIfInBounds_toArray, List.set_cons_zero, List.set_cons_succ]
                          refine wpAnyH_ready (rs := [0]) (by kernel_rfl) (by simp) ?_
                          refine AllReadyH.cons (o := ⟨some 152, _, _, _, _, _⟩) rfl (fun K hK => ?_) AllReadyH.nil
                          go_simp
                          refine hK.out _ _ hHeld (fun hHeld => ?_)
                          clear hK K
                          try simp only [Act.put, List.setIfInBounds_toArray, List.set_cons_zero, List.set_cons_succ]
                          refine wpAnyH_ready (rs := [7]) (by kernel_rfl) (by simp) ?_
                          refine AllReadyH.cons (o := ⟨some 159, _, _, _, _, _⟩) rfl (fun K hK => ?_) AllReadyH.nil
                          go_simp
                          go_wp2_with (go_at_call 23; (refine (HRf.out _ HSb.out.m).mono ?_); rintro e w8 ⟨sa7, qa7, sc7, qc7, rfl, hm7, hb8⟩)
                          unfold agR
                          have HSz := Lib.hid (HSb.out.later hb8)
                          have HS8 := Lib.hid (pp_ref HSb.out hb8 hm7)
                          clear hm7 hb8
                          have x0 := HSz.out.x.cell 0; have x1 := HSz.out.x.cell 1; have x2 := HSz.out.x.cell 2; have x3 := HSz.out.x.cell 3; have f0 := HSz.out.x.frozen 0; have f1 := HSz.out.x.frozen 1; have f2 := HSz.out.x.frozen 2; have f3 := HSz.out.x.frozen 3; simp at x0 x1 x2 x3
                          refine hK.out _ _ ⟨HSz.out.o.cell 1, HSz.out.o.cell 3, HSz.out.o.cell 4, HSz.out.o.cell 5, HSz.out.o.cell 6⟩ (fun hHeld => ?_)
                          clear hK K
                          try simp only [Act.put, List.setIfInBounds_toArray, List.set_cons_zero, List.set_cons_succ]
                          refine wpAnyH_take (i := 8) (oi := ⟨some 151, _, _, _, _, _⟩) (v := ?_) rfl (by kernel_rfl) (by kernel_rfl) (by kernel_rfl) (fun _ _ _ h => h) (Or.inl ⟨by rfl, fun W hW => ?_⟩) (by assumption) ?_
                          rotate_left
                          · obtain ⟨q1, q3, q4, q5, q6⟩ := hW; go_simp; try with_reducible rfl
                          simp only [Act.put, List.setIfInBounds_toArray, List.set_cons_zero, List.set_cons_succ]
                          refine wpAnyH_take (i := 9) (oi := ⟨some 160, _, _, _, _, _⟩) (v := ?_) rfl (by kernel_rfl) (by kernel_rfl) (by kernel_rfl) (fun _ _ _ h => h) (Or.inl ⟨by rfl, fun W hW => ?_⟩) (by assumption) ?_
                          rotate_left
                          · obtain ⟨q1, q3, q4, q5, q6⟩ := hW; go_simp; try with_reducible rfl
                          simp only [Act.put, List.setIfInBounds_toArray, List.set_cons_zero, List.set_cons_succ]
                          refine wpAnyH_take (i := 10) (oi := ⟨some 161, _, _, _, _, _⟩) (v := ?_) rfl (by kernel_rfl) (by kernel_rfl) (by kernel_rfl) (fun _ _ _ h => h) (Or.inl ⟨by rfl, fun W hW => ?_⟩) (by assumption) ?_
                          rotate_left
                          · obtain ⟨q1, q3, q4, q5, q6⟩ := hW; go_simp; try with_reducible rfl
                          simp only [Act.put, List.setIfInBounds_toArray, List.set_cons_zero, List.set_cons_succ]
                          refine wpAnyH_ready (rs := [11]) (by kernel_rfl) (by simp) ?_
                          refine AllReadyH.cons (o := ⟨none, _, _, _, _, _⟩) rfl (fun K hK => ?_) AllReadyH.nil
                          go_simp
                          refine hK.out _ _ ⟨HS8.out.o.cell 1, HS8.out.o.cell 3, HS8.out.o.cell 4, HS8.out.o.cell 5, HS8.out.o.cell 6⟩ (fun hHeld => ?_)
                          clear hK K
                          try simp only [Act.put, List.setIfInBounds_toArray, List.set_cons_zero, List.set_cons_succ]
                          refine wpAnyH_take (i := 12) (oi := ⟨some 12, _, _, _, _, _⟩) (v := ?_) rfl (by kernel_rfl) (by kernel_rfl) (by kernel_rfl) (fun _ _ _ h => h) (Or.inl ⟨by rfl, fun W hW => ?_⟩) (by assumption) ?_
                          rotate_left
                          · obtain ⟨q1, q3, q4, q5, q6⟩ := hW; go_simp; try with_reducible rfl
                          simp only [Act.put, List.setIfInBounds_toArray, List.set_cons_zero, List.set_cons_succ]
                          refine wpAnyH_done (by kernel_rfl) ?_ _
                          go_wp2_with fail
                          go_meet
                          rw [Hp.out]
                          exact ⟨{ L with qv := q6 }, sa7, qa7, sc7, qc7, rfl, rfl, rfl, HS8.out⟩
                      · have hp : playP d x = (d, 0) := by unfold playP; rw [if_neg hk1, if_neg hk2, if_neg hk3, if_neg hk4, if_neg hk5, if_neg (fun h => hg h.2)]
                        have Hp := Lib.hid hp
                        have HGd : Hid (decide (Good4 ⟨x.p.e, x.p.c, x.p.n, x.p.f⟩) = false) := decide_eq_false hg
                        clear hp hk1 hk2 hk3 hk4 hk5 hk6 hg HEb0
                        go_wp2_with fail
                        refine (ref_any _ _ _ _ _).mono ?_
                        rintro e w6 ⟨rfl, hb6⟩
                        have HS6 := Lib.hid (HS0.out.later hb6)
                        clear hb6 HS0 o0 o1 o2 o3 o4 o5 o6 o7 o8 x0 x1 x2 x3 f0 f1 f2 f3
                        go_wp2_with fail
                        refine (rgood_any _ _ _ _ _).mono ?_
                        rintro e w7 ⟨rfl, hb7⟩
                        rw [HGd.out]
                        have HS7 := Lib.hid (HS6.out.later hb7)
                        clear hb7 HS6
                        go_wp2_with fail
                        go_meet
                        rw [Hp.out]
                        exact ⟨L, sa, qa, sc, qc, rfl, rfl, rfl, HS7.out⟩
                  · have b6 : (x.k == 6) = false := by simpa using hk6
                    have hp : playP d x = (d, 0) := by unfold playP; rw [if_neg hk1, if_neg hk2, if_neg hk3, if_neg hk4, if_neg hk5, if_neg (fun h => hk6 h.1)]
                    have Hp := Lib.hid hp
                    clear hp hk1 hk2 hk3 hk4 hk5 hk6
                    as_aux_lemma =>
                      go_wp2_with fail
                      go_meet
                      rw [Hp.out]
                      exact ⟨L, sa, qa, sc, qc, rfl, rfl, rfl, HS0.out⟩
      case rest =>
        obtain ⟨L', sa', qa', sc', qc', rfl, rfl, rfl, hS5⟩ := hcut
        as_aux_lemma =>
          clear HS0 HOp5 HNu HNb hst hql hps hkk o0 o1 o2 o3 o4 o5 o6 o7 o8 x0 x1 x2 x3 f0 f1 f2 f3
          have HS5 := Lib.hid hS5
          have hSm := sm_playP HS.out x
          have hPn := playP_n d x
          clear hS5 HS
          rw [HN.out] at hPn
          generalize (playP d x).1 = d' at *
          generalize (playP d x).2 = code at *
          have HSm := Lib.hid hSm
          have HPn := Lib.hid hPn
          have HNb' := Lib.hid HS5.out.dk.now.byte
          have hql' : d'.Q.length ≤ 1000000 := by have := hSm.ql; have := HKn.out; omega
          have HCn : Hid (∀ W, Mr W sa' qa' sc' qc' d' → Calls Try.prog 27 #[.agg #[.slice sa' d'.n sc', .slice qa' d'.Q.length qc', .int .i64 d'.steps, .int .i64 (lfD d')]] W (RCntO W (cntD d').1 (cntD d').2)) := fun W hW => rcounts_all hW HS5.out.dk.nums hql' HNb'.out
          have HFit := Lib.hid (cntD_fit d')
          clear hSm hPn hql'
          go_wp2_with fail
          refine (load_all HS5.out.dk).mono ?_
          generalize hcn : cntD d' = cn at *
          clear hcn
          obtain ⟨p, at_⟩ := cn
          rintro e w6 ⟨rfl, hb6⟩
          have hne := neq_self p HFit.out
          have hbb : decide ((0 : Int) < (at_ : Int)) = decide (at_ ≠ 0) := by rw [decide_eq_decide]; omega
          generalize decide (at_ ≠ 0) = bb at *
          obtain ⟨pe, pc, pn, pf⟩ := p
          simp only [ptA_def] at *
          have hal : Below w6.heap.size w6 (w6.alloc (.cells #[.int .i64 pe, .int .i64 pc, .int .i64 pn, .int .i64 pf] PNT)) := (Below.refl _ _).alloc (Nat.le_refl _) _
          have HS6 := Lib.hid ((HS5.out.later hb6).later hal)
          have HP6 := Lib.hid (blo_laid w6 PNT #[.int .i64 pe, .int .i64 pc, .int .i64 pn, .int .i64 pf])
          clear hb6 hal HS5
          have x0 := HS6.out.x.cell 0
          have x1 := HS6.out.x.cell 1
          have x2 := HS6.out.x.cell 2
          have x3 := HS6.out.x.cell 3
          simp at x0 x1 x2 x3
          go_wp2_with fail
          refine (HCn.out _ HS6.out.m).mono ?_
          rintro e w7 ⟨rfl, hb7⟩
          have hal : Below w7.heap.size w7 (w7.alloc (.cells #[.int .i64 pe, .int .i64 pc, .int .i64 pn, .int .i64 pf] RPT)) := (Below.refl _ _).alloc (Nat.le_refl _) _
          have HS7 := Lib.hid ((HS6.out.later hb7).later hal)
          have HP7 := Lib.hid ((HP6.out.later hb7).later hal)
          have HQ7 := Lib.hid (blo_laid w7 RPT #[.int .i64 pe, .int .i64 pc, .int .i64 pn, .int .i64 pf])
          clear hb7 hal HS6 HP6 HCn x0 x1 x2 x3
          simp only [ptA_def]
          go_upto_region 35 with fail
          generalize (w7.alloc (.cells #[.int .i64 pe, .int .i64 pc, .int .i64 pn, .int .i64 pf] RPT)) = w8 at *
          have c0 : ∀ x : Kept w8, x.at_.cell? ⟨bm, 0, none⟩ = some (.slice sa' d'.n sc') := fun x => by simpa using (HS7.out.later x.below).x.cell 0
          have c1 : ∀ x : Kept w8, x.at_.cell? ⟨bm, 1, none⟩ = some (.slice qa' d'.Q.length qc') := fun x => by simpa using (HS7.out.later x.below).x.cell 1
          have c2 : ∀ x : Kept w8, x.at_.cell? ⟨bm, 2, none⟩ = some (.int .i64 d'.steps) := fun x => by simpa using (HS7.out.later x.below).x.cell 2
          have c3 : ∀ x : Kept w8, x.at_.cell? ⟨bm, 3, none⟩ = some (.int .i64 (lfD d')) := fun x => by simpa using (HS7.out.later x.below).x.cell 3
          have p0 : ∀ x : Kept w8, x.at_.cell? ⟨w6.heap.size, 0, none⟩ = some (.int .i64 pe) := fun x => by simpa using (HP7.out.later x.below).cell 0
          have p1 : ∀ x : Kept w8, x.at_.cell? ⟨w6.heap.size, 1, none⟩ = some (.int .i64 pc) := fun x => by simpa using (HP7.out.later x.below).cell 1
          have p2 : ∀ x : Kept w8, x.at_.cell? ⟨w6.heap.size, 2, none⟩ = some (.int .i64 pn) := fun x => by simpa using (HP7.out.later x.below).cell 2
          have p3 : ∀ x : Kept w8, x.at_.cell? ⟨w6.heap.size, 3, none⟩ = some (.int .i64 pf) := fun x => by simpa using (HP7.out.later x.below).cell 3
          have r0 : ∀ x : Kept w8, x.at_.cell? ⟨w7.heap.size, 0, none⟩ = some (.int .i64 pe) := fun x => by simpa using (HQ7.out.later x.below).cell 0
          have r1 : ∀ x : Kept w8, x.at_.cell? ⟨w7.heap.size, 1, none⟩ = some (.int .i64 pc) := fun x => by simpa using (HQ7.out.later x.below).cell 1
          have r2 : ∀ x : Kept w8, x.at_.cell? ⟨w7.heap.size, 2, none⟩ = some (.int .i64 pn) := fun x => by simpa using (HQ7.out.later x.below).cell 2
          have r3 : ∀ x : Kept w8, x.at_.cell? ⟨w7.heap.size, 3, none⟩ = some (.int .i64 pf) := fun x => by simpa using (HQ7.out.later x.below).cell 3
          have HTl : Hid (∀ x : Kept w8, Calls Try.prog 28 #[.pointer (some ⟨L'.bd, 0, none⟩), .agg #[.slice sa' d'.n sc', .slice qa' d'.Q.length qc', .int .i64 d'.steps, .int .i64 (lfD d')]] x.at_ fun e w' => e = .returned (.bool true) ∧ Below x.at_.heap.size x.at_ w') := fun x => tells_any sa' qa' sc' qc' (HS7.out.later x.below).dk (HS7.out.later x.below).m
          have hbb2 : bb = true ∨ bb = false := by cases bb <;> simp
          rcases hbb2 with e | e
          · subst e
            have hat : (0 : Int) < (at_ : Int) := of_decide_eq_true hbb
            have hat2 : 0 < at_ := by omega
            clear hbb
            refine wp_region_kept (by kernel_rfl) (by kernel_rfl) ?_
            repeat (go_big_quiet_step (first | (go_at_call 14; exact kept_call _ (ref_any _ _ _ _ _)) | (go_at_call 28; exact kept_call _ (HTl.out _)) | fail))
            refine wpQuiet_nil ?_
            rintro W ⟨wx, rfl⟩
            have HSx := Lib.hid (HS7.out.later wx.below)
            clear HTl c0 c1 c2 c3 p0 p1 p2 p3 r0 r1 r2 r3 hne HS7 HP7 HQ7
            go_wp2_with fail
            go_roundw
            case rel => exact ⟨k + 1, L', d', sa', qa', sc', qc', HKn.out, by simp, rfl, HSx.out.dk, HSx.out.m, HSm.out, HPn.out, HSx.out.x, HSx.out.b⟩
            case measure => simp [intOf]; have := HKn.out; omega
          · subst e
            have hat : ¬ (0 : Int) < (at_ : Int) := of_decide_eq_false hbb
            obtain rfl : at_ = 0 := by omega
            clear hat
            clear hbb
            refine wp_region_kept (by kernel_rfl) (by kernel_rfl) ?_
            repeat (go_big_quiet_step (first | (go_at_call 14; exact kept_call _ (ref_any _ _ _ _ _)) | (go_at_call 28; exact kept_call _ (HTl.out _)) | fail))
            refine wpQuiet_nil ?_
            rintro W ⟨wx, rfl⟩
            have HSx := Lib.hid (HS7.out.later wx.below)
            clear HTl c0 c1 c2 c3 p0 p1 p2 p3 r0 r1 r2 r3 hne HS7 HP7 HQ7
            go_wp2_with fail
            go_roundw
            case rel => exact ⟨k + 1, L', d', sa', qa', sc', qc', HKn.out, by simp, rfl, HSx.out.dk, HSx.out.m, HSm.out, HPn.out, HSx.out.x, HSx.out.b⟩
            case measure => simp [intOf]; have := HKn.out; omega
    · have hno : ¬ (k : Int) < (len : Int) ∨ ¬ (k : Int) < 40 := by omega
      by_cases hkl : k < len
      · have k1 : ¬ (k : Int) < 40 := by omega
        have k2 : (k : Int) < (len : Int) := by omega
        clear hno
        go_wp2
        go_ret
        exact ⟨rfl, HB.out⟩
      · have k2 : ¬ (k : Int) < (len : Int) := by omega
        clear hno
        go_wp2
        go_ret
        exact ⟨rfl, HB.out⟩
set_option maxRecDepth 100000 in
theorem pointPlays_bad (k : Int) (a : Option Addr) (len cap : Nat) (w : World) (h : k < 1 ∨ 20 < k) :
    Calls Try.prog 3 #[.int .i64 k, .slice a len cap] w fun e w' => e = .returned (.bool true) ∧ Below w.heap.size w w' := by
  by_cases h1 : k < 1
  · clear h
    go_enter Try.func3, Try.ntmps3
    go_wp2_with fail
    refine (awake_any _).mono ?_
    rintro e w1 ⟨rfl, hb1⟩
    have HB1 := Lib.hid hb1
    clear hb1
    go_wp2_with fail
    refine (awake_any _).mono ?_
    rintro e w2 ⟨rfl, hb2⟩
    have HB2 := Lib.hid (HB1.out.trans (hb2.mono HB1.out.size))
    clear hb2
    go_wp2
    go_ret
    exact ⟨rfl, HB2.out⟩
  · have h2 : 20 < k := by omega
    clear h
    go_enter Try.func3, Try.ntmps3
    go_wp2_with fail
    refine (awake_any _).mono ?_
    rintro e w1 ⟨rfl, hb1⟩
    have HB1 := Lib.hid hb1
    clear hb1
    go_wp2_with fail
    refine (awake_any _).mono ?_
    rintro e w2 ⟨rfl, hb2⟩
    have HB2 := Lib.hid (HB1.out.trans (hb2.mono HB1.out.size))
    clear hb2
    go_wp2
    go_ret
    exact ⟨rfl, HB2.out⟩
theorem pointPlays_walk (k : Int) (a : Option Addr) (len cap : Nat) (F : Nat → OpP) (w : World) (_ : (Lit.int .i64 k).wf = true) (hops : OpsP w a len F) :
    Calls Try.prog 3 #[.int .i64 k, .slice a len cap] w fun e w' => e = .returned (.bool true) ∧ Below w.heap.size w w' := by
  by_cases h1 : k < 1 ∨ 20 < k
  · exact pointPlays_bad k a len cap w h1
  · obtain ⟨n, rfl⟩ : ∃ n : Nat, k = (n : Int) := ⟨k.toNat, by omega⟩
    exact pointPlays_main n a len cap F w (by omega) (by omega) hops
end Go.Proofs.Ytmkhliabmodbdaa
