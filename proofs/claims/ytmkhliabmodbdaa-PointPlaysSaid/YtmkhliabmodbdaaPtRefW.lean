/-
  The document's Wipe.
-/
import Derived.Test.YtmkhliabmodbdaaPtWipe
import Derived.Test.YtmkhliabmodbdaaDrNew
namespace Go.Proofs.Ytmkhliabmodbdaa
open Go.RowKit

theorem Dn.write2 {d : Dm} (h : Dn d) (hl : 0 ≤ d.left) (hs : d.steps < 1000000) (k : Int) {l : List Nat} (hb : ∀ x ∈ l, x < 256) : Dn (writeD d k l).1 := by
  unfold writeD
  split
  · exact h
  · rename_i h1
    split
    · exact h
    · rename_i h2
      have hp := putD_pos (i := k.toNat) (l := l) hl (bool_no h2)
      refine ⟨h.few, fun p hp => ?_, ?_, ?_⟩
      · rcases List.mem_append.1 (show p ∈ d.Q ++ [(k.toNat, l)] from hp) with q | q
        · exact h.good p q
        · rw [List.mem_singleton.1 q]
          exact ⟨by show k.toNat < d.n; omega, by show l.length = 64; omega, hb⟩
      · show 0 ≤ d.steps + 1 ∧ d.steps + 1 ≤ 1000000
        have := h.stp; omega
      · refine ⟨by show -1 ≤ (putD d k.toNat l).left; omega, ?_⟩
        show (if d.armed then d.left - 1 else d.left) ≤ _
        have := h.lft
        split <;> omega
theorem conv64p (W : World) : (convert 36 9 (.slice (some ⟨W.heap.size, 0, none⟩) 64 64)).run Try.prog (W.alloc (.cells Z64 U8)) = .ok (.string (strOf zeroB)) (W.alloc (.cells Z64 U8)) := by
  have hB : Bytes (W.alloc (.cells Z64 U8)) (some ⟨W.heap.size, 0, none⟩) zeroB := Bytes.laid W zeroB _ U8 (0, 0) (fun y hy => zeroB_byte y hy) (by decide) (fun i hi => by
    rw [Z64, List.getElem?_toArray, cellsB_get _ _ hi])
  exact run_str _ 36 9 U8 Try.underlying36 Try.underlying5 Try.underlying9 zeroB _ 64 64 (by decide) hB
structure WvR (w0 : World) (h : Nat) (d : Dm) (sa qa : Option Addr) (sc qc : Nat) (W : World) : Prop where
  x : Blo W h RDT #[.slice sa d.n sc, .slice qa d.Q.length qc, .int .i64 d.steps, .int .i64 (lfD d)]
  z : Blo W (h + 1) RDT zRD
  m : Mr W sa qa sc qc d
  b : Below h w0 W
theorem WvR.sz {w0 W : World} {h : Nat} {d : Dm} {sa qa : Option Addr} {sc qc : Nat} (s : WvR w0 h d sa qa sc qc W) : h ≤ W.heap.size := by have := s.x.lt; omega
theorem WvR.later {w0 W W' : World} {h : Nat} {d : Dm} {sa qa : Option Addr} {sc qc : Nat} (s : WvR w0 h d sa qa sc qc W) (hb : Below W.heap.size W W') : WvR w0 h d sa qa sc qc W' :=
  ⟨s.x.later hb, s.z.later hb, s.m.later hb, s.b.trans (hb.mono s.sz)⟩
theorem wv_put {w0 W W' : World} {h : Nat} {d d' : Dm} {sa qa sa' qa' : Option Addr} {sc qc sc' qc' : Nat} (s : WvR w0 h d sa qa sc qc W) (hb : Below W.heap.size W W') (hm : Mr W' sa' qa' sc' qc' d') :
    WvR w0 h d' sa' qa' sc' qc' ((((W'.setCell ⟨h, 0, none⟩ (.slice sa' d'.n sc')).setCell ⟨h, 1, none⟩ (.slice qa' d'.Q.length qc')).setCell ⟨h, 2, none⟩ (.int .i64 d'.steps)).setCell ⟨h, 3, none⟩ (.int .i64 (lfD d'))) := by
  have s' := s.later hb
  obtain ⟨k1, k2⟩ := ret_put s'.x hm s'.b (Nat.le_refl _) (.slice sa' d'.n sc') (.slice qa' d'.Q.length qc') (.int .i64 d'.steps) (.int .i64 (lfD d'))
  exact ⟨dec_fin s'.x, (((s'.z.far (p := ⟨h, 0, none⟩) (by show h + 1 ≠ h; omega) _).far (p := ⟨h, 1, none⟩) (by show h + 1 ≠ h; omega) _).far (p := ⟨h, 2, none⟩) (by show h + 1 ≠ h; omega) _).far (p := ⟨h, 3, none⟩) (by show h + 1 ≠ h; omega) _, k1, k2⟩
set_option maxRecDepth 100000 in
set_option maxHeartbeats 4000000 in
theorem rwipe_any {w : World} {d : Dm} {sa qa : Option Addr} {sc qc : Nat} (h : Dn d) (hm : Mr w sa qa sc qc d) (hs : d.steps + 3 ≤ 1000000) (hq : d.Q.length + 3 ≤ 100000) (hn : 3 ≤ d.n) :
    Calls Try.prog 16 #[.agg #[.slice sa d.n sc, .slice qa d.Q.length qc, .int .i64 d.steps, .int .i64 (lfD d)]] w (MrO w (wipeD d).1 (wipeD d).2) := by
  have hn2 := h.few.2
  have HV : Hid (WvR w w.heap.size d sa qa sc qc ((w.alloc (.cells #[.slice sa d.n sc, .slice qa d.Q.length qc, .int .i64 d.steps, .int .i64 (lfD d)] RDT)).alloc (.cells zRD RDT))) := by
    have hb1 : Below w.heap.size w ((w.alloc (.cells #[.slice sa d.n sc, .slice qa d.Q.length qc, .int .i64 d.steps, .int .i64 (lfD d)] RDT)).alloc (.cells zRD RDT)) := ((Below.refl _ _).alloc (Nat.le_refl _) _).alloc (by simp) _
    refine ⟨(blo_laid w RDT #[.slice sa d.n sc, .slice qa d.Q.length qc, .int .i64 d.steps, .int .i64 (lfD d)]).alloc _, ?_, hm.later hb1, hb1⟩
    have e := blo_laid (w.alloc (.cells #[.slice sa d.n sc, .slice qa d.Q.length qc, .int .i64 d.steps, .int .i64 (lfD d)] RDT)) RDT zRD
    rw [show (w.alloc (.cells #[.slice sa d.n sc, .slice qa d.Q.length qc, .int .i64 d.steps, .int .i64 (lfD d)] RDT)).heap.size = w.heap.size + 1 by simp] at e
    exact e
  have HS : Hid (wipeD d = if (writeD d 1 zeroB).2 ≠ 0 then writeD d 1 zeroB else if (writeD (writeD d 1 zeroB).1 2 zeroB).2 ≠ 0 then writeD (writeD d 1 zeroB).1 2 zeroB else barrD (writeD (writeD d 1 zeroB).1 2 zeroB).1) := rfl
  obtain ⟨m1, m2, m3⟩ := writeD_more d 1 zeroB hm.pos
  have hD1 : Dn (writeD d 1 zeroB).1 := h.write2 hm.pos (by omega) 1 zeroB_byte
  have hD2 : Dn (writeD (writeD d 1 zeroB).1 2 zeroB).1 := hD1.write2 m1 (by omega) 2 zeroB_byte
  obtain ⟨k1, k2, k3⟩ := writeD_more (writeD d 1 zeroB).1 2 zeroB m1
  have HP1 := Lib.hid (fun W sa qa sc qc (hW : Mr W sa qa sc qc d) => mput_n 1 zeroB h hW (by omega) (by omega))
  have HP2 := Lib.hid (fun W sa qa sc qc (hW : Mr W sa qa sc qc (writeD d 1 zeroB).1) => mput_n 2 zeroB hD1 hW (by omega) (by omega))
  have HBr := Lib.hid (fun W sa qa sc qc (hW : Mr W sa qa sc qc (writeD (writeD d 1 zeroB).1 2 zeroB).1) => mbar_n hD2 hW (by omega) (by omega))
  have hn0 : ¬ (d.n : Int) < 3 := by omega
  obtain ⟨sv, hsv⟩ : ∃ sv, wipeD d = sv := ⟨_, rfl⟩
  rw [hsv]
  rw [hsv] at HS
  have hmk := run_make64
  have hcv := conv64p ((w.alloc (.cells #[.slice sa d.n sc, .slice qa d.Q.length qc, .int .i64 d.steps, .int .i64 (lfD d)] RDT)).alloc (.cells zRD RDT))
  rw [show ((w.alloc (.cells #[.slice sa d.n sc, .slice qa d.Q.length qc, .int .i64 d.steps, .int .i64 (lfD d)] RDT)).alloc (.cells zRD RDT)).heap.size = w.heap.size + 1 + 1 by simp] at hcv
  clear hsv hm hs hq hn2 hn h m1 m2 m3 k1 k2 k3 hD1 hD2
  generalize writeD (writeD d 1 zeroB).1 2 zeroB = r2 at *
  generalize writeD d 1 zeroB = r1 at *
  obtain ⟨d1, c1⟩ := r1
  obtain ⟨d2, c2⟩ := r2
  unfold agR at HP1 HP2 HBr
  simp only [zRD_def] at *
  go_enter Try.func16, Try.ntmps16
  go_wp2_with fail
  have hal : Below ((w.alloc (.cells #[.slice sa d.n sc, .slice qa d.Q.length qc, .int .i64 d.steps, .int .i64 (lfD d)] RDT)).alloc (.cells #[.slice none 0 0, .slice none 0 0, .int .i64 0, .int .i64 0] RDT)).heap.size ((w.alloc (.cells #[.slice sa d.n sc, .slice qa d.Q.length qc, .int .i64 d.steps, .int .i64 (lfD d)] RDT)).alloc (.cells #[.slice none 0 0, .slice none 0 0, .int .i64 0, .int .i64 0] RDT)) (((w.alloc (.cells #[.slice sa d.n sc, .slice qa d.Q.length qc, .int .i64 d.steps, .int .i64 (lfD d)] RDT)).alloc (.cells #[.slice none 0 0, .slice none 0 0, .int .i64 0, .int .i64 0] RDT)).alloc (.cells Z64 U8)) := (Below.refl _ _).alloc (Nat.le_refl _) _
  have HV0 := Lib.hid (HV.out.later hal)
  clear hal HV
  have x0 := HV0.out.x.cell 0
  have x1 := HV0.out.x.cell 1
  have x2 := HV0.out.x.cell 2
  have x3 := HV0.out.x.cell 3
  have g0 := HV0.out.x.frozen 0
  have g1 := HV0.out.x.frozen 1
  have g2 := HV0.out.x.frozen 2
  have g3 := HV0.out.x.frozen 3
  have z0 := HV0.out.z.cell 0
  have z1 := HV0.out.z.cell 1
  have z2 := HV0.out.z.cell 2
  have z3 := HV0.out.z.cell 3
  have f0 := HV0.out.z.frozen 0
  have f1 := HV0.out.z.frozen 1
  have f2 := HV0.out.z.frozen 2
  have f3 := HV0.out.z.frozen 3
  simp [zRD] at x0 x1 x2 x3 z0 z1 z2 z3
  refine (HP1.out _ _ _ _ _ HV0.out.m).mono ?_
  rintro e w5 ⟨sa1, qa1, sc1, qc1, rfl, hm6, hb6⟩
  unfold agR
  have HQ1 := Lib.hid (HV0.out.later hb6)
  have HV1 := Lib.hid (wv_put HV0.out hb6 hm6)
  clear hm6 hb6 x0 x1 x2 x3 g0 g1 g2 g3 z0 z1 z2 z3 f0 f1 f2 f3 HV0
  have x0 := HQ1.out.x.cell 0
  have x1 := HQ1.out.x.cell 1
  have x2 := HQ1.out.x.cell 2
  have x3 := HQ1.out.x.cell 3
  have g0 := HQ1.out.x.frozen 0
  have g1 := HQ1.out.x.frozen 1
  have g2 := HQ1.out.x.frozen 2
  have g3 := HQ1.out.x.frozen 3
  have z0 := HQ1.out.z.cell 0
  have z1 := HQ1.out.z.cell 1
  have z2 := HQ1.out.z.cell 2
  have z3 := HQ1.out.z.cell 3
  have f0 := HQ1.out.z.frozen 0
  have f1 := HQ1.out.z.frozen 1
  have f2 := HQ1.out.z.frozen 2
  have f3 := HQ1.out.z.frozen 3
  simp [zRD] at x0 x1 x2 x3 z0 z1 z2 z3
  by_cases hc1 : c1 = 0
  · subst hc1
    have HS1 : Hid (sv = if c2 ≠ 0 then (d2, c2) else barrD d2) := by have e := HS.out; rw [if_neg (fun h => h rfl)] at e; exact e
    clear HS
    go_upto_if 20 with fail
    generalize hW : ((((w5.setCell ⟨w.heap.size, 0, none⟩ (.slice sa1 d1.n sc1)).setCell ⟨w.heap.size, 1, none⟩ (.slice qa1 d1.Q.length qc1)).setCell ⟨w.heap.size, 2, none⟩ (.int .i64 d1.steps)).setCell ⟨w.heap.size, 3, none⟩ (.int .i64 (lfD d1))) = w6 at *
    clear hW x0 x1 x2 x3 g0 g1 g2 g3 z0 z1 z2 z3 f0 f1 f2 f3 HQ1
    have x0 := HV1.out.x.cell 0
    have x1 := HV1.out.x.cell 1
    have x2 := HV1.out.x.cell 2
    have x3 := HV1.out.x.cell 3
    have g0 := HV1.out.x.frozen 0
    have g1 := HV1.out.x.frozen 1
    have g2 := HV1.out.x.frozen 2
    have g3 := HV1.out.x.frozen 3
    have z0 := HV1.out.z.cell 0
    have z1 := HV1.out.z.cell 1
    have z2 := HV1.out.z.cell 2
    have z3 := HV1.out.z.cell 3
    have f0 := HV1.out.z.frozen 0
    have f1 := HV1.out.z.frozen 1
    have f2 := HV1.out.z.frozen 2
    have f3 := HV1.out.z.frozen 3
    simp [zRD] at x0 x1 x2 x3 z0 z1 z2 z3
    go_wp2_with fail
    refine (HP2.out _ _ _ _ _ HV1.out.m).mono ?_
    rintro e w6_ ⟨sa2, qa2, sc2, qc2, rfl, hm6, hb6⟩
    unfold agR
    have HQ2 := Lib.hid (HV1.out.later hb6)
    have HV2 := Lib.hid (wv_put HV1.out hb6 hm6)
    clear hm6 hb6 x0 x1 x2 x3 g0 g1 g2 g3 z0 z1 z2 z3 f0 f1 f2 f3 HV1
    have x0 := HQ2.out.x.cell 0
    have x1 := HQ2.out.x.cell 1
    have x2 := HQ2.out.x.cell 2
    have x3 := HQ2.out.x.cell 3
    have g0 := HQ2.out.x.frozen 0
    have g1 := HQ2.out.x.frozen 1
    have g2 := HQ2.out.x.frozen 2
    have g3 := HQ2.out.x.frozen 3
    have z0 := HQ2.out.z.cell 0
    have z1 := HQ2.out.z.cell 1
    have z2 := HQ2.out.z.cell 2
    have z3 := HQ2.out.z.cell 3
    have f0 := HQ2.out.z.frozen 0
    have f1 := HQ2.out.z.frozen 1
    have f2 := HQ2.out.z.frozen 2
    have f3 := HQ2.out.z.frozen 3
    simp [zRD] at x0 x1 x2 x3 z0 z1 z2 z3
    by_cases hc2 : c2 = 0
    · subst hc2
      have HS2 : Hid (sv = barrD d2) := by have e := HS1.out; rw [if_neg (fun h => h rfl)] at e; exact e
      clear HS1
      go_upto_if 28 with fail
      generalize hW : ((((w6_.setCell ⟨w.heap.size, 0, none⟩ (.slice sa2 d2.n sc2)).setCell ⟨w.heap.size, 1, none⟩ (.slice qa2 d2.Q.length qc2)).setCell ⟨w.heap.size, 2, none⟩ (.int .i64 d2.steps)).setCell ⟨w.heap.size, 3, none⟩ (.int .i64 (lfD d2))) = w7 at *
      clear hW x0 x1 x2 x3 g0 g1 g2 g3 z0 z1 z2 z3 f0 f1 f2 f3 HQ2
      have x0 := HV2.out.x.cell 0
      have x1 := HV2.out.x.cell 1
      have x2 := HV2.out.x.cell 2
      have x3 := HV2.out.x.cell 3
      have g0 := HV2.out.x.frozen 0
      have g1 := HV2.out.x.frozen 1
      have g2 := HV2.out.x.frozen 2
      have g3 := HV2.out.x.frozen 3
      have z0 := HV2.out.z.cell 0
      have z1 := HV2.out.z.cell 1
      have z2 := HV2.out.z.cell 2
      have z3 := HV2.out.z.cell 3
      have f0 := HV2.out.z.frozen 0
      have f1 := HV2.out.z.frozen 1
      have f2 := HV2.out.z.frozen 2
      have f3 := HV2.out.z.frozen 3
      simp [zRD] at x0 x1 x2 x3 z0 z1 z2 z3
      go_wp2_with fail
      refine (HBr.out _ _ _ _ _ HV2.out.m).mono ?_
      rintro e w8 ⟨sa3, qa3, sc3, qc3, rfl, hm8, hb8⟩
      unfold agR
      have HZ8 := Lib.hid (HV2.out.z.later hb8)
      have HM8 := Lib.hid hm8
      have HB8 := Lib.hid (HV2.out.b.trans (hb8.mono HV2.out.sz))
      rw [← HS2.out] at HM8
      clear hm8 hb8 x0 x1 x2 x3 g0 g1 g2 g3 z0 z1 z2 z3 f0 f1 f2 f3
      have z0 := HZ8.out.cell 0
      have z1 := HZ8.out.cell 1
      have z2 := HZ8.out.cell 2
      have z3 := HZ8.out.cell 3
      have f0 := HZ8.out.frozen 0
      have f1 := HZ8.out.frozen 1
      have f2 := HZ8.out.frozen 2
      have f3 := HZ8.out.frozen 3
      simp [zRD] at z0 z1 z2 z3
      go_wp2_with fail
      refine bodyPost_ret (v := .tuple #[.agg (agR sa3 qa3 sc3 qc3 sv.1), .int .i64 sv.2]) ?_ rfl ⟨sa3, qa3, sc3, qc3, rfl, ?_⟩
      · rw [HS2.out]; simp [results, Try.results16, go_sem, agR, z0, z1, z2, z3]
      · exact ret_put HZ8.out HM8.out HB8.out (by omega) _ _ _ _
    · have hS := HS1.out
      rw [if_pos hc2] at hS
      subst hS
      clear HS1
      go_upto_if 28 with fail
      generalize hW : ((((w6_.setCell ⟨w.heap.size, 0, none⟩ (.slice sa2 d2.n sc2)).setCell ⟨w.heap.size, 1, none⟩ (.slice qa2 d2.Q.length qc2)).setCell ⟨w.heap.size, 2, none⟩ (.int .i64 d2.steps)).setCell ⟨w.heap.size, 3, none⟩ (.int .i64 (lfD d2))) = w7 at *
      clear hW x0 x1 x2 x3 g0 g1 g2 g3 z0 z1 z2 z3 f0 f1 f2 f3 HQ2
      have x0 := HV2.out.x.cell 0
      have x1 := HV2.out.x.cell 1
      have x2 := HV2.out.x.cell 2
      have x3 := HV2.out.x.cell 3
      have g0 := HV2.out.x.frozen 0
      have g1 := HV2.out.x.frozen 1
      have g2 := HV2.out.x.frozen 2
      have g3 := HV2.out.x.frozen 3
      have z0 := HV2.out.z.cell 0
      have z1 := HV2.out.z.cell 1
      have z2 := HV2.out.z.cell 2
      have z3 := HV2.out.z.cell 3
      have f0 := HV2.out.z.frozen 0
      have f1 := HV2.out.z.frozen 1
      have f2 := HV2.out.z.frozen 2
      have f3 := HV2.out.z.frozen 3
      simp [zRD] at x0 x1 x2 x3 z0 z1 z2 z3
      go_wp2
      refine bodyPost_ret (v := .tuple #[.agg (agR sa2 qa2 sc2 qc2 d2), .int .i64 c2]) ?_ rfl ⟨sa2, qa2, sc2, qc2, rfl, ?_⟩
      · simp [results, Try.results16, go_sem, agR, x0, x1, x2, x3, z0, z1, z2, z3]
      · exact ret_put HV2.out.z HV2.out.m HV2.out.b (by omega) _ _ _ _
  · have hS := HS.out
    rw [if_pos hc1] at hS
    subst hS
    clear HS
    go_upto_if 28 with fail
    generalize hW : ((((w5.setCell ⟨w.heap.size, 0, none⟩ (.slice sa1 d1.n sc1)).setCell ⟨w.heap.size, 1, none⟩ (.slice qa1 d1.Q.length qc1)).setCell ⟨w.heap.size, 2, none⟩ (.int .i64 d1.steps)).setCell ⟨w.heap.size, 3, none⟩ (.int .i64 (lfD d1))) = w6 at *
    clear hW x0 x1 x2 x3 g0 g1 g2 g3 z0 z1 z2 z3 f0 f1 f2 f3 HQ1
    have x0 := HV1.out.x.cell 0
    have x1 := HV1.out.x.cell 1
    have x2 := HV1.out.x.cell 2
    have x3 := HV1.out.x.cell 3
    have g0 := HV1.out.x.frozen 0
    have g1 := HV1.out.x.frozen 1
    have g2 := HV1.out.x.frozen 2
    have g3 := HV1.out.x.frozen 3
    have z0 := HV1.out.z.cell 0
    have z1 := HV1.out.z.cell 1
    have z2 := HV1.out.z.cell 2
    have z3 := HV1.out.z.cell 3
    have f0 := HV1.out.z.frozen 0
    have f1 := HV1.out.z.frozen 1
    have f2 := HV1.out.z.frozen 2
    have f3 := HV1.out.z.frozen 3
    simp [zRD] at x0 x1 x2 x3 z0 z1 z2 z3
    go_wp2
    refine bodyPost_ret (v := .tuple #[.agg (agR sa1 qa1 sc1 qc1 d1), .int .i64 c1]) ?_ rfl ⟨sa1, qa1, sc1, qc1, rfl, ?_⟩
    · simp [results, Try.results16, go_sem, agR, x0, x1, x2, x3, z0, z1, z2, z3]
    · exact ret_put HV1.out.z HV1.out.m HV1.out.b (by omega) _ _ _ _
end Go.Proofs.Ytmkhliabmodbdaa
