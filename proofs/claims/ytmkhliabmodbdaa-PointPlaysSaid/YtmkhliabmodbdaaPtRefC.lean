/-
  The document's Counts.
-/
import Derived.Test.YtmkhliabmodbdaaPtBlocks
import Derived.Test.YtmkhliabmodbdaaPtOneM
import Derived.Test.YtmkhliabmodbdaaPtRefN
import Derived.Test.YtmkhliabmodbdaaDrAny
namespace Go.Proofs.Ytmkhliabmodbdaa
open Go.RowKit

def RCntO (w : World) (p : Pt) (at_ : Nat) (e : Ending) (w' : World) : Prop := e = .returned (.tuple #[.int .i64 at_, .agg (ptA p)]) ∧ Below w.heap.size w w'
section
variable {w : World} {d : Dm} {sa qa : Option Addr} {sc qc : Nat}
theorem rread_at (hm : Mr w sa qa sc qc d) (hq : d.Q.length ≤ 1000000) (i : Nat) (hi : i < d.n) {k : Int} (hk : k = (i : Int)) (W : World) (hW : Below w.heap.size w W) :
    Calls Try.prog 45 #[.agg #[.slice sa d.n sc, .slice qa d.Q.length qc, .int .i64 d.steps, .int .i64 (lfD d)], .int .i64 k] W fun e w' => e = .returned (.string (strOf (d.N i))) ∧ Below W.heap.size W w' := by
  subst hk
  rw [hm.now i]
  exact rread_any sa qa d.n sc d.Q.length qc d.steps (lfD d) d.S d.Q i hi W rfl (hm.later hW).q (hm.later hW).s hq
set_option maxRecDepth 100000 in
set_option maxHeartbeats 4000000 in
theorem rcounts_any (hm : Mr w sa qa sc qc d) (hq : d.Q.length ≤ 1000000) (hn : 3 ≤ d.n) (hn2 : d.n ≤ 1000000) (hb : ∀ i, ∀ x ∈ d.N i, x < 256) :
    Calls Try.prog 27 #[.agg #[.slice sa d.n sc, .slice qa d.Q.length qc, .int .i64 d.steps, .int .i64 (lfD d)]] w (RCntO w (ctK d.N 2).1 (ctK d.N 2).2) := by
  have HR1 := Lib.hid (rread_at hm hq 1 (by omega) (k := 1) rfl)
  have HR2 := Lib.hid (rread_at hm hq 2 (by omega) (k := 2) rfl)
  have HD1 := Lib.hid (fun W => rdec_any (d.N 1) W (hb 1))
  have HD2 := Lib.hid (fun W => rdec_any (d.N 2) W (hb 2))
  have ho1 := decV_or (d.N 1)
  have ho2 := decV_or (d.N 2)
  have hn0 : ¬ (d.n : Int) < 3 := by omega
  rw [ct_two]
  generalize decP (d.N 1) = o1 at *
  generalize decP (d.N 2) = o2 at *
  generalize decV (d.N 1) = v1 at *
  generalize decV (d.N 2) = v2 at *
  generalize d.N 1 = X1 at *
  generalize d.N 2 = X2 at *
  generalize d.n = n at *
  generalize d.Q.length = m at *
  generalize d.steps = st at *
  generalize lfD d = lf at *
  obtain ⟨⟨pe, pc, pn, pf⟩, c1⟩ := v1
  obtain ⟨⟨qe, qc', qn, qf⟩, c2⟩ := v2
  have hb1 : Below w.heap.size w (w.alloc (.cells #[.slice sa n sc, .slice qa m qc, .int .i64 st, .int .i64 lf] RDT)) := (Below.refl _ _).alloc (Nat.le_refl _) _
  have HX0 := Lib.hid ((blo_laid w RDT #[.slice sa n sc, .slice qa m qc, .int .i64 st, .int .i64 lf]).alloc (.cells zp4 RPT))
  have HZ0 := Lib.hid (blo_laid (w.alloc (.cells #[.slice sa n sc, .slice qa m qc, .int .i64 st, .int .i64 lf] RDT)) RPT zp4)
  rw [show (w.alloc (.cells #[.slice sa n sc, .slice qa m qc, .int .i64 st, .int .i64 lf] RDT)).heap.size = w.heap.size + 1 by simp] at HZ0
  have HB0 := Lib.hid (hb1.alloc hb1.size (.cells zp4 RPT))
  have HO1 := Lib.hid ho1
  have HO2 := Lib.hid ho2
  have x0 := HX0.out.cell 0
  simp at x0
  clear hb1 ho1 ho2 hm hb hq
  go_enter Try.func27, Try.ntmps27
  go_wp2_with fail
  refine (HR1.out _ HB0.out).mono ?_
  rintro e w1 ⟨rfl, hb1⟩
  have HX1 := Lib.hid (HX0.out.later hb1)
  have HZ1 := Lib.hid (HZ0.out.later hb1)
  have HB1 := Lib.hid (HB0.out.trans (hb1.mono HB0.out.size))
  clear hb1 HX0 HZ0 HB0 x0 HR1
  go_wp2_with fail
  refine (HD1.out _).mono ?_
  rintro e w2 ⟨rfl, hb2⟩
  simp only [ptA_def]
  have hb3 : Below w1.heap.size w1 (w2.alloc (.cells #[.int .i64 pe, .int .i64 pc, .int .i64 pn, .int .i64 pf] RPT)) := hb2.alloc hb2.size _
  have HX2 := Lib.hid (HX1.out.later hb3)
  have HZ2 := Lib.hid (HZ1.out.later hb3)
  have HB2 := Lib.hid (HB1.out.trans (hb3.mono HB1.out.size))
  have HP2 := Lib.hid (blo_laid w2 RPT #[.int .i64 pe, .int .i64 pc, .int .i64 pn, .int .i64 pf])
  have HNe : Hid (w.heap.size + 1 < w2.heap.size) := by
    show w.heap.size + 1 < w2.heap.size
    have := HZ1.out.lt; have := hb2.size; omega
  clear hb2 hb3 HX1 HZ1 HB1 HD1
  have x0 := HX2.out.cell 0
  have x1 := HX2.out.cell 1
  have x2 := HX2.out.cell 2
  have x3 := HX2.out.cell 3
  simp at x0 x1 x2 x3
  go_wp2_with fail
  refine (HR2.out _ HB2.out).mono ?_
  rintro e w3 ⟨rfl, hb4⟩
  have HZ3 := Lib.hid (HZ2.out.later hb4)
  have HP3 := Lib.hid (HP2.out.later hb4)
  have HB3 := Lib.hid (HB2.out.trans (hb4.mono HB2.out.size))
  clear hb4 HX2 HZ2 HP2 HB2 HR2 x0 x1 x2 x3
  go_wp2_with fail
  refine (HD2.out _).mono ?_
  rintro e w4 ⟨rfl, hb5⟩
  simp only [ptA_def]
  have hb6 : Below w3.heap.size w3 (w4.alloc (.cells #[.int .i64 qe, .int .i64 qc', .int .i64 qn, .int .i64 qf] RPT)) := hb5.alloc hb5.size _
  have HZ5 := Lib.hid (HZ3.out.later hb6)
  have HP5 := Lib.hid (HP3.out.later hb6)
  have HB5 := Lib.hid (HB3.out.trans (hb6.mono HB3.out.size))
  have HQ5 := Lib.hid (blo_laid w4 RPT #[.int .i64 qe, .int .i64 qc', .int .i64 qn, .int .i64 qf])
  have HNe2 : Hid (w.heap.size + 1 < w4.heap.size) := by
    show w.heap.size + 1 < w4.heap.size
    have := HZ3.out.lt; have := hb5.size; omega
  clear hb5 hb6 HZ3 HP3 HB3 HD2 hn0
  generalize hg2 : w2.heap.size = g2 at *
  clear hg2
  have z0 := HZ5.out.cell 0
  have z1 := HZ5.out.cell 1
  have z2 := HZ5.out.cell 2
  have z3 := HZ5.out.cell 3
  have y0 := HZ5.out.frozen 0
  have y1 := HZ5.out.frozen 1
  have y2 := HZ5.out.frozen 2
  have y3 := HZ5.out.frozen 3
  have p0 := HP5.out.cell 0
  have p1 := HP5.out.cell 1
  have p2 := HP5.out.cell 2
  have p3 := HP5.out.cell 3
  have q0 := HQ5.out.cell 0
  have q1 := HQ5.out.cell 1
  have q2 := HQ5.out.cell 2
  have q3 := HQ5.out.cell 3
  simp at z0 z1 z2 z3 p0 p1 p2 p3 q0 q1 q2 q3
  rcases HO1.out with ⟨e1, e1c⟩ | ⟨e1, e1p, e1c⟩
  · rcases HO2.out with ⟨e2, e2c⟩ | ⟨e2, e2p, e2c⟩
    · subst e1 e2 e1c e2c
      clear HO1 HO2
      go_wp2_with fail
      refine (refNewer_any _ _ _ _ _ _ _ _ _).mono ?_
      rintro e w6 ⟨rfl, hb7⟩
      have HZ7 := Lib.hid (HZ5.out.later hb7)
      have HP7 := Lib.hid (HP5.out.later hb7)
      have HQ7 := Lib.hid (HQ5.out.later hb7)
      have HB7 := Lib.hid (HB5.out.trans (hb7.mono HB5.out.size))
      have hct : Hid (ct2 (some ⟨pe, pc, pn, pf⟩) (some ⟨qe, qc', qn, qf⟩) = if newB ⟨qe, qc', qn, qf⟩ ⟨pe, pc, pn, pf⟩ = true then (⟨qe, qc', qn, qf⟩, 2) else (⟨pe, pc, pn, pf⟩, 1)) := rfl
      clear z0 z1 z2 z3 y0 y1 y2 y3 p0 p1 p2 p3 q0 q1 q2 q3 hb7 HZ5 HP5 HQ5 HB5
      have z0 := HZ7.out.cell 0
      have z1 := HZ7.out.cell 1
      have z2 := HZ7.out.cell 2
      have z3 := HZ7.out.cell 3
      have y0 := HZ7.out.frozen 0
      have y1 := HZ7.out.frozen 1
      have y2 := HZ7.out.frozen 2
      have y3 := HZ7.out.frozen 3
      have p0 := HP7.out.cell 0
      have p1 := HP7.out.cell 1
      have p2 := HP7.out.cell 2
      have p3 := HP7.out.cell 3
      have q0 := HQ7.out.cell 0
      have q1 := HQ7.out.cell 1
      have q2 := HQ7.out.cell 2
      have q3 := HQ7.out.cell 3
      simp at z0 z1 z2 z3 p0 p1 p2 p3 q0 q1 q2 q3
      clear HZ7 HP7 HQ7
      have HNb : Hid (∀ b, newB ⟨qe, qc', qn, qf⟩ ⟨pe, pc, pn, pf⟩ = b → ct2 (some ⟨pe, pc, pn, pf⟩) (some ⟨qe, qc', qn, qf⟩) = if b = true then (⟨qe, qc', qn, qf⟩, 2) else (⟨pe, pc, pn, pf⟩, 1)) := fun b hb => by rw [hct.out, hb]
      clear hct
      cases hnb : newB ⟨qe, qc', qn, qf⟩ ⟨pe, pc, pn, pf⟩ with
      | true =>
        have HN := Lib.hid (HNb.out _ hnb)
        clear hnb HNb
        go_wp2_with fail
        go_region
        all_goals
          go_wp2
          refine bodyPost_ret (v := .tuple #[.int .i64 2, .agg (ptA ⟨qe, qc', qn, qf⟩)]) ?_ rfl ⟨by first | rfl | (rw [HN.out]; rfl) | fail, ?_⟩
          · simp [results, Try.results27, go_sem, ptA, zPt, z0, z1, z2, z3]
          · exact below_4 HB7.out.drew (Nat.le_succ _)
      | false =>
        have HN := Lib.hid (HNb.out _ hnb)
        clear hnb HNb
        go_wp2_with fail
        go_region
        all_goals
          go_wp2
          refine bodyPost_ret (v := .tuple #[.int .i64 1, .agg (ptA ⟨pe, pc, pn, pf⟩)]) ?_ rfl ⟨by first | rfl | (rw [HN.out]; rfl) | fail, ?_⟩
          · simp [results, Try.results27, go_sem, ptA, zPt, z0, z1, z2, z3]
          · exact below_4 HB7.out.drew (Nat.le_succ _)
    · subst e1 e2 e1c e2c
      clear HO1 HO2
      go_wp2_with fail
      go_region
      all_goals
        go_wp2
        refine bodyPost_ret (v := .tuple #[.int .i64 1, .agg (ptA ⟨pe, pc, pn, pf⟩)]) ?_ rfl ⟨by first | rfl | (rw [HN.out]; rfl) | fail, ?_⟩
        · simp [results, Try.results27, go_sem, ptA, zPt, z0, z1, z2, z3]
        · exact below_4 HB5.out.drew (Nat.le_succ _)
  · rcases HO2.out with ⟨e2, e2c⟩ | ⟨e2, e2p, e2c⟩
    · subst e1 e2 e1c e2c
      clear HO1 HO2
      go_wp2_with fail
      go_region
      all_goals
        go_wp2
        refine bodyPost_ret (v := .tuple #[.int .i64 2, .agg (ptA ⟨qe, qc', qn, qf⟩)]) ?_ rfl ⟨by first | rfl | (rw [HN.out]; rfl) | fail, ?_⟩
        · simp [results, Try.results27, go_sem, ptA, zPt, z0, z1, z2, z3]
        · exact below_4 HB5.out.drew (Nat.le_succ _)
    · subst e1 e2 e1c e2c
      clear HO1 HO2
      go_wp2_with fail
      all_goals
        go_wp2
        refine bodyPost_ret (v := .tuple #[.int .i64 0, .agg (ptA zPt)]) ?_ rfl ⟨by first | rfl | (rw [HN.out]; rfl) | fail, ?_⟩
        · simp [results, Try.results27, go_sem, ptA, zPt, z0, z1, z2, z3]
        · exact below_4 HB5.out (Nat.le_succ _)
end
end Go.Proofs.Ytmkhliabmodbdaa
