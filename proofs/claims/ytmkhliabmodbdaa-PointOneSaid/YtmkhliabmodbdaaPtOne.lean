/-
  The walk of PointOne.
-/
import Derived.Test.YtmkhliabmodbdaaPtOneM
import Derived.Test.YtmkhliabmodbdaaPtEq
import Derived.Test.YtmkhliabmodbdaaPtAwake
import Derived.Test.YtmkhliabmodbdaaPairs
import Derived.Test.YtmkhliabmodbdaaBools
import Derived.BigRegion
namespace Go.Proofs.Ytmkhliabmodbdaa
open Go.RowKit

theorem IsRow.ints {w : World} {a : Option Addr} {len cap : Nat} {zs : List Int} (h : IsRow .i64 w a len cap zs) : len ≤ 9223372036854775807 ∧ (len ≠ 0 → ∃ b o, a = some ⟨b, o, none⟩ ∧ ∀ i, i < len → w.cell? ⟨b, o + i, none⟩ = some (.int .i64 (zs.getD i 0))) := by
  rcases h with ⟨rfl, rfl, rfl, rfl⟩ | ⟨x, rfl, h1, h2, h3, h4, h5⟩
  · exact ⟨by decide, fun h => absurd rfl h⟩
  · have hmx : (maxLen : Nat) = 9223372036854775807 := by decide
    refine ⟨by omega, fun hne => ?_⟩
    obtain ⟨b, o, rfl, hc⟩ := Go.ints_at h4 (by omega)
    exact ⟨b, o, rfl, fun i hi => hc i (by omega)⟩
theorem cut9p (x : Int) : ∃ k : Nat, k < 9 ∧ wrap64 ((IntKind.u64.wrap x).tmod 9) = (k : Int) := by
  obtain ⟨k, hk, e⟩ := cut_mod x 8 (by decide)
  exact ⟨k, by omega, e⟩
theorem cut4p (x : Int) : ∃ k : Nat, k < 4 ∧ wrap64 ((IntKind.u64.wrap x).tmod 4) = (k : Int) := by
  obtain ⟨k, hk, e⟩ := cut_mod x 3 (by decide)
  exact ⟨k, by omega, e⟩
theorem cut4096p (x : Int) : ∃ k : Nat, k < 4096 ∧ wrap64 ((IntKind.u64.wrap x).tmod 4096) = (k : Int) := by
  obtain ⟨k, hk, e⟩ := cut_mod x 4095 (by decide)
  exact ⟨k, by omega, e⟩
theorem ct_fit (N : Nat → List Nat) : FitP (ctK N 2).1 := by
  have hz := fit_zero
  rw [ct_two]
  cases ha : decP (N 1) with
  | none =>
    cases hb : decP (N 2) with
    | none => exact hz
    | some q => exact (decP_some hb).1.fit
  | some p =>
    cases hb : decP (N 2) with
    | none => exact (decP_some ha).1.fit
    | some q =>
      show FitP (if newB q p = true then (q, 2) else (p, 1)).1
      split
      · exact (decP_some hb).1.fit
      · exact (decP_some ha).1.fit
theorem one_dk {C : Nat} {W : World} {L : Dl} {d : Dm} {g : Nat} {u0 u1 u2 u3 : Value} (hD : Dk C W L d) (hn : ¬ L.has g) : Dk C ((((W.setCell ⟨g, 0, none⟩ u0).setCell ⟨g, 1, none⟩ u1).setCell ⟨g, 2, none⟩ u2).setCell ⟨g, 3, none⟩ u3) L d := by
  have o : ∀ (W : World) (j : Nat) (u : Value), Out (fun i => i = g) W (W.setCell ⟨g, j, none⟩ u) := fun W j u => out_put W ⟨g, j, none⟩ u rfl
  exact (((hD.out (o _ 0 _) (fun i hi e => hn (by rw [← e]; exact hi))).out (o _ 1 _) (fun i hi e => hn (by rw [← e]; exact hi))).out (o _ 2 _) (fun i hi e => hn (by rw [← e]; exact hi))).out (o _ 3 _) (fun i hi e => hn (by rw [← e]; exact hi))
structure OneW (W : World) (gn k : Nat) (L : Dl) (d : Dm) (wr : World) : Prop where
  dk : Dk W.heap.size wr L d
  one : OneD d k
  now : Blo wr gn PNT (ptA (ctK d.N 2).1)
  bl : Below W.heap.size W wr
theorem OneW.later {W w w' : World} {gn k : Nat} {L : Dl} {d : Dm} (h : OneW W gn k L d w) (hb : Below w.heap.size w w') : OneW W gn k L d w' :=
  ⟨h.dk.later hb, h.one, h.now.later hb, h.bl.trans (hb.mono h.bl.size)⟩
def OneR (W : World) (gn : Nat) (dv tv iv : Value) (wr : World) : Prop :=
  ∃ (k : Nat) (L : Dl) (d : Dm), k ≤ 12 ∧ iv = .int .i64 k ∧ dv = .pointer (some ⟨L.bd, 0, none⟩) ∧ tv = .bool (decide ((ctK d.N 2).2 ≠ 0)) ∧ OneW W gn k L d wr
theorem oneD_new : OneD (newD 5) 0 := ⟨rfl, rfl, rfl, fun _ => zeroB_length, fun _ s hs => by
  show zeroB.getD _ 0 + zeroB.getD _ 0 * 256 ≤ 0
  rw [zeroB_get, zeroB_get]; decide, rfl, rfl⟩
theorem ct_new5 : ctK (newD 5).N 2 = (zPt, 0) := by
  rw [ct_two]; decide +kernel
set_option maxRecDepth 100000 in
set_option maxHeartbeats 4000000 in
theorem pointOne_walk (a : Option Addr) (n cap : Nat) (zs : List Int) (b : Option Addr) (bn bcap : Nat) (bs : List Bool) (c : Option Addr) (cn ccap : Nat) (cs : List Int) (W : World)
    (hz : Pairs W a n zs) (hbs : IsBools W b bn bs) (hcs : IsRow .i64 W c cn ccap cs) :
    Calls Try.prog 5 #[.slice a n cap, .slice b bn bcap, .slice c cn ccap] W fun e w' => e = .returned (.bool true) ∧ Below W.heap.size W w' := by
  have HZ := Lib.hid hz
  have HBs := Lib.hid hbs
  have HCs := Lib.hid hcs.ints
  have hn := hz.1
  have hcn := hcs.ints.1
  clear hz hbs hcs
  go_enter Try.func5, Try.ntmps5
  go_wp2_with fail
  refine (awake_any _).mono ?_
  rintro e w1 ⟨rfl, hb1⟩
  have HB1 := Lib.hid hb1
  clear hb1
  go_wp2_with fail
  refine (new_any 5 w1 (by decide) (by decide)).mono ?_
  rintro e w2 ⟨L, rfl, hD, hb⟩
  have hal : Below w2.heap.size w2 (w2.alloc (.cells (ptA zPt) PNT)) := (Below.refl _ _).alloc (Nat.le_refl _) _
  have HSt : Hid (OneR W w2.heap.size (.pointer (some ⟨L.bd, 0, none⟩)) (.bool false) (.int .i64 0) (w2.alloc (.cells (ptA zPt) PNT))) :=
    ⟨0, L, newD 5, by decide, rfl, rfl, by rw [ct_new5]; rfl, (hD.deeper HB1.out.size).later hal, oneD_new, by rw [ct_new5]; exact blo_laid w2 PNT (ptA zPt), (HB1.out.trans (hb.mono HB1.out.size)).trans (hal.mono (Nat.le_trans HB1.out.size hb.size))⟩
  have HLow : Hid (W.heap.size ≤ w2.heap.size) := Nat.le_trans HB1.out.size hb.size
  clear hD hb hal HB1
  generalize L.bd = bd at *
  simp only [ptA_def, zPt] at HSt
  go_wp2_with fail
  go_loopw [7, 10, 11] (fun dv tv iv wr => OneR W w2.heap.size dv tv iv wr) (fun _ _ iv _ => n - (intOf iv).toNat)
  case atStart => exact HSt.out
  case round =>
    clear HSt
    obtain ⟨k, L, d, hk, rfl, rfl, rfl, hO⟩ := hrel
    have HO := Lib.hid hO
    clear hO
    by_cases hlt : k < n ∧ k < 12
    · obtain ⟨h1, h2⟩ := hlt
      obtain ⟨pb, po, rfl, hpc⟩ := HZ.out.2.2 (by omega)
      have hx := cell_later HO.out.bl (hpc k h1).1
      have hy := cell_later HO.out.bl (hpc k h1).2
      generalize zs.getD (k * 2) 0 = x at *
      generalize zs.getD (k * 2 + 1) 0 = y at *
      obtain ⟨pc, hpc9, hpce⟩ := cut9p x
      obtain ⟨pn, hpn9, hpne⟩ := cut4096p x
      obtain ⟨pf, hpf9, hpfe⟩ := cut4096p y
      have k0 : (0 : Int) ≤ (k : Int) := by omega
      have k1 : (k : Int) < (n : Int) := by omega
      have k2 : (k : Int) < 12 := by omega
      have kb : (k : Int) ≤ 100 := by omega
      clear hpc
      have hza : Below wr.heap.size wr (wr.alloc (.cells zp4 PNT)) := (Below.refl _ _).alloc (Nat.le_refl _) _
      have hxa := cell_later hza hx
      have hya := cell_later hza hy
      clear hza
      go_wp2_with fail
      go_region
      have hb10 : Below wr.heap.size wr (wr.alloc (.cells #[.int .i64 ((k : Int) + 1), .int .i64 (pc : Int), .int .i64 (pn : Int), .int .i64 (pf : Int)] PNT)).drew := ((Below.refl _ _).alloc (Nat.le_refl _) _).drew
      have hP10 : Blo (wr.alloc (.cells #[.int .i64 ((k : Int) + 1), .int .i64 (pc : Int), .int .i64 (pn : Int), .int .i64 (pf : Int)] PNT)).drew wr.heap.size PNT #[.int .i64 ((k : Int) + 1), .int .i64 (pc : Int), .int .i64 (pn : Int), .int .i64 (pf : Int)] := (blo_laid wr PNT #[.int .i64 ((k : Int) + 1), .int .i64 (pc : Int), .int .i64 (pn : Int), .int .i64 (pf : Int)]).later ((Below.refl _ _).drew)
      have HO2 := Lib.hid (HO.out.later hb10)
      have HP2 := Lib.hid hP10
      have HPg : Hid (Good4 ⟨(k : Int) + 1, (pc : Int), (pn : Int), (pf : Int)⟩) := by
        show Good4 _
        unfold Good4; simp only; omega
      have HStep := Lib.hid (fun (m : Int) (sec : Int) => one_step HO2.out.one m ⟨(k : Int) + 1, (pc : Int), (pn : Int), (pf : Int)⟩ HPg.out rfl bs sec)
      have HArm : Hid (deadB d = false) := by
        show deadB d = false
        unfold deadB; rw [HO2.out.one.arm]; rfl
      have HSix : Hid (d.n = 5 ∧ d.steps = 0 ∧ d.Q = []) := ⟨HO2.out.one.n, HO2.out.one.steps, HO2.out.one.q⟩
      have hfit0 := ct_fit d.N
      obtain ⟨ne, nc, nn, nf, hnow⟩ : ∃ ne nc nn nf, (ctK d.N 2).1 = ⟨ne, nc, nn, nf⟩ := ⟨_, _, _, _, rfl⟩
      have HOldE : Hid (ne ≤ (k : Int)) := by
        have h := ct_old HO2.out.one.ep
        rw [← HO2.out.one.same, hnow] at h
        exact h
      have HDk := Lib.hid HO2.out.dk
      have HB2 := Lib.hid HO2.out.bl
      have HN2 : Hid (Blo (wr.alloc (.cells #[.int .i64 ((k : Int) + 1), .int .i64 (pc : Int), .int .i64 (pn : Int), .int .i64 (pf : Int)] PNT)).drew w2.heap.size PNT #[.int .i64 ne, .int .i64 nc, .int .i64 nn, .int .i64 nf]) := by
        have h := HO2.out.now
        rw [hnow] at h
        exact h
      have HW2 : Hid (W.heap.size ≤ w2.heap.size) := HLow.out
      rw [hnow] at hfit0
      have HFit := Lib.hid hfit0
      have HNow := Lib.hid hnow
      obtain ⟨bb, hbb⟩ : ∃ bb, decide ((ctK d.N 2).2 ≠ 0) = bb := ⟨_, rfl⟩
      have HBb := Lib.hid hbb
      rw [hbb]
      clear hx hy hxa hya hb10 hP10 HO hpce hpne hpfe HO2 hfit0 hnow hbb
      generalize (wr.alloc (.cells #[.int .i64 ((k : Int) + 1), .int .i64 (pc : Int), .int .i64 (pn : Int), .int .i64 (pf : Int)] PNT)).drew = w3 at *
      generalize wr.heap.size = gp at *
      by_cases hkc : k < cn
      · obtain ⟨cb, co, rfl, hcc⟩ := HCs.out.2 (by omega)
        have hcz := cell_later HB2.out (hcc k hkc)
        generalize cs.getD k 0 = z at *
        have kc : (k : Int) < (cn : Int) := by omega
        obtain ⟨m, hm4, hme⟩ := cut4p z
        clear hcc
        go_wp2_with fail
        clear hcz hme
        refine (arm_yes (m : Int) (by omega) (by omega) HDk.out HArm.out).mono ?_
        intro e w4 hO
        obtain ⟨rfl, L4, e4, hD4, hb4⟩ := hO.use HDk.out HB2.out (Nat.le_refl _) (Nat.le_refl _)
        have HN4 := Lib.hid (hO.keep HDk.out HN2.out)
        have HP4 := Lib.hid (hO.keep HDk.out HP2.out)
        have HD4 := Lib.hid hD4
        have HB4 := Lib.hid hb4
        have HSav : Hid (Calls Try.prog 12 #[.pointer (some ⟨L.bd, 0, none⟩), .agg #[.int .i64 ((k : Int) + 1), .int .i64 (pc : Int), .int .i64 (pn : Int), .int .i64 (pf : Int)]] w4 (CodeO W.heap.size w4 L4 (saveD (armD d (m : Int)) ⟨(k : Int) + 1, (pc : Int), (pn : Int), (pf : Int)⟩).1 (saveD (armD d (m : Int)) ⟨(k : Int) + 1, (pc : Int), (pn : Int), (pf : Int)⟩).2)) := by
          have h := save_any ⟨(k : Int) + 1, (pc : Int), (pn : Int), (pf : Int)⟩ HD4.out (show 3 ≤ d.n by rw [HSix.out.1]; decide) ⟨show (0 : Int) ≤ (m : Int) by omega, show d.steps + 2 ≤ 1000000 by rw [HSix.out.2.1]; omega, show d.Q.length < 1000000 by rw [HSix.out.2.2]; show 0 < 1000000; decide⟩
          rw [e4] at h
          exact h
        have HStp := Lib.hid (HStep.out (m : Int) z)
        have HE4 := Lib.hid e4
        have p0 := HP4.out.cell 0
        have p1 := HP4.out.cell 1
        have p2 := HP4.out.cell 2
        have p3 := HP4.out.cell 3
        simp at p0 p1 p2 p3
        clear hO hD4 hb4 e4 HDk HB2 HN2 HP2 HArm HStep HSix
        go_wp2_with fail
        refine HSav.out.mono ?_
        intro e w5 hO
        obtain ⟨rfl, L5, e5, hD5, hb5⟩ := hO.use HD4.out HB4.out (Nat.le_refl _) (Nat.le_refl _)
        have HN5 := Lib.hid (hO.keep HD4.out HN4.out)
        have HP5 := Lib.hid (hO.keep HD4.out HP4.out)
        have HD5 := Lib.hid hD5
        have HB5 := Lib.hid hb5
        have HE5 := Lib.hid (e5.trans HE4.out)
        clear hO hD5 hb5 e5 HE4 p0 p1 p2 p3 HSav HN4 HP4 HD4 HB4
        generalize (saveD (armD d (m : Int)) ⟨(k : Int) + 1, (pc : Int), (pn : Int), (pf : Int)⟩).2 = c5 at *
        generalize (saveD (armD d (m : Int)) ⟨(k : Int) + 1, (pc : Int), (pn : Int), (pf : Int)⟩).1 = d5 at *
        have HCr : Hid (Calls Try.prog 19 #[.pointer (some ⟨L.bd, 0, none⟩), .slice b bn bcap, .int .i64 0, .int .i64 z] w5 (CrashO w5 (crashD d5 bs 0 z))) := by
          have h := crash_any HD5.out b bs bn bcap HBs.out.1 HBs.out.2.1 (HBs.out.2.2.below HB5.out) 0 z
          rw [HE5.out] at h
          exact h
        go_wp2_with fail
        refine HCr.out.mono ?_
        rintro e w6 ⟨Lc, rfl, hD6, hb6⟩
        have HD6 := Lib.hid (hD6.deeper HB5.out.size)
        have HN6 := Lib.hid (HN5.out.later hb6)
        have HP6 := Lib.hid (HP5.out.later hb6)
        have HB6 := Lib.hid (HB5.out.trans (hb6.mono HB5.out.size))
        obtain ⟨hOne, hAB⟩ := HStp.out
        clear hD6 hb6 HCr HN5 HP5 HD5 HB5 HE5 HStp
        generalize crashD d5 bs 0 z = d6 at *
        have HLo := Lib.hid (load_any HD6.out (by rw [hOne.n]; decide))
        have HOne := Lib.hid hOne
        have HAB := Lib.hid hAB
        clear hOne hAB
        go_wp2_with fail
        refine HLo.out.mono ?_
        rintro e w7 ⟨rfl, hb7⟩
        rcases HAB.out with ⟨hA1, hA2⟩ | ⟨hc5, hEq⟩
        · rw [hA1, decide_eq_true hA2]
          simp only [ptA_def]
          have hbb : Below w6.heap.size w6 (w7.alloc (.cells #[.int .i64 ((k : Int) + 1), .int .i64 (pc : Int), .int .i64 (pn : Int), .int .i64 (pf : Int)] PNT)) := hb7.alloc hb7.size _
          have HN8 := Lib.hid (HN6.out.later hbb)
          have HP8 := Lib.hid (HP6.out.later hbb)
          have HD8 := Lib.hid (HD6.out.later hbb)
          have HB8 := Lib.hid (HB6.out.trans (hbb.mono HB6.out.size))
          have HQ8 := Lib.hid (blo_laid w7 PNT #[.int .i64 ((k : Int) + 1), .int .i64 (pc : Int), .int .i64 (pn : Int), .int .i64 (pf : Int)])
          have HFin := Lib.hid (And.intro hA1 hA2)
          have heq := fun W => eql_pt ⟨(k : Int) + 1, (pc : Int), (pn : Int), (pf : Int)⟩ ⟨(k : Int) + 1, (pc : Int), (pn : Int), (pf : Int)⟩ HPg.out.fit HPg.out.fit W
          simp only [ptA_def, decide_true] at heq
          have p0 := HP8.out.cell 0
          have p1 := HP8.out.cell 1
          have p2 := HP8.out.cell 2
          have p3 := HP8.out.cell 3
          have q0 := HQ8.out.cell 0
          have q1 := HQ8.out.cell 1
          have q2 := HQ8.out.cell 2
          have q3 := HQ8.out.cell 3
          have n0 := HN8.out.cell 0
          have n1 := HN8.out.cell 1
          have n2 := HN8.out.cell 2
          have n3 := HN8.out.cell 3
          have f0 := HN8.out.frozen 0
          have f1 := HN8.out.frozen 1
          have f2 := HN8.out.frozen 2
          have f3 := HN8.out.frozen 3
          simp at p0 p1 p2 p3 q0 q1 q2 q3 n0 n1 n2 n3
          have HNotH : Hid (¬ Lc.has w2.heap.size) := HD8.out.apart HN8.out (by decide) (by decide) (by decide)
          clear hbb hb7 HN6 HP6 HD6 HB6 hA1 hA2 HLo HAB
          go_wp2_with fail
          go_roundw
          case rel =>
            exact ⟨k + 1, Lc, d6, by omega, by simp, rfl, by rw [decide_eq_true HFin.out.2], one_dk HD8.out HNotH.out, HOne.out, by rw [HFin.out.1]; exact dec_fin HN8.out, below_4 HB8.out HW2.out⟩
          case measure => simp [intOf]; omega
        · rw [hEq, HNow.out, HBb.out]
          simp only [ptA_def]
          have hbb : Below w6.heap.size w6 (w7.alloc (.cells #[.int .i64 ne, .int .i64 nc, .int .i64 nn, .int .i64 nf] PNT)) := hb7.alloc hb7.size _
          have HN8 := Lib.hid (HN6.out.later hbb)
          have HP8 := Lib.hid (HP6.out.later hbb)
          have HD8 := Lib.hid (HD6.out.later hbb)
          have HB8 := Lib.hid (HB6.out.trans (hbb.mono HB6.out.size))
          have HQ8 := Lib.hid (blo_laid w7 PNT #[.int .i64 ne, .int .i64 nc, .int .i64 nn, .int .i64 nf])
          have HEq := Lib.hid hEq
          have hcb : (c5 == 0) = false := by rw [beq_eq_false_iff_ne]; exact hc5
          have hdf : decide ((⟨ne, nc, nn, nf⟩ : Pt) = ⟨(k : Int) + 1, (pc : Int), (pn : Int), (pf : Int)⟩) = false := decide_eq_false (fun h => by
            have h1 := congrArg Pt.e h
            have h2 := HOldE.out
            simp only at h1
            omega)
          have heq := fun W => eql_pt ⟨ne, nc, nn, nf⟩ ⟨(k : Int) + 1, (pc : Int), (pn : Int), (pf : Int)⟩ HFit.out HPg.out.fit W
          rw [hdf] at heq
          have hnq := fun W => neq_pt ⟨ne, nc, nn, nf⟩ ⟨ne, nc, nn, nf⟩ HFit.out HFit.out W
          simp only [ptA_def, decide_true, Bool.not_true] at heq hnq
          have p0 := HP8.out.cell 0
          have p1 := HP8.out.cell 1
          have p2 := HP8.out.cell 2
          have p3 := HP8.out.cell 3
          have q0 := HQ8.out.cell 0
          have q1 := HQ8.out.cell 1
          have q2 := HQ8.out.cell 2
          have q3 := HQ8.out.cell 3
          have n0 := HN8.out.cell 0
          have n1 := HN8.out.cell 1
          have n2 := HN8.out.cell 2
          have n3 := HN8.out.cell 3
          simp at p0 p1 p2 p3 q0 q1 q2 q3 n0 n1 n2 n3
          clear hbb hb7 HN6 HP6 HD6 HB6 HLo HAB hEq hc5 hdf
          cases bb with
          | true =>
            go_wp2_with fail
            go_roundw
            case rel =>
              exact ⟨k + 1, Lc, d6, by omega, by simp, rfl, by rw [HEq.out, HBb.out], HD8.out, HOne.out, by rw [HEq.out, HNow.out]; exact HN8.out, HB8.out⟩
            case measure => simp [intOf]; omega
          | false =>
            go_wp2_with fail
            go_roundw
            case rel =>
              exact ⟨k + 1, Lc, d6, by omega, by simp, rfl, by rw [HEq.out, HBb.out], HD8.out, HOne.out, by rw [HEq.out, HNow.out]; exact HN8.out, HB8.out⟩
            case measure => simp [intOf]; omega
      · have kc : ¬ (k : Int) < (cn : Int) := by omega
        go_wp2_with fail
        refine (arm_yes (0 : Int) (by omega) (by omega) HDk.out HArm.out).mono ?_
        intro e w4 hO
        obtain ⟨rfl, L4, e4, hD4, hb4⟩ := hO.use HDk.out HB2.out (Nat.le_refl _) (Nat.le_refl _)
        have HN4 := Lib.hid (hO.keep HDk.out HN2.out)
        have HP4 := Lib.hid (hO.keep HDk.out HP2.out)
        have HD4 := Lib.hid hD4
        have HB4 := Lib.hid hb4
        have HSav : Hid (Calls Try.prog 12 #[.pointer (some ⟨L.bd, 0, none⟩), .agg #[.int .i64 ((k : Int) + 1), .int .i64 (pc : Int), .int .i64 (pn : Int), .int .i64 (pf : Int)]] w4 (CodeO W.heap.size w4 L4 (saveD (armD d (0 : Int)) ⟨(k : Int) + 1, (pc : Int), (pn : Int), (pf : Int)⟩).1 (saveD (armD d (0 : Int)) ⟨(k : Int) + 1, (pc : Int), (pn : Int), (pf : Int)⟩).2)) := by
          have h := save_any ⟨(k : Int) + 1, (pc : Int), (pn : Int), (pf : Int)⟩ HD4.out (show 3 ≤ d.n by rw [HSix.out.1]; decide) ⟨show (0 : Int) ≤ (0 : Int) by omega, show d.steps + 2 ≤ 1000000 by rw [HSix.out.2.1]; omega, show d.Q.length < 1000000 by rw [HSix.out.2.2]; show 0 < 1000000; decide⟩
          rw [e4] at h
          exact h
        have HStp := Lib.hid (HStep.out (0 : Int) 0)
        have HE4 := Lib.hid e4
        have p0 := HP4.out.cell 0
        have p1 := HP4.out.cell 1
        have p2 := HP4.out.cell 2
        have p3 := HP4.out.cell 3
        simp at p0 p1 p2 p3
        clear hO hD4 hb4 e4 HDk HB2 HN2 HP2 HArm HStep HSix
        go_wp2_with fail
        refine HSav.out.mono ?_
        intro e w5 hO
        obtain ⟨rfl, L5, e5, hD5, hb5⟩ := hO.use HD4.out HB4.out (Nat.le_refl _) (Nat.le_refl _)
        have HN5 := Lib.hid (hO.keep HD4.out HN4.out)
        have HP5 := Lib.hid (hO.keep HD4.out HP4.out)
        have HD5 := Lib.hid hD5
        have HB5 := Lib.hid hb5
        have HE5 := Lib.hid (e5.trans HE4.out)
        clear hO hD5 hb5 e5 HE4 p0 p1 p2 p3 HSav HN4 HP4 HD4 HB4
        generalize (saveD (armD d (0 : Int)) ⟨(k : Int) + 1, (pc : Int), (pn : Int), (pf : Int)⟩).2 = c5 at *
        generalize (saveD (armD d (0 : Int)) ⟨(k : Int) + 1, (pc : Int), (pn : Int), (pf : Int)⟩).1 = d5 at *
        have HCr : Hid (Calls Try.prog 19 #[.pointer (some ⟨L.bd, 0, none⟩), .slice b bn bcap, .int .i64 0, .int .i64 0] w5 (CrashO w5 (crashD d5 bs 0 0))) := by
          have h := crash_any HD5.out b bs bn bcap HBs.out.1 HBs.out.2.1 (HBs.out.2.2.below HB5.out) 0 0
          rw [HE5.out] at h
          exact h
        go_wp2_with fail
        refine HCr.out.mono ?_
        rintro e w6 ⟨Lc, rfl, hD6, hb6⟩
        have HD6 := Lib.hid (hD6.deeper HB5.out.size)
        have HN6 := Lib.hid (HN5.out.later hb6)
        have HP6 := Lib.hid (HP5.out.later hb6)
        have HB6 := Lib.hid (HB5.out.trans (hb6.mono HB5.out.size))
        obtain ⟨hOne, hAB⟩ := HStp.out
        clear hD6 hb6 HCr HN5 HP5 HD5 HB5 HE5 HStp
        generalize crashD d5 bs 0 0 = d6 at *
        have HLo := Lib.hid (load_any HD6.out (by rw [hOne.n]; decide))
        have HOne := Lib.hid hOne
        have HAB := Lib.hid hAB
        clear hOne hAB
        go_wp2_with fail
        refine HLo.out.mono ?_
        rintro e w7 ⟨rfl, hb7⟩
        rcases HAB.out with ⟨hA1, hA2⟩ | ⟨hc5, hEq⟩
        · rw [hA1, decide_eq_true hA2]
          simp only [ptA_def]
          have hbb : Below w6.heap.size w6 (w7.alloc (.cells #[.int .i64 ((k : Int) + 1), .int .i64 (pc : Int), .int .i64 (pn : Int), .int .i64 (pf : Int)] PNT)) := hb7.alloc hb7.size _
          have HN8 := Lib.hid (HN6.out.later hbb)
          have HP8 := Lib.hid (HP6.out.later hbb)
          have HD8 := Lib.hid (HD6.out.later hbb)
          have HB8 := Lib.hid (HB6.out.trans (hbb.mono HB6.out.size))
          have HQ8 := Lib.hid (blo_laid w7 PNT #[.int .i64 ((k : Int) + 1), .int .i64 (pc : Int), .int .i64 (pn : Int), .int .i64 (pf : Int)])
          have HFin := Lib.hid (And.intro hA1 hA2)
          have heq := fun W => eql_pt ⟨(k : Int) + 1, (pc : Int), (pn : Int), (pf : Int)⟩ ⟨(k : Int) + 1, (pc : Int), (pn : Int), (pf : Int)⟩ HPg.out.fit HPg.out.fit W
          simp only [ptA_def, decide_true] at heq
          have p0 := HP8.out.cell 0
          have p1 := HP8.out.cell 1
          have p2 := HP8.out.cell 2
          have p3 := HP8.out.cell 3
          have q0 := HQ8.out.cell 0
          have q1 := HQ8.out.cell 1
          have q2 := HQ8.out.cell 2
          have q3 := HQ8.out.cell 3
          have n0 := HN8.out.cell 0
          have n1 := HN8.out.cell 1
          have n2 := HN8.out.cell 2
          have n3 := HN8.out.cell 3
          have f0 := HN8.out.frozen 0
          have f1 := HN8.out.frozen 1
          have f2 := HN8.out.frozen 2
          have f3 := HN8.out.frozen 3
          simp at p0 p1 p2 p3 q0 q1 q2 q3 n0 n1 n2 n3
          have HNotH : Hid (¬ Lc.has w2.heap.size) := HD8.out.apart HN8.out (by decide) (by decide) (by decide)
          clear hbb hb7 HN6 HP6 HD6 HB6 hA1 hA2 HLo HAB
          go_wp2_with fail
          go_roundw
          case rel =>
            exact ⟨k + 1, Lc, d6, by omega, by simp, rfl, by rw [decide_eq_true HFin.out.2], one_dk HD8.out HNotH.out, HOne.out, by rw [HFin.out.1]; exact dec_fin HN8.out, below_4 HB8.out HW2.out⟩
          case measure => simp [intOf]; omega
        · rw [hEq, HNow.out, HBb.out]
          simp only [ptA_def]
          have hbb : Below w6.heap.size w6 (w7.alloc (.cells #[.int .i64 ne, .int .i64 nc, .int .i64 nn, .int .i64 nf] PNT)) := hb7.alloc hb7.size _
          have HN8 := Lib.hid (HN6.out.later hbb)
          have HP8 := Lib.hid (HP6.out.later hbb)
          have HD8 := Lib.hid (HD6.out.later hbb)
          have HB8 := Lib.hid (HB6.out.trans (hbb.mono HB6.out.size))
          have HQ8 := Lib.hid (blo_laid w7 PNT #[.int .i64 ne, .int .i64 nc, .int .i64 nn, .int .i64 nf])
          have HEq := Lib.hid hEq
          have hcb : (c5 == 0) = false := by rw [beq_eq_false_iff_ne]; exact hc5
          have hdf : decide ((⟨ne, nc, nn, nf⟩ : Pt) = ⟨(k : Int) + 1, (pc : Int), (pn : Int), (pf : Int)⟩) = false := decide_eq_false (fun h => by
            have h1 := congrArg Pt.e h
            have h2 := HOldE.out
            simp only at h1
            omega)
          have heq := fun W => eql_pt ⟨ne, nc, nn, nf⟩ ⟨(k : Int) + 1, (pc : Int), (pn : Int), (pf : Int)⟩ HFit.out HPg.out.fit W
          rw [hdf] at heq
          have hnq := fun W => neq_pt ⟨ne, nc, nn, nf⟩ ⟨ne, nc, nn, nf⟩ HFit.out HFit.out W
          simp only [ptA_def, decide_true, Bool.not_true] at heq hnq
          have p0 := HP8.out.cell 0
          have p1 := HP8.out.cell 1
          have p2 := HP8.out.cell 2
          have p3 := HP8.out.cell 3
          have q0 := HQ8.out.cell 0
          have q1 := HQ8.out.cell 1
          have q2 := HQ8.out.cell 2
          have q3 := HQ8.out.cell 3
          have n0 := HN8.out.cell 0
          have n1 := HN8.out.cell 1
          have n2 := HN8.out.cell 2
          have n3 := HN8.out.cell 3
          simp at p0 p1 p2 p3 q0 q1 q2 q3 n0 n1 n2 n3
          clear hbb hb7 HN6 HP6 HD6 HB6 HLo HAB hEq hc5 hdf
          cases bb with
          | true =>
            go_wp2_with fail
            go_roundw
            case rel =>
              exact ⟨k + 1, Lc, d6, by omega, by simp, rfl, by rw [HEq.out, HBb.out], HD8.out, HOne.out, by rw [HEq.out, HNow.out]; exact HN8.out, HB8.out⟩
            case measure => simp [intOf]; omega
          | false =>
            go_wp2_with fail
            go_roundw
            case rel =>
              exact ⟨k + 1, Lc, d6, by omega, by simp, rfl, by rw [HEq.out, HBb.out], HD8.out, HOne.out, by rw [HEq.out, HNow.out]; exact HN8.out, HB8.out⟩
            case measure => simp [intOf]; omega
    · have hend : ¬ ((k : Int) < (n : Int) ∧ (k : Int) < 12) := by omega
      have HBo := Lib.hid HO.out.bl
      have k0 : (0 : Int) ≤ (k : Int) := by omega
      have kb : (k : Int) ≤ 100 := by omega
      clear HO
      by_cases h1 : (k : Int) < (n : Int)
      · have h2 : ¬ (k : Int) < 12 := by omega
        clear hend
        go_wp2
        go_ret
        exact ⟨rfl, HBo.out⟩
      · clear hend
        go_wp2
        go_ret
        exact ⟨rfl, HBo.out⟩
end Go.Proofs.Ytmkhliabmodbdaa
