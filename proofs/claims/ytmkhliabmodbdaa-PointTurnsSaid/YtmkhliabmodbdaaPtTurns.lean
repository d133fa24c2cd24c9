/-
  The walk of PointTurns.
-/
import Derived.Test.YtmkhliabmodbdaaPtTuM
import Derived.Test.YtmkhliabmodbdaaPtRow
import Derived.Test.YtmkhliabmodbdaaPtEq
import Derived.Test.YtmkhliabmodbdaaPtAwake
import Derived.Test.YtmkhliabmodbdaaPairs
import Derived.BigRegion
namespace Go.Proofs.Ytmkhliabmodbdaa
open Go.RowKit

theorem cut4096t (x : Int) : ∃ k : Nat, k < 4096 ∧ wrap64 ((IntKind.u64.wrap x).tmod 4096) = (k : Int) := by
  obtain ⟨k, hk, e⟩ := cut_mod x 4095 (by decide)
  exact ⟨k, by omega, e⟩
theorem turnF_good (zs : List Int) : TuF (turnF zs) := fun j hj => by
  obtain ⟨a, ha, ea⟩ := cut4096t (zs.getD (j * 2) 0)
  obtain ⟨b, hb, eb⟩ := cut4096t (zs.getD (j * 2 + 1) 0)
  unfold turnF Good4
  rw [ea, eb]
  refine ⟨?_, rfl, rfl⟩
  simp only
  omega
structure TuW (W : World) (F : Nat → Pt) (m n : Nat) (L : Dl) (d : Dm) (v : Value) (wr : World) : Prop where
  dk : Dk W.heap.size wr L d
  row : ∃ a cp, v = .slice a m cp ∧ wr.ownsRow W.heap.size PNT 4 (.slice a m cp) m (cellsI (flatP (ptsF F m)))
  bl : Below W.heap.size W wr
theorem TuW.later {W w w' : World} {F : Nat → Pt} {m n : Nat} {L : Dl} {d : Dm} {v : Value} (h : TuW W F m n L d v w) (hb : Below w.heap.size w w') : TuW W F m n L d v w' := by
  obtain ⟨h1, ⟨a, cp, h2, h3⟩, h4⟩ := h
  exact ⟨h1.later hb, ⟨a, cp, h2, own_later h3 hb⟩, h4.trans (hb.mono h4.size)⟩
def TuR (W : World) (F : Nat → Pt) (bd : Nat) (v i : Value) (wr : World) : Prop :=
  ∃ (m : Nat) (L : Dl) (d : Dm), m ≤ 20 ∧ i = .int .i64 m ∧ L.bd = bd ∧ TuD d F m ∧ TuW W F m m L d v wr
def TuI (W : World) (F : Nat → Pt) (m lo : Nat) (L : Dl) (d : Dm) (v : Value) (kv : Value) (wr : World) : Prop :=
  ∃ q : Nat, lo ≤ q ∧ q ≤ m ∧ kv = .int .i64 q ∧ TuW W F m m L d v wr
theorem app_all {B C : Nat} {W w w4 : World} {L : Dl} {d : Dm} {ra : Option Addr} {k rc m : Nat} {xs : List Value} {gp : Nat} {cs : Array Value} (hg : w.grownBy w4 (Value.slice ra k rc).ownBlock) (hD : Dk C w L d)
    (ho : w.ownsRow B PNT 4 (.slice ra k rc) m xs) (hP : Blo w gp PNT cs) (hlt : ∀ g, (Value.slice ra k rc).ownBlock = some g → g < gp) (hB : Below B W w) (hs : B ≤ w.heap.size) : Dk C w4 L d ∧ Blo w4 gp PNT cs ∧ Below B W w4 :=
  have o := Out.of_grown (X := fun i => (Value.slice ra k rc).ownBlock = some i) hg (fun g h => h)
  ⟨hD.out o (fun i hi hx => row_apart hD ho i hx hi), o.blo hP (fun hx => Nat.lt_irrefl _ (hlt _ hx)), hB.grown hg hs (fun q hq => own_ge ho hq)⟩
set_option maxRecDepth 100000 in
set_option maxHeartbeats 4000000 in
theorem pointTurns_walk (a : Option Addr) (n cap : Nat) (zs : List Int) (W : World) (hz : Pairs W a n zs) :
    Calls Try.prog 7 #[.slice a n cap] W fun e w' => e = .returned (.bool true) ∧ Below W.heap.size W w' := by
  have HZ := Lib.hid hz
  have hn := hz.1
  have HF := Lib.hid (turnF_good zs)
  clear hz
  go_enter Try.func7, Try.ntmps7
  go_wp2_with fail
  refine (awake_any _).mono ?_
  rintro e w1 ⟨rfl, hb1⟩
  have HB1 := Lib.hid hb1
  clear hb1
  go_wp2_with fail
  refine (new_any 3 w1 (by decide) (by decide)).mono ?_
  rintro e w2 ⟨L, rfl, hD, hb⟩
  have HSt : Hid (TuR W (turnF zs) L.bd (.slice none 0 0) (.int .i64 0) w2) :=
    ⟨0, L, newD 3, by decide, rfl, rfl, TuD.new _, hD.deeper HB1.out.size, ⟨none, 0, rfl, World.ownsRow_nil _ _ _ _⟩, HB1.out.trans (hb.mono HB1.out.size)⟩
  clear hD hb HB1
  generalize L.bd = bd at *
  go_wp2_with fail
  go_loopw [5, 6] (fun v i wr => TuR W (turnF zs) bd v i wr) (fun _ i _ => n - (intOf i).toNat)
  case atStart => exact HSt.out
  case round =>
    clear HSt
    obtain ⟨k, L, d, hk, rfl, hbd, hT, hO⟩ := hrel
    obtain ⟨hD, ⟨ra, rc, rfl, hrow⟩, hB⟩ := hO
    have HBd := Lib.hid hbd
    have HT := Lib.hid hT
    have HD := Lib.hid hD
    have HRow := Lib.hid hrow
    have HB := Lib.hid hB
    clear hbd hT hD hrow hB
    by_cases hlt : k < n ∧ k < 20
    · obtain ⟨h1, h2⟩ := hlt
      obtain ⟨pb, po, rfl, hpc⟩ := HZ.out.2.2 (by omega)
      have hx := cell_later HB.out (hpc k h1).1
      have hy := cell_later HB.out (hpc k h1).2
      have HTe : Hid (turnF zs k = ⟨1 + ((k / 3 : Nat) : Int), (k : Int), wrap64 ((IntKind.u64.wrap (zs.getD (k * 2) 0)).tmod 4096), wrap64 ((IntKind.u64.wrap (zs.getD (k * 2 + 1) 0)).tmod 4096)⟩) := rfl
      generalize zs.getD (k * 2) 0 = x at *
      generalize zs.getD (k * 2 + 1) 0 = y at *
      obtain ⟨pn, hpn9, hpne⟩ := cut4096t x
      obtain ⟨pf, hpf9, hpfe⟩ := cut4096t y
      rw [hpne, hpfe] at HTe
      have hq3 : (k : Int).tdiv 3 = ((k / 3 : Nat) : Int) := rfl
      have hq3b : k / 3 ≤ 20 := by omega
      generalize k / 3 = q3 at *
      have k0 : (0 : Int) ≤ (k : Int) := by omega
      have k1 : (k : Int) < (n : Int) := by omega
      have k2 : (k : Int) < 20 := by omega
      have hza : Below wr.heap.size wr (wr.alloc (.cells zp4 PNT)) := (Below.refl _ _).alloc (Nat.le_refl _) _
      have hxa := cell_later hza hx
      have hya := cell_later hza hy
      clear hpc hza
      go_wp2_with fail
      go_region
      have hb10 : Below wr.heap.size wr (wr.alloc (.cells #[.int .i64 (1 + (q3 : Int)), .int .i64 (k : Int), .int .i64 (pn : Int), .int .i64 (pf : Int)] PNT)).drew := ((Below.refl _ _).alloc (Nat.le_refl _) _).drew
      have HP2 : Hid (Blo (wr.alloc (.cells #[.int .i64 (1 + (q3 : Int)), .int .i64 (k : Int), .int .i64 (pn : Int), .int .i64 (pf : Int)] PNT)).drew wr.heap.size PNT #[.int .i64 (1 + (q3 : Int)), .int .i64 (k : Int), .int .i64 (pn : Int), .int .i64 (pf : Int)]) := (blo_laid wr PNT #[.int .i64 (1 + (q3 : Int)), .int .i64 (k : Int), .int .i64 (pn : Int), .int .i64 (pf : Int)]).later ((Below.refl _ _).drew)
      have HD2 := Lib.hid (HD.out.later hb10)
      have HRow2 := Lib.hid (own_later HRow.out hb10)
      have HB2 := Lib.hid (HB.out.trans (hb10.mono HB.out.size))
      have HRlt := Lib.hid (row_lt HRow.out)
      clear hx hy hxa hya hb10 HD HRow HB hpne hpfe hq3
      generalize (wr.alloc (.cells #[.int .i64 (1 + (q3 : Int)), .int .i64 (k : Int), .int .i64 (pn : Int), .int .i64 (pf : Int)] PNT)).drew = w3 at *
      generalize wr.heap.size = gp at *
      have s0 := HP2.out.cell 0
      have s1 := HP2.out.cell 1
      have s2 := HP2.out.cell 2
      have s3 := HP2.out.cell 3
      simp at s0 s1 s2 s3
      have hal := sup_pt w3 (.cells #[.int .i64 (1 + (q3 : Int)), .int .i64 (k : Int), .int .i64 (pn : Int), .int .i64 (pf : Int)] PNT)
      have HRow3 := Lib.hid (own_later HRow2.out hal)
      have HD3 := Lib.hid (HD2.out.later hal)
      have HB3 := Lib.hid (HB2.out.trans (hal.mono HB2.out.size))
      have HP3 := Lib.hid (HP2.out.later hal)
      have HOne : Hid (Pts (w3.alloc (.cells #[.int .i64 (1 + (q3 : Int)), .int .i64 (k : Int), .int .i64 (pn : Int), .int .i64 (pf : Int)] PNT)) (some ⟨w3.heap.size, 0, none⟩) [turnF zs k]) := by
        rw [HTe.out]
        exact Pts.one w3 ⟨1 + (q3 : Int), (k : Int), (pn : Int), (pf : Int)⟩ PNT
      have hbase := HB3.out.size
      clear hal HRow2 HD2 HB2 HP2
      go_wp2_with (at_builtin; refine wp_append_pts rfl (.tmp 58) (.tmp 60) 77 rfl W.heap.size PNT Try.underlying77 info_pnt (.slice ra k rc) k (ptsF (turnF zs) k) rfl HRow3.out (some ⟨w3.heap.size, 0, none⟩) 1 1 [turnF zs k] rfl rfl HOne.out (fun h => by cases h) (by omega) hbase ?_; intro a2 cp2 w4 hown hgrow; rw [ptsF_snoc] at hown; have HOwn := Lib.hid hown; obtain ⟨hD4, hP4, hB4⟩ := app_all hgrow HD3.out HRow3.out HP3.out HRlt.out HB3.out hbase; have HD4 := Lib.hid hD4; have HP4 := Lib.hid hP4; have HB4 := Lib.hid hB4; have p0 := HP4.out.cell 0; have p1 := HP4.out.cell 1; have p2 := HP4.out.cell 2; have p3 := HP4.out.cell 3; simp at p0 p1 p2 p3; clear hown hgrow hD4 hP4 hB4)
      have HSav : Hid (Calls Try.prog 12 #[.pointer (some ⟨bd, 0, none⟩), .agg #[.int .i64 (1 + (q3 : Int)), .int .i64 (k : Int), .int .i64 (pn : Int), .int .i64 (pf : Int)]] w4 (CodeO W.heap.size w4 L (nextD d (turnF zs) k) 0)) := by
        have h := save_any (turnF zs k) HD4.out (by rw [HT.out.n]; decide) (HT.out.ok hk)
        rw [HT.out.saved HF.out h2, HTe.out, HBd.out] at h
        exact h
      have HT5 := Lib.hid (HT.out.next HF.out h2)
      have HHas := Lib.hid (fun q hq hq2 => HT.out.has q hq hq2)
      clear s0 s1 s2 s3 HRow3 HD3 HB3 HP3 HOne HRlt hbase
      refine HSav.out.mono ?_
      intro e w5 hO
      obtain ⟨rfl, L5, e5, hD5, hb5⟩ := hO.use HD4.out HB4.out (Nat.le_refl _) (Nat.le_refl _)
      have HP5 := Lib.hid (hO.keep HD4.out HP4.out)
      have HRow5 := Lib.hid (hO.row HD4.out HOwn.out)
      have HD5 := Lib.hid hD5
      have HB5 := Lib.hid hb5
      have HBd5 := Lib.hid (e5.trans HBd.out)
      clear hO hD5 hb5 e5 HSav p0 p1 p2 p3 HD4 HP4 HB4 HOwn HBd HT
      generalize nextD d (turnF zs) k = d5 at *
      by_cases hk0 : k = 0
      · have z0 : ¬ (0 : Int) < (k : Int) := by omega
        have zm : max (0 : Int) ((k : Int) - 1) = ((0 : Nat) : Int) := by omega
        have HK0 := Lib.hid hk0
        clear hk0
        have HLo : Hid (Calls Try.prog 26 #[.pointer (some ⟨bd, 0, none⟩)] w5 fun e w' => e = .returned (.tuple #[.agg #[.int .i64 (1 + (q3 : Int)), .int .i64 (k : Int), .int .i64 (pn : Int), .int .i64 (pf : Int)], .bool true]) ∧ Below w5.heap.size w5 w') := by
          have h := load_any HD5.out (by rw [HT5.out.n]; decide)
          rw [HT5.out.load.1, HT5.out.load.2, HTe.out, HBd5.out] at h
          exact h
        go_wp2_with fail
        refine HLo.out.mono ?_
        rintro e w7 ⟨rfl, hb7⟩
        have hbb : Below w5.heap.size w5 (w7.alloc (.cells #[.int .i64 (1 + (q3 : Int)), .int .i64 (k : Int), .int .i64 (pn : Int), .int .i64 (pf : Int)] PNT)) := hb7.alloc hb7.size _
        have HP8 := Lib.hid (HP5.out.later hbb)
        have HD8 := Lib.hid (HD5.out.later hbb)
        have HB8 := Lib.hid (HB5.out.trans (hbb.mono HB5.out.size))
        have HRow8 := Lib.hid (own_later HRow5.out hbb)
        have HQ8 := Lib.hid (blo_laid w7 PNT #[.int .i64 (1 + (q3 : Int)), .int .i64 (k : Int), .int .i64 (pn : Int), .int .i64 (pf : Int)])
        have hfit : FitP ⟨1 + (q3 : Int), (k : Int), (pn : Int), (pf : Int)⟩ := by
          have h := (HF.out k h2).1.fit
          rw [HTe.out] at h
          exact h
        have hnq := fun W => neq_pt ⟨1 + (q3 : Int), (k : Int), (pn : Int), (pf : Int)⟩ ⟨1 + (q3 : Int), (k : Int), (pn : Int), (pf : Int)⟩ hfit hfit W
        simp only [ptA_def, decide_true, Bool.not_true] at hnq
        have p0 := HP8.out.cell 0
        have p1 := HP8.out.cell 1
        have p2 := HP8.out.cell 2
        have p3 := HP8.out.cell 3
        have q0 := HQ8.out.cell 0
        have q1 := HQ8.out.cell 1
        have q2 := HQ8.out.cell 2
        have q3' := HQ8.out.cell 3
        simp at p0 p1 p2 p3 q0 q1 q2 q3'
        clear hbb hb7 hfit HLo HP5 HD5 HB5 HRow5
        go_wp2_with fail
        clear p0 p1 p2 p3 q0 q1 q2 q3' hnq
        have HSt2 : Hid (TuI W (turnF zs) (k + 1) 0 L5 d5 (.slice a2 (k + 1) cp2) (.int .i64 (0 : Nat)) (w7.alloc (.cells #[.int .i64 (1 + (q3 : Int)), .int .i64 (k : Int), .int .i64 (pn : Int), .int .i64 (pf : Int)] PNT))) := ⟨0, by omega, by omega, rfl, HD8.out, ⟨_, _, rfl, HRow8.out⟩, HB8.out⟩
        clear HP8 HD8 HB8 HRow8 HQ8
        generalize (w7.alloc (.cells #[.int .i64 (1 + (q3 : Int)), .int .i64 (k : Int), .int .i64 (pn : Int), .int .i64 (pf : Int)] PNT)) = w9 at *
        go_loopw [10] (fun kv wr => TuI W (turnF zs) (k + 1) 0 L5 d5 (.slice a2 (k + 1) cp2) kv wr) (fun kv _ => k + 1 - (intOf kv).toNat)
        case atStart => exact HSt2.out
        case round =>
          clear HSt2
          obtain ⟨q, hql, hqk, rfl, hD, ⟨xa, xc, hxe, hrow⟩, hB⟩ := hrel
          cases hxe
          have HD := Lib.hid hD
          have HRow := Lib.hid hrow
          have HB := Lib.hid hB
          clear hD hrow hB
          by_cases hle : q ≤ k
          · have l0 : (q : Int) ≤ (k : Int) := by omega
            have l1 : (0 : Int) ≤ (q : Int) := by omega
            have l2 : (q : Int) < (k : Int) + 1 := by omega
            have ht2 : (q : Int).tmod 2 = ((q % 2 : Nat) : Int) := rfl
            have HHq : Hid (d5.N (1 + q % 2) = encP (turnF zs q)) := HHas.out q hle (by have := HK0.out; omega)
            have HRd : Hid (Calls Try.prog 35 #[.pointer (some ⟨bd, 0, none⟩), .int .i64 (1 + ((q % 2 : Nat) : Int))] wr (ReadO wr (encP (turnF zs q)))) := by
              have h := read_yes (1 + q % 2) (by rw [HT5.out.n]; omega) HD.out
              rw [HHq.out, HBd5.out, show ((1 + q % 2 : Nat) : Int) = 1 + ((q % 2 : Nat) : Int) by omega] at h
              exact h
            have hq2 : q % 2 ≤ 1 := by omega
            generalize q % 2 = r2 at *
            go_wp2_with fail
            refine HRd.out.mono ?_
            rintro e w10 ⟨g, rfl, hx, hg, hb10⟩
            have HDe : Hid (Calls Try.prog 31 #[.slice (some ⟨g, 0, none⟩) 64 64] w10 (DecO w10 (turnF zs q) 0)) := decode_64 _ 64 _ w10 hx.2.1 (Nat.le_refl _) hx.bytes (turnF zs q) 0 (.inl ⟨decP_enc (HF.out q (by omega)).1, rfl⟩)
            have HD10 := Lib.hid (HD.out.later hb10)
            have HRow10 := Lib.hid (own_later HRow.out hb10)
            have HB10 := Lib.hid (HB.out.trans (hb10.mono HB.out.size))
            clear hx hg hb10 HRd HD HRow HB ht2
            go_wp2_with fail
            refine HDe.out.mono ?_
            rintro e w11 ⟨rfl, hb11⟩
            simp only [ptA_def]
            have hb12 : Below w10.heap.size w10 (w11.alloc (.cells #[.int .i64 (turnF zs q).e, .int .i64 (turnF zs q).c, .int .i64 (turnF zs q).n, .int .i64 (turnF zs q).f] PNT)) := hb11.alloc hb11.size _
            have HD12 := Lib.hid (HD10.out.later hb12)
            have HRow12 := Lib.hid (own_later HRow10.out hb12)
            have HB12 := Lib.hid (HB10.out.trans (hb12.mono HB10.out.size))
            have HQ12 := Lib.hid (blo_laid w11 PNT #[.int .i64 (turnF zs q).e, .int .i64 (turnF zs q).c, .int .i64 (turnF zs q).n, .int .i64 (turnF zs q).f])
            obtain ⟨rb2, ro2, hra2, x0, x1, x2, x3⟩ := (Pts.own HRow12.out).at (i := q) (by rw [ptsF_length]; omega)
            rw [ptsF_get _ _ _ (by omega)] at x0 x1 x2 x3
            subst hra2
            have hnq := fun W => neq_pt (turnF zs q) (turnF zs q) (HF.out q (by omega)).1.fit (HF.out q (by omega)).1.fit W
            simp only [ptA_def, decide_true, Bool.not_true] at hnq
            have y0 := HQ12.out.cell 0
            have y1 := HQ12.out.cell 1
            have y2 := HQ12.out.cell 2
            have y3 := HQ12.out.cell 3
            simp at y0 y1 y2 y3
            clear hb11 hb12 HD10 HRow10 HB10 HDe
            go_wp2_with fail
            go_quiet (fail)
            have hbq : Below (w11.alloc (.cells #[.int .i64 (turnF zs q).e, .int .i64 (turnF zs q).c, .int .i64 (turnF zs q).n, .int .i64 (turnF zs q).f] PNT)).heap.size (w11.alloc (.cells #[.int .i64 (turnF zs q).e, .int .i64 (turnF zs q).c, .int .i64 (turnF zs q).n, .int .i64 (turnF zs q).f] PNT)) ((w11.alloc (.cells #[.int .i64 (turnF zs q).e, .int .i64 (turnF zs q).c, .int .i64 (turnF zs q).n, .int .i64 (turnF zs q).f] PNT)).drewN nq) := below_drewN (Below.refl _ _) nq
            have HD13 := Lib.hid (HD12.out.later hbq)
            have HRow13 := Lib.hid (own_later HRow12.out hbq)
            have HB13 := Lib.hid (HB12.out.trans (hbq.mono HB12.out.size))
            clear hbq HD12 HRow12 HB12 HQ12 x0 x1 x2 x3 y0 y1 y2 y3 hnq
            generalize ((w11.alloc (.cells #[.int .i64 (turnF zs q).e, .int .i64 (turnF zs q).c, .int .i64 (turnF zs q).n, .int .i64 (turnF zs q).f] PNT)).drewN nq) = w13 at *
            go_wp2_with fail
            go_roundw
            case rel => exact ⟨q + 1, by omega, by omega, by simp, HD13.out, ⟨_, _, rfl, HRow13.out⟩, HB13.out⟩
            case measure => simp [intOf]; omega
          · have l0 : ¬ (q : Int) ≤ (k : Int) := by omega
            have l1 : (q : Int) ≤ 100 := by omega
            have l2 : (0 : Int) ≤ (q : Int) := by omega
            go_wp2_with fail
            go_roundw
            case rel => exact ⟨k + 1, L5, d5, by omega, by simp, HBd5.out, HT5.out, HD.out, ⟨_, _, rfl, HRow.out⟩, HB.out⟩
            case measure => simp [intOf]; omega
      · obtain ⟨j, hj⟩ : ∃ j, k - 1 = j := ⟨_, rfl⟩
        have z0 : (0 : Int) < (k : Int) := by omega
        have j1 : (k : Int) - 1 = (j : Int) := by omega
        have j2 : (0 : Int) ≤ (j : Int) := by omega
        have j3 : (j : Int) < (k : Int) + 1 := by omega
        have zm : max (0 : Int) (j : Int) = ((j : Nat) : Int) := by omega
        obtain ⟨rb, ro, hra, x0, x1, x2, x3⟩ := (Pts.own HRow5.out).at (i := j) (by rw [ptsF_length]; omega)
        rw [ptsF_get _ _ _ (by omega)] at x0 x1 x2 x3
        subst hra
        have HSav2 : Hid (Calls Try.prog 12 #[.pointer (some ⟨bd, 0, none⟩), .agg #[.int .i64 (turnF zs j).e, .int .i64 (turnF zs j).c, .int .i64 (turnF zs j).n, .int .i64 (turnF zs j).f]] w5 (CodeO W.heap.size w5 L5 d5 103)) := by
          have h := save_any (turnF zs j) HD5.out (by rw [HT5.out.n]; decide) (HT5.out.ok (by omega))
          have hs := HT5.out.stale HF.out h2 hk0
          rw [hj] at hs
          rw [hs, HBd5.out] at h
          exact h
        go_wp2_with fail
        refine HSav2.out.mono ?_
        intro e w6 hO
        obtain ⟨rfl, L6, e6, hD6, hb6⟩ := hO.use HD5.out HB5.out (Nat.le_refl _) (Nat.le_refl _)
        have HP6 := Lib.hid (hO.keep HD5.out HP5.out)
        have HRow6 := Lib.hid (hO.row HD5.out HRow5.out)
        have HD6 := Lib.hid hD6
        have HB6 := Lib.hid hb6
        have HBd6 := Lib.hid (e6.trans HBd5.out)
        clear hO hD6 hb6 e6 HSav2 x0 x1 x2 x3 HD5 HP5 HB5 HRow5 HBd5
        have HLo : Hid (Calls Try.prog 26 #[.pointer (some ⟨bd, 0, none⟩)] w6 fun e w' => e = .returned (.tuple #[.agg #[.int .i64 (1 + (q3 : Int)), .int .i64 (k : Int), .int .i64 (pn : Int), .int .i64 (pf : Int)], .bool true]) ∧ Below w6.heap.size w6 w') := by
          have h := load_any HD6.out (by rw [HT5.out.n]; decide)
          rw [HT5.out.load.1, HT5.out.load.2, HTe.out, HBd6.out] at h
          exact h
        go_wp2_with fail
        refine HLo.out.mono ?_
        rintro e w7 ⟨rfl, hb7⟩
        have hbb : Below w6.heap.size w6 (w7.alloc (.cells #[.int .i64 (1 + (q3 : Int)), .int .i64 (k : Int), .int .i64 (pn : Int), .int .i64 (pf : Int)] PNT)) := hb7.alloc hb7.size _
        have HP8 := Lib.hid (HP6.out.later hbb)
        have HD8 := Lib.hid (HD6.out.later hbb)
        have HB8 := Lib.hid (HB6.out.trans (hbb.mono HB6.out.size))
        have HRow8 := Lib.hid (own_later HRow6.out hbb)
        have HQ8 := Lib.hid (blo_laid w7 PNT #[.int .i64 (1 + (q3 : Int)), .int .i64 (k : Int), .int .i64 (pn : Int), .int .i64 (pf : Int)])
        have hfit : FitP ⟨1 + (q3 : Int), (k : Int), (pn : Int), (pf : Int)⟩ := by
          have h := (HF.out k h2).1.fit
          rw [HTe.out] at h
          exact h
        have hnq := fun W => neq_pt ⟨1 + (q3 : Int), (k : Int), (pn : Int), (pf : Int)⟩ ⟨1 + (q3 : Int), (k : Int), (pn : Int), (pf : Int)⟩ hfit hfit W
        simp only [ptA_def, decide_true, Bool.not_true] at hnq
        have p0 := HP8.out.cell 0
        have p1 := HP8.out.cell 1
        have p2 := HP8.out.cell 2
        have p3 := HP8.out.cell 3
        have q0 := HQ8.out.cell 0
        have q1 := HQ8.out.cell 1
        have q2 := HQ8.out.cell 2
        have q3' := HQ8.out.cell 3
        simp at p0 p1 p2 p3 q0 q1 q2 q3'
        clear hbb hb7 hfit HLo HP6 HD6 HB6 HRow6
        go_wp2_with fail
        all_goals
          clear p0 p1 p2 p3 q0 q1 q2 q3' hnq
          have HSt2 : Hid (TuI W (turnF zs) (k + 1) j L6 d5 (.slice (some ⟨rb, ro, none⟩) (k + 1) cp2) (.int .i64 (j : Nat)) (w7.alloc (.cells #[.int .i64 (1 + (q3 : Int)), .int .i64 (k : Int), .int .i64 (pn : Int), .int .i64 (pf : Int)] PNT))) := ⟨j, by omega, by omega, rfl, HD8.out, ⟨_, _, rfl, HRow8.out⟩, HB8.out⟩
          clear HP8 HD8 HB8 HRow8 HQ8
          generalize (w7.alloc (.cells #[.int .i64 (1 + (q3 : Int)), .int .i64 (k : Int), .int .i64 (pn : Int), .int .i64 (pf : Int)] PNT)) = w9 at *
          go_loopw [10] (fun kv wr => TuI W (turnF zs) (k + 1) j L6 d5 (.slice (some ⟨rb, ro, none⟩) (k + 1) cp2) kv wr) (fun kv _ => k + 1 - (intOf kv).toNat)
          case atStart => first | exact HSt2.out | (obtain rfl : j = 0 := (by omega); exact HSt2.out)
          case round =>
            clear HSt2
            obtain ⟨q, hql, hqk, rfl, hD, ⟨xa, xc, hxe, hrow⟩, hB⟩ := hrel
            cases hxe
            have HD := Lib.hid hD
            have HRow := Lib.hid hrow
            have HB := Lib.hid hB
            clear hD hrow hB
            by_cases hle : q ≤ k
            · have l0 : (q : Int) ≤ (k : Int) := by omega
              have l1 : (0 : Int) ≤ (q : Int) := by omega
              have l2 : (q : Int) < (k : Int) + 1 := by omega
              have ht2 : (q : Int).tmod 2 = ((q % 2 : Nat) : Int) := rfl
              have HHq : Hid (d5.N (1 + q % 2) = encP (turnF zs q)) := HHas.out q hle (by omega)
              have HRd : Hid (Calls Try.prog 35 #[.pointer (some ⟨bd, 0, none⟩), .int .i64 (1 + ((q % 2 : Nat) : Int))] wr (ReadO wr (encP (turnF zs q)))) := by
                have h := read_yes (1 + q % 2) (by rw [HT5.out.n]; omega) HD.out
                rw [HHq.out, HBd6.out, show ((1 + q % 2 : Nat) : Int) = 1 + ((q % 2 : Nat) : Int) by omega] at h
                exact h
              have hq2 : q % 2 ≤ 1 := by omega
              generalize q % 2 = r2 at *
              go_wp2_with fail
              refine HRd.out.mono ?_
              rintro e w10 ⟨g, rfl, hx, hg, hb10⟩
              have HDe : Hid (Calls Try.prog 31 #[.slice (some ⟨g, 0, none⟩) 64 64] w10 (DecO w10 (turnF zs q) 0)) := decode_64 _ 64 _ w10 hx.2.1 (Nat.le_refl _) hx.bytes (turnF zs q) 0 (.inl ⟨decP_enc (HF.out q (by omega)).1, rfl⟩)
              have HD10 := Lib.hid (HD.out.later hb10)
              have HRow10 := Lib.hid (own_later HRow.out hb10)
              have HB10 := Lib.hid (HB.out.trans (hb10.mono HB.out.size))
              clear hx hg hb10 HRd HD HRow HB ht2
              go_wp2_with fail
              refine HDe.out.mono ?_
              rintro e w11 ⟨rfl, hb11⟩
              simp only [ptA_def]
              have hb12 : Below w10.heap.size w10 (w11.alloc (.cells #[.int .i64 (turnF zs q).e, .int .i64 (turnF zs q).c, .int .i64 (turnF zs q).n, .int .i64 (turnF zs q).f] PNT)) := hb11.alloc hb11.size _
              have HD12 := Lib.hid (HD10.out.later hb12)
              have HRow12 := Lib.hid (own_later HRow10.out hb12)
              have HB12 := Lib.hid (HB10.out.trans (hb12.mono HB10.out.size))
              have HQ12 := Lib.hid (blo_laid w11 PNT #[.int .i64 (turnF zs q).e, .int .i64 (turnF zs q).c, .int .i64 (turnF zs q).n, .int .i64 (turnF zs q).f])
              obtain ⟨rb2, ro2, hra2, x0, x1, x2, x3⟩ := (Pts.own HRow12.out).at (i := q) (by rw [ptsF_length]; omega)
              rw [ptsF_get _ _ _ (by omega)] at x0 x1 x2 x3
              cases hra2
              have hnq := fun W => neq_pt (turnF zs q) (turnF zs q) (HF.out q (by omega)).1.fit (HF.out q (by omega)).1.fit W
              simp only [ptA_def, decide_true, Bool.not_true] at hnq
              have y0 := HQ12.out.cell 0
              have y1 := HQ12.out.cell 1
              have y2 := HQ12.out.cell 2
              have y3 := HQ12.out.cell 3
              simp at y0 y1 y2 y3
              clear hb11 hb12 HD10 HRow10 HB10 HDe
              go_wp2_with fail
              go_quiet (fail)
              have hbq : Below (w11.alloc (.cells #[.int .i64 (turnF zs q).e, .int .i64 (turnF zs q).c, .int .i64 (turnF zs q).n, .int .i64 (turnF zs q).f] PNT)).heap.size (w11.alloc (.cells #[.int .i64 (turnF zs q).e, .int .i64 (turnF zs q).c, .int .i64 (turnF zs q).n, .int .i64 (turnF zs q).f] PNT)) ((w11.alloc (.cells #[.int .i64 (turnF zs q).e, .int .i64 (turnF zs q).c, .int .i64 (turnF zs q).n, .int .i64 (turnF zs q).f] PNT)).drewN nq) := below_drewN (Below.refl _ _) nq
              have HD13 := Lib.hid (HD12.out.later hbq)
              have HRow13 := Lib.hid (own_later HRow12.out hbq)
              have HB13 := Lib.hid (HB12.out.trans (hbq.mono HB12.out.size))
              clear hbq HD12 HRow12 HB12 HQ12 x0 x1 x2 x3 y0 y1 y2 y3 hnq
              generalize ((w11.alloc (.cells #[.int .i64 (turnF zs q).e, .int .i64 (turnF zs q).c, .int .i64 (turnF zs q).n, .int .i64 (turnF zs q).f] PNT)).drewN nq) = w13 at *
              go_wp2_with fail
              go_roundw
              case rel => exact ⟨q + 1, by omega, by omega, by simp, HD13.out, ⟨_, _, rfl, HRow13.out⟩, HB13.out⟩
              case measure => simp [intOf]; omega
            · have l0 : ¬ (q : Int) ≤ (k : Int) := by omega
              have l1 : (q : Int) ≤ 100 := by omega
              have l2 : (0 : Int) ≤ (q : Int) := by omega
              go_wp2_with fail
              go_roundw
              case rel => exact ⟨k + 1, L6, d5, by omega, by simp, HBd6.out, HT5.out, HD.out, ⟨_, _, rfl, HRow.out⟩, HB.out⟩
              case measure => simp [intOf]; omega
    · have hend : ¬ ((k : Int) < (n : Int) ∧ (k : Int) < 20) := by omega
      have k0 : (0 : Int) ≤ (k : Int) := by omega
      have kb : (k : Int) ≤ 100 := by omega
      clear HD HRow HT HBd
      by_cases h1 : (k : Int) < (n : Int)
      · have h2 : ¬ (k : Int) < 20 := by omega
        clear hend
        go_wp2
        go_ret
        exact ⟨rfl, HB.out⟩
      · clear hend
        go_wp2
        go_ret
        exact ⟨rfl, HB.out⟩
end Go.Proofs.Ytmkhliabmodbdaa
