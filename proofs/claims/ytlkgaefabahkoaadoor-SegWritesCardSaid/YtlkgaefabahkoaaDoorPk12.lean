/-
  The walk of SegOwn.
-/
import Derived.Test.YtlkgaefabahkoaaDoorPk11
import Derived.BigQuiet
namespace Go.Proofs.YtlkgaefabahkoaaDoor
open Go.RowKit

theorem rdN_blks (m : Sm) : blks m.fs m.is = rdN m + 2 := by unfold blks rdN; omega
theorem few15_szF {fs : List Fi} {is : List Int} {dn : Nat} (h : few15 fs is dn = true) : szF fs ≤ 400 := by
  have q := few15_yes h
  have : ∀ l : List Fi, szF l = 4 * l.length + 2 * blF l := fun l => by
    induction l with
    | nil => rfl
    | cons a l ih => simp only [szF, blF, List.map_cons, List.sum_cons, List.length_cons] at ih ⊢; omega
  rw [this]
  omega
theorem cellsS_congr {F H : Nat → List Nat} (n : Nat) (h : ∀ i, i < n → F i = H i) : cellsS F n = cellsS H n := by
  unfold cellsS
  exact List.map_congr_left fun i hi => by rw [h i (List.mem_range.1 hi)]
theorem lb_blF : ∀ (l : List Fi), ∀ x ∈ l, x.lb.length ≤ blF l
  | a :: l, x, h => by
    rcases List.mem_cons.1 h with rfl | h
    · simp [blF]
    · have := lb_blF l x h
      simp only [blF, List.map_cons, List.sum_cons] at this ⊢
      omega
section
variable {w : World}
set_option maxRecDepth 100000 in
set_option maxHeartbeats 8000000 in
theorem segOwn_walk (ad : Int) (m : Sm) (fa : Option Addr) (fn fc : Nat) (ia : Option Addr) (inn ic : Nat) (da : Option Addr) (dn dc : Nat) (dt : List Nat) (w : World) (hL : Tab w ∧ 0 < w.heap.size) (hP : PieceIn w ad m fa fn fc ia inn ic da dn dc dt) :
    Calls Tryd.prog 6 #[.agg (pieceA ad m fa fn fc ia inn ic da dn dc)] w fun e w' => e = .returned (.bool true) ∧ Below w.heap.size w w' := by
  have HT := Lib.hid (show ∀ W, Below w.heap.size w W → Tab W ∧ 0 < W.heap.size from fun W hb => ⟨hL.1.below hb hL.2, by have := hb.size; have := hL.2; omega⟩)
  have HP := Lib.hid hP
  have hfn := hP.part.fin.leq
  have hin := hP.part.ins.leq
  have hb0 := sup_pc w (.cells (pieceA ad m fa fn fc ia inn ic da dn dc) 51)
  have HB0 := Lib.hid hb0
  have HX0 := Lib.hid (blo_laid w 51 (pieceA ad m fa fn fc ia inn ic da dn dc))
  have HAw := Lib.hid (fun (W : World) (hb : Below w.heap.size w W) => awake_any W (HT.out W hb).1 (HT.out W hb).2)
  have HFw := Lib.hid (fun (W : World) (hb : Below w.heap.size w W) => few15_any (w := W) ad m.e m.c m.i m.p m.x m.fs m.is fa fn fc ia inn ic da dn dc (hP.part.fin.fis.later hb) hfn hin hP.part.fin.lenm hP.part.ins.lenm hP.le hP.part.fin.lb)
  clear hL hP hb0
  cases hfew : few15 m.fs m.is dn with
  | false =>
    rw [hfew] at HFw
    clear hfew hfn hin
    go_enter Tryd.func6, Tryd.ntmps6
    go_wp2_with fail
    refine (HAw.out _ HB0.out).mono ?_
    rintro e w1 ⟨rfl, hb1⟩
    have HB1 := Lib.hid (HB0.out.trans (hb1.mono HB0.out.size))
    have HX1 := Lib.hid (HX0.out.later hb1)
    have c0 := HX1.out.cell 0
    have c1 := HX1.out.cell 1
    have c2 := HX1.out.cell 2
    have c3 := HX1.out.cell 3
    have c4 := HX1.out.cell 4
    have c5 := HX1.out.cell 5
    have c6 := HX1.out.cell 6
    have c7 := HX1.out.cell 7
    have c8 := HX1.out.cell 8
    simp at c0 c1 c2 c3 c4 c5 c6 c7 c8
    clear hb1 HX0 HB0
    go_wp2_with fail
    refine (HFw.out _ HB1.out).mono ?_
    rintro e w2 ⟨rfl, hb2⟩
    have HB2 := Lib.hid (HB1.out.trans (hb2.mono HB1.out.size))
    clear hb2 HX1 HB1 c0 c1 c2 c3 c4 c5 c6 c7 c8
    go_wp2_with fail
    refine (HAw.out _ HB2.out).mono ?_
    rintro e w3 ⟨rfl, hb3⟩
    have HB3 := Lib.hid (HB2.out.trans (hb3.mono HB2.out.size))
    clear hb3 HB2 HFw HAw HT HP
    go_wp2
    go_ret
    exact ⟨rfl, HB3.out⟩
  | true =>
    have hq := few15_yes hfew
    have hsz := few15_szF hfew
    rw [hfew] at HFw
    have hnb := rdN_blks m
    have hn120 : rdN m ≤ 120 := by unfold rdN; omega
    have hlbm : ∀ x ∈ m.fs, ∀ n ∈ x.lb, -9223372036854775808 ≤ n := fun x hx n hn => (Go.bounds_i64 ((HP.out.part.fin.wf x hx).2.2 n hn)).1
    have hbF := lb_blF
    have hlb1 : ∀ x ∈ m.fs, x.lb.length ≤ 1000000 := fun x hx => by have := hbF m.fs x hx; omega
    have HBk := Lib.hid (fun (W : World) (hb : Below w.heap.size w W) => blocks_any (w := W) (n := rdN m) m.e m.c m.i m.p m.x m.fs m.is fa fn fc ia inn ic (HP.out.part.fin.fis.later hb) hfn hin hnb (by omega) da dn dc dt (HP.out.data.below hb) HP.out.len (by omega) HP.out.nil (by omega))
    have HWr := Lib.hid (fun (W : World) (base : Nat) (L : Dl) (ba : Option Addr) (bc : Nat) (G : Nat → Nat) (hb : Below w.heap.size w W) (hD : Dk w.heap.size W L (newD 4096)) (hR : RowB W base (.slice ba (rdN m) bc) (rdN m) G (rnd dt)) => write_row (w := W) (n := rdN m) 3 m fa fn fc ia inn ic (HP.out.part.fin.fis.later hb) hfn (by omega) (HP.out.part.ins.ints.below hb) hin (by omega) hlbm hR (by omega) (HT.out W hb).1 (HT.out W hb).2 (rm_new 4096 _ (by omega)) hD)
    have HBy : Hid (∀ l ∈ lsF (rnd dt) (rdN m), ∀ x ∈ l, x < 256) := rnd_byte HP.out.data.1 _ (by omega)
    have HBa : Hid ((segW (newD 4096) 3 m (lsF (rnd dt) (rdN m))).2 = 0 → Back (segW (newD 4096) 3 m (lsF (rnd dt) (rdN m))).1 3 m (lsF (rnd dt) (rdN m))) := fun h => (segW_here (a0 := 3) h HBy.out).back
    have HLl : Hid ((lsF (rnd dt) (rdN m)).length = rdN m) := lsF_length _ _
    have HLn : Hid (∀ i, i < rdN m → nthL (lsF (rnd dt) (rdN m)) i = rnd dt i) := fun i hi => lsF_get _ hi
    have HL1 := Lib.hid hlb1
    have HM40 : Hid (m.fs.length ≤ 1000000 ∧ m.is.length ≤ 1000000) := ⟨by omega, by omega⟩
    have HFn := Lib.hid hfn
    have HIn := Lib.hid hin
    generalize rdN m = n at *
    generalize lsF (rnd dt) n = ls at *
    obtain ⟨sd, hsd⟩ : ∃ sd, segW (newD 4096) 3 m ls = sd := ⟨_, rfl⟩
    rw [hsd] at HWr HBa
    obtain ⟨d2, code⟩ := sd
    clear hfew hq hsz hnb hlbm hbF hlb1 hsd hfn hin HBy
    go_enter Tryd.func6, Tryd.ntmps6
    go_wp2_with fail
    refine (HAw.out _ HB0.out).mono ?_
    rintro e w1 ⟨rfl, hb1⟩
    have HB1 := Lib.hid (HB0.out.trans (hb1.mono HB0.out.size))
    have HX1 := Lib.hid (HX0.out.later hb1)
    have c0 := HX1.out.cell 0
    have c1 := HX1.out.cell 1
    have c2 := HX1.out.cell 2
    have c3 := HX1.out.cell 3
    have c4 := HX1.out.cell 4
    have c5 := HX1.out.cell 5
    have c6 := HX1.out.cell 6
    have c7 := HX1.out.cell 7
    have c8 := HX1.out.cell 8
    simp at c0 c1 c2 c3 c4 c5 c6 c7 c8
    clear hb1 HX0 HB0
    go_wp2_with fail
    refine (HFw.out _ HB1.out).mono ?_
    rintro e w2 ⟨rfl, hb2⟩
    have HB2 := Lib.hid (HB1.out.trans (hb2.mono HB1.out.size))
    have HX2 := Lib.hid (HX1.out.later hb2)
    clear hb2 HX1 HB1 c0 c1 c2 c3 c4 c5 c6 c7 c8 HFw HAw
    go_wp2_with fail
    refine (new_any 4096 w2 (by decide) (by decide)).mono ?_
    rintro e w3 ⟨L, rfl, hD, hb3⟩
    have HS3 := Lib.hid (show OwS w w.heap.size (pieceA ad m fa fn fc ia inn ic da dn dc) L (newD 4096) w3 from ⟨hD.deeper HB2.out.size, HX2.out.later hb3, HB2.out.trans (hb3.mono HB2.out.size)⟩)
    clear hD hb3 HB2 HX2
    have c0 := HS3.out.box.cell 0
    have c1 := HS3.out.box.cell 1
    have c2 := HS3.out.box.cell 2
    have c3 := HS3.out.box.cell 3
    have c4 := HS3.out.box.cell 4
    have c5 := HS3.out.box.cell 5
    have c6 := HS3.out.box.cell 6
    have c7 := HS3.out.box.cell 7
    have c8 := HS3.out.box.cell 8
    simp at c0 c1 c2 c3 c4 c5 c6 c7 c8
    go_wp2_with fail
    refine (HBk.out _ HS3.out.below).mono ?_
    rintro e w4 ⟨ba, bc, G, rfl, hR4, hb4⟩
    have HS4 := Lib.hid (HS3.out.later hb4)
    have HR4 := Lib.hid hR4
    have HZ4 : Hid (w.heap.size ≤ w3.heap.size) := HS3.out.below.size
    clear hR4 hb4 HS3 c0 c1 c2 c3 c4 c5 c6 c7 c8
    have c0 := HS4.out.box.cell 0
    have c1 := HS4.out.box.cell 1
    have c2 := HS4.out.box.cell 2
    have c3 := HS4.out.box.cell 3
    have c4 := HS4.out.box.cell 4
    have c5 := HS4.out.box.cell 5
    have c6 := HS4.out.box.cell 6
    have c7 := HS4.out.box.cell 7
    have c8 := HS4.out.box.cell 8
    simp at c0 c1 c2 c3 c4 c5 c6 c7 c8
    go_wp2_with fail
    refine (HWr.out w4 _ L ba bc G HS4.out.below HS4.out.dk HR4.out).mono ?_
    intro e w5 hO
    have hRo := HR4.out.over (L' := L) HS4.out.dk hO.2.choose_spec.2.1
    obtain ⟨rfl, q5, hS5⟩ := HS4.out.wrote hO
    have HS5 := Lib.hid hS5
    have HR5 := Lib.hid hRo
    clear hO hS5 hRo HS4 HR4 HWr c0 c1 c2 c3 c4 c5 c6 c7 c8
    by_cases hcode : code = 0
    case neg =>
      have hc1 : (code != 0) = true := by simpa using hcode
      have HB5 := Lib.hid HS5.out.below
      clear hcode HS5 HR5 HBk HBa HP HT
      go_wp2
      go_ret
      exact ⟨rfl, HB5.out⟩
    case pos =>
      subst hcode
      have HBa2 := Lib.hid (HBa.out rfl)
      clear HBa
      have HPk0 : Hid (PokR w5 w3.heap.size n (.slice ba n bc) G w5) := PokR.start HR5.out
      go_wp2_with fail
      go_loopw [43] (fun t wr => ∃ i : Nat, i ≤ n ∧ t = .int .i64 i ∧ PokR w5 w3.heap.size n (.slice ba n bc) G wr) (fun t _ => n - (intOf t).toNat)
      case atStart => exact ⟨0, Nat.zero_le _, rfl, HPk0.out⟩
      case round =>
        clear HPk0
        obtain ⟨i, hi, rfl, hp⟩ := hrel
        have HPo := Lib.hid hp
        clear hp
        by_cases hlt : i < n
        · obtain ⟨rb, rc, hv, hck⟩ := HPo.out.at hlt (by omega)
          injection hv with q1 q2 q3
          subst q1 q3
          obtain ⟨wo, rfl⟩ : ∃ wo : World, wo = wr := ⟨_, rfl⟩
          have i0 : (0 : Int) ≤ (i : Int) := by omega
          have i1 : (i : Int) < (n : Int) := by omega
          go_wp2_with fail
          clear hck
          go_loopw [51] (fun t wr => ∃ k : Nat, k ≤ 64 ∧ t = .int .i64 k ∧ PokR w5 w3.heap.size n (.slice (some ⟨rb, 0, none⟩) n bc) G wr) (fun t _ => 64 - (intOf t).toNat)
          case atStart => exact ⟨0, Nat.zero_le _, rfl, HPo.out⟩
          case round =>
            clear HPo
            obtain ⟨k, hk, rfl, hp⟩ := hrel
            have HPi := Lib.hid hp
            clear hp
            by_cases hk64 : k < 64
            · obtain ⟨rb2, rc2, hv2, hck2⟩ := HPi.out.at hlt (by omega)
              injection hv2 with q1 q2 q3
              injection q1 with q1
              injection q1 with q1
              subst q1
              obtain ⟨y, hy, hcy, hfy, hput⟩ := HPi.out.poke hlt hk64
              have hu := u8_up y hy
              have HN := Lib.hid (hput ((y + 1) % 256) (Nat.mod_lt _ (by decide)))
              have k0 : (0 : Int) ≤ (k : Int) := by omega
              have k1 : (k : Int) < 64 := by omega
              generalize (y + 1) % 256 = z at *
              clear hput q2 q3
              go_wp2_with fail
              clear hu hcy hfy hck2
              go_roundw
              case rel => exact ⟨k + 1, by omega, by simp, HN.out⟩
              case measure => simp [intOf]; omega
            · go_wp2_with fail
              go_roundw
              case rel => exact ⟨i + 1, hlt, by simp, HPi.out⟩
              case measure => simp [intOf]; omega
        · have HS6 := Lib.hid (HS5.out.poked HR5.out HZ4.out HPo.out)
          clear HPo HR5
          have HSr := Lib.hid (show OwS w w.heap.size (pieceA ad m fa fn fc ia inn ic da dn dc) { L with qv := q5 } d2 wr from HS6.out)
          clear HS6
          have HRdr : Hid (Calls Tryd.prog 12 #[.pointer (some ⟨L.bd, 0, none⟩), .int .i64 3] wr (ReadY 3 m ls wr)) := read_back (L := { L with qv := q5 }) HBa2.out HSr.out.dk (HT.out _ HSr.out.below).1 (HT.out _ HSr.out.below).2
          go_wp2_with fail
          refine HRdr.out.mono ?_
          rintro e w7 ⟨fb, fd, ib, id_, bb, bd_, G7, he, hP7, hR7, hb7⟩
          rw [HLl.out] at he hR7
          obtain rfl : e = .returned (.tuple #[.agg (fdc 3 m fb fd ib id_ bb n bd_), .int .i64 0]) := he
          (try clear he)
          go_upto_region 19 with (fail)
          have hb8 := sup_pc w7 (.cells (fdc 3 m fb fd ib id_ bb n bd_) 38)
          have HS8 := Lib.hid (HSr.out.later (hb7.trans (hb8.mono hb7.size)))
          have HP8 := Lib.hid (hP7.later hb8)
          have HR8 := Lib.hid (hR7.later hb8)
          have HF8 := Lib.hid (blo_laid w7 38 (fdc 3 m fb fd ib id_ bb n bd_))
          have HZ8 : Hid (w.heap.size ≤ wr.heap.size) := HSr.out.below.size
          clear hb7 hb8 hP7 hR7 HRdr HSr
          generalize w7.alloc (.cells (fdc 3 m fb fd ib id_ bb n bd_) 38) = w8 at *
          generalize w7.heap.size = g7 at *
          have HK : Hid (∀ W, Below w8.heap.size w8 W → (W.cell? ⟨g7, 0, none⟩ = some (.int .i64 3) ∧ W.cell? ⟨g7, 1, none⟩ = some (.int .i64 m.e) ∧ W.cell? ⟨g7, 2, none⟩ = some (.int .i64 m.c) ∧ W.cell? ⟨g7, 3, none⟩ = some (.int .i64 m.i) ∧ W.cell? ⟨g7, 4, none⟩ = some (.int .i64 m.p) ∧ W.cell? ⟨g7, 5, none⟩ = some (.int .i64 m.x) ∧ W.cell? ⟨g7, 6, none⟩ = some (.slice fb m.fs.length fd) ∧ W.cell? ⟨g7, 7, none⟩ = some (.slice ib m.is.length id_) ∧ W.cell? ⟨g7, 8, none⟩ = some (.slice bb n bd_) ∧ W.cell? ⟨w.heap.size, 0, none⟩ = some (.int .i64 ad) ∧ W.cell? ⟨w.heap.size, 1, none⟩ = some (.int .i64 m.e) ∧ W.cell? ⟨w.heap.size, 2, none⟩ = some (.int .i64 m.c) ∧ W.cell? ⟨w.heap.size, 3, none⟩ = some (.int .i64 m.i) ∧ W.cell? ⟨w.heap.size, 4, none⟩ = some (.int .i64 m.p) ∧ W.cell? ⟨w.heap.size, 5, none⟩ = some (.int .i64 m.x) ∧ W.cell? ⟨w.heap.size, 6, none⟩ = some (.slice fa fn fc) ∧ W.cell? ⟨w.heap.size, 7, none⟩ = some (.slice ia inn ic) ∧ W.cell? ⟨w.heap.size, 8, none⟩ = some (.slice da dn dc))) := fun W hb => by
            have hF := HF8.out.later hb
            have hX := HS8.out.box.later hb
            exact ⟨hF.cell 0, hF.cell 1, hF.cell 2, hF.cell 3, hF.cell 4, hF.cell 5, hF.cell 6, hF.cell 7, hF.cell 8, hX.cell 0, hX.cell 1, hX.cell 2, hX.cell 3, hX.cell 4, hX.cell 5, hX.cell 6, hX.cell 7, hX.cell 8⟩
          have HRf : Hid (∀ W, Below w8.heap.size w8 W → Calls Tryd.prog 15 #[.agg (fdc 3 m fb fd ib id_ bb n bd_)] W (RefO W 3 m fb fd ib id_ n (nthL ls))) := fun W hb => ref_any 3 m fb fd ib id_ (HR8.out.later hb) (by omega)
          have HBk8 : Hid (∀ W, Below w8.heap.size w8 W → Calls Tryd.prog 23 #[part m.e m.c m.i m.p m.x fa fn fc ia inn ic, .slice da dn dc] W (BlkO W n dt)) := fun W hb => HBk.out W (HS8.out.below.trans (hb.mono HS8.out.below.size))
          have HSa : Hid (∀ W ta tc tb td, Below w8.heap.size w8 W → Rds W ta (cellsS (nthL ls) n) → Rds W tb (cellsS (rnd dt) n) → Calls Tryd.prog 14 #[.agg (fdr 3 m fb fd ib id_ (.slice ta n tc)), .agg #[.int .i64 3, .int .i64 m.e, .int .i64 m.c, .int .i64 m.i, .int .i64 m.p, .int .i64 m.x, .slice fa fn fc, .slice ia inn ic, .slice tb n td]] W fun e w' => e = .returned (.bool true) ∧ Below W.heap.size W w') := fun W ta tc tb td hb h1 h2 => by
            have hbw := HS8.out.below.trans (hb.mono HS8.out.below.size)
            have e1 : cellsS (nthL ls) n = cellsS (rnd dt) n := cellsS_congr n HLn.out
            rw [e1] at h1
            have := same15_yes (w := W) (n := n) 3 m fb fd ib id_ fa fc ia ic ta tc tb td (rnd dt) (HP8.out.fis.later hb) (HP.out.part.fin.fis.later hbw) HM40.out.1 HL1.out (HP8.out.ints.below hb) (HP.out.part.ins.ints.below hbw) HM40.out.2 h1 h2 (by omega)
            rw [HFn.out, HIn.out]
            exact this
          go_region_held (fun W => W.cell? ⟨g7, 0, none⟩ = some (.int .i64 3) ∧ W.cell? ⟨g7, 1, none⟩ = some (.int .i64 m.e) ∧ W.cell? ⟨g7, 2, none⟩ = some (.int .i64 m.c) ∧ W.cell? ⟨g7, 3, none⟩ = some (.int .i64 m.i) ∧ W.cell? ⟨g7, 4, none⟩ = some (.int .i64 m.p) ∧ W.cell? ⟨g7, 5, none⟩ = some (.int .i64 m.x) ∧ W.cell? ⟨g7, 6, none⟩ = some (.slice fb m.fs.length fd) ∧ W.cell? ⟨g7, 7, none⟩ = some (.slice ib m.is.length id_) ∧ W.cell? ⟨g7, 8, none⟩ = some (.slice bb n bd_) ∧ W.cell? ⟨w.heap.size, 0, none⟩ = some (.int .i64 ad) ∧ W.cell? ⟨w.heap.size, 1, none⟩ = some (.int .i64 m.e) ∧ W.cell? ⟨w.heap.size, 2, none⟩ = some (.int .i64 m.c) ∧ W.cell? ⟨w.heap.size, 3, none⟩ = some (.int .i64 m.i) ∧ W.cell? ⟨w.heap.size, 4, none⟩ = some (.int .i64 m.p) ∧ W.cell? ⟨w.heap.size, 5, none⟩ = some (.int .i64 m.x) ∧ W.cell? ⟨w.heap.size, 6, none⟩ = some (.slice fa fn fc) ∧ W.cell? ⟨w.heap.size, 7, none⟩ = some (.slice ia inn ic) ∧ W.cell? ⟨w.heap.size, 8, none⟩ = some (.slice da dn dc))
            (first | exact HK.out _ ((Below.refl _ _).drew) | exact HK.out _ HBz.out | exact HK.out _ HBy2.out | exact HK.out _ HBx.out | exact HK.out _ HBw.out | fail)
            (first
              | (go_at_call 15; (with_reducible refine (HRf.out _ ((Below.refl _ _).drew)).mono ?_); rintro e wa ⟨ta, tc, rfl, hTa, hba⟩; have HTa := Lib.hid hTa; have HBw := Lib.hid (show Below w8.heap.size w8 wa from ((Below.refl w8.heap.size w8).drew).trans (hba.mono (Nat.le_refl _))); clear hTa hba)
              | (go_at_call 23; (with_reducible refine (HBk8.out _ HBw.out).mono ?_); rintro e wb ⟨ba9, bc9, G9, rfl, hR9, hb9⟩; have HR9 := Lib.hid hR9; have HTb := Lib.hid (HTa.out.later hb9); have HBx := Lib.hid (HBw.out.trans (hb9.mono HBw.out.size)); clear hR9 hb9)
              | (go_at_call 19; (with_reducible refine (rtexts_any HR9.out (by omega)).mono ?_); rintro e wc ⟨tb, td, rfl, hTc, hbc⟩; have HTc := Lib.hid hTc; have HTd := Lib.hid (HTb.out.later hbc); have HBy2 := Lib.hid (HBx.out.trans (hbc.mono HBx.out.size)); clear hTc hbc)
              | (go_at_call 14; (with_reducible refine (HSa.out _ _ _ _ _ HBy2.out HTd.out HTc.out).mono ?_); rintro e wd ⟨rfl, hbd⟩; have HBz := Lib.hid (HBy2.out.trans (hbd.mono HBy2.out.size)); clear hbd)
              | fail)
          rename_i hHeld
          have HS9 := Lib.hid (HS8.out.later HBz.out)
          have HF9 := Lib.hid (HF8.out.later HBz.out)
          have HR9b := Lib.hid (HR8.out.later HBz.out)
          clear hHeld HK HRf HBk8 HSa HTa HBw HR9 HTb HBx HTc HTd HBy2 HBz HS8 HF8 HR8 HP8
          obtain ⟨wA, rfl⟩ : ∃ wA : World, wA = wr := ⟨_, rfl⟩
          have HPk0 : Hid (PokR wd wA.heap.size n (.slice bb n bd_) G7 wd) := PokR.start HR9b.out
          have u8 := HF9.out.cell 8
          simp at u8
          go_wp2_with fail
          clear u8
          go_loopw [90] (fun t wr => ∃ i : Nat, i ≤ n ∧ t = .int .i64 i ∧ PokR wd wA.heap.size n (.slice bb n bd_) G7 wr) (fun t _ => n - (intOf t).toNat)
          case atStart => exact ⟨0, Nat.zero_le _, rfl, HPk0.out⟩
          case round =>
            clear HPk0
            obtain ⟨i, hi, rfl, hp⟩ := hrel
            have HPo := Lib.hid hp
            clear hp
            by_cases hlt : i < n
            · obtain ⟨rb, rc, hv, hck⟩ := HPo.out.at hlt (by omega)
              injection hv with q1 q2 q3
              subst q1 q3
              obtain ⟨wo, rfl⟩ : ∃ wo : World, wo = wr := ⟨_, rfl⟩
              have u8 := (HPo.out.blo HR9b.out HF9.out (by decide)).cell 8
              simp at u8
              have i0 : (0 : Int) ≤ (i : Int) := by omega
              have i1 : (i : Int) < (n : Int) := by omega
              go_wp2_with fail
              clear hck u8
              go_loopw [99] (fun t wr => ∃ k : Nat, k ≤ 64 ∧ t = .int .i64 k ∧ PokR wd wA.heap.size n (.slice (some ⟨rb, 0, none⟩) n bd_) G7 wr) (fun t _ => 64 - (intOf t).toNat)
              case atStart => exact ⟨0, Nat.zero_le _, rfl, HPo.out⟩
              case round =>
                clear HPo
                obtain ⟨k, hk, rfl, hp⟩ := hrel
                have HPi := Lib.hid hp
                clear hp
                by_cases hk64 : k < 64
                · obtain ⟨rb2, rc2, hv2, hck2⟩ := HPi.out.at hlt (by omega)
                  injection hv2 with q1 q2 q3
                  injection q1 with q1
                  injection q1 with q1
                  subst q1
                  obtain ⟨y, hy, hcy, hfy, hput⟩ := HPi.out.poke hlt hk64
                  have hu := u8_up y hy
                  have HN := Lib.hid (hput ((y + 1) % 256) (Nat.mod_lt _ (by decide)))
                  have u8 := (HPi.out.blo HR9b.out HF9.out (by decide)).cell 8
                  simp at u8
                  have k0 : (0 : Int) ≤ (k : Int) := by omega
                  have k1 : (k : Int) < 64 := by omega
                  generalize (y + 1) % 256 = z at *
                  clear hput q2 q3
                  go_wp2_with fail
                  clear hu hcy hfy hck2 u8
                  go_roundw
                  case rel => exact ⟨k + 1, by omega, by simp, HN.out⟩
                  case measure => simp [intOf]; omega
                · go_wp2_with fail
                  go_roundw
                  case rel => exact ⟨i + 1, hlt, by simp, HPi.out⟩
                  case measure => simp [intOf]; omega
            · have HSq := Lib.hid (HS9.out.poked HR9b.out HZ8.out HPo.out)
              clear HPo HR9b HF9 HS9
              have HRdq : Hid (Calls Tryd.prog 12 #[.pointer (some ⟨L.bd, 0, none⟩), .int .i64 3] wr (ReadY 3 m ls wr)) := read_back (L := { L with qv := q5 }) HBa2.out HSq.out.dk (HT.out _ HSq.out.below).1 (HT.out _ HSq.out.below).2
              go_wp2_with fail
              refine HRdq.out.mono ?_
              rintro e w7b ⟨fb, fd, ib, id_, bb, bd_, G7b, he, hP7, hR7, hb7⟩
              rw [HLl.out] at he hR7
              obtain rfl : e = .returned (.tuple #[.agg (fdc 3 m fb fd ib id_ bb n bd_), .int .i64 0]) := he
              (try clear he)
              go_upto_region 31 with (fail)
              have hb8 := sup_pc w7b (.cells (fdc 3 m fb fd ib id_ bb n bd_) 38)
              have HS8 := Lib.hid (HSq.out.later (hb7.trans (hb8.mono hb7.size)))
              have HP8 := Lib.hid (hP7.later hb8)
              have HR8 := Lib.hid (hR7.later hb8)
              have HF8 := Lib.hid (blo_laid w7b 38 (fdc 3 m fb fd ib id_ bb n bd_))
              have HZ8 : Hid (w.heap.size ≤ wr.heap.size) := HSq.out.below.size
              clear hb7 hb8 hP7 hR7 HRdq HSq
              generalize w7b.alloc (.cells (fdc 3 m fb fd ib id_ bb n bd_) 38) = w8 at *
              generalize w7b.heap.size = g7 at *
              have HK : Hid (∀ W, Below w8.heap.size w8 W → (W.cell? ⟨g7, 0, none⟩ = some (.int .i64 3) ∧ W.cell? ⟨g7, 1, none⟩ = some (.int .i64 m.e) ∧ W.cell? ⟨g7, 2, none⟩ = some (.int .i64 m.c) ∧ W.cell? ⟨g7, 3, none⟩ = some (.int .i64 m.i) ∧ W.cell? ⟨g7, 4, none⟩ = some (.int .i64 m.p) ∧ W.cell? ⟨g7, 5, none⟩ = some (.int .i64 m.x) ∧ W.cell? ⟨g7, 6, none⟩ = some (.slice fb m.fs.length fd) ∧ W.cell? ⟨g7, 7, none⟩ = some (.slice ib m.is.length id_) ∧ W.cell? ⟨g7, 8, none⟩ = some (.slice bb n bd_) ∧ W.cell? ⟨w.heap.size, 0, none⟩ = some (.int .i64 ad) ∧ W.cell? ⟨w.heap.size, 1, none⟩ = some (.int .i64 m.e) ∧ W.cell? ⟨w.heap.size, 2, none⟩ = some (.int .i64 m.c) ∧ W.cell? ⟨w.heap.size, 3, none⟩ = some (.int .i64 m.i) ∧ W.cell? ⟨w.heap.size, 4, none⟩ = some (.int .i64 m.p) ∧ W.cell? ⟨w.heap.size, 5, none⟩ = some (.int .i64 m.x) ∧ W.cell? ⟨w.heap.size, 6, none⟩ = some (.slice fa fn fc) ∧ W.cell? ⟨w.heap.size, 7, none⟩ = some (.slice ia inn ic) ∧ W.cell? ⟨w.heap.size, 8, none⟩ = some (.slice da dn dc))) := fun W hb => by
                have hF := HF8.out.later hb
                have hX := HS8.out.box.later hb
                exact ⟨hF.cell 0, hF.cell 1, hF.cell 2, hF.cell 3, hF.cell 4, hF.cell 5, hF.cell 6, hF.cell 7, hF.cell 8, hX.cell 0, hX.cell 1, hX.cell 2, hX.cell 3, hX.cell 4, hX.cell 5, hX.cell 6, hX.cell 7, hX.cell 8⟩
              have HRf : Hid (∀ W, Below w8.heap.size w8 W → Calls Tryd.prog 15 #[.agg (fdc 3 m fb fd ib id_ bb n bd_)] W (RefO W 3 m fb fd ib id_ n (nthL ls))) := fun W hb => ref_any 3 m fb fd ib id_ (HR8.out.later hb) (by omega)
              have HBk8 : Hid (∀ W, Below w8.heap.size w8 W → Calls Tryd.prog 23 #[part m.e m.c m.i m.p m.x fa fn fc ia inn ic, .slice da dn dc] W (BlkO W n dt)) := fun W hb => HBk.out W (HS8.out.below.trans (hb.mono HS8.out.below.size))
              have HSa : Hid (∀ W ta tc tb td, Below w8.heap.size w8 W → Rds W ta (cellsS (nthL ls) n) → Rds W tb (cellsS (rnd dt) n) → Calls Tryd.prog 14 #[.agg (fdr 3 m fb fd ib id_ (.slice ta n tc)), .agg #[.int .i64 3, .int .i64 m.e, .int .i64 m.c, .int .i64 m.i, .int .i64 m.p, .int .i64 m.x, .slice fa fn fc, .slice ia inn ic, .slice tb n td]] W fun e w' => e = .returned (.bool true) ∧ Below W.heap.size W w') := fun W ta tc tb td hb h1 h2 => by
                have hbw := HS8.out.below.trans (hb.mono HS8.out.below.size)
                have e1 : cellsS (nthL ls) n = cellsS (rnd dt) n := cellsS_congr n HLn.out
                rw [e1] at h1
                have := same15_yes (w := W) (n := n) 3 m fb fd ib id_ fa fc ia ic ta tc tb td (rnd dt) (HP8.out.fis.later hb) (HP.out.part.fin.fis.later hbw) HM40.out.1 HL1.out (HP8.out.ints.below hb) (HP.out.part.ins.ints.below hbw) HM40.out.2 h1 h2 (by omega)
                rw [HFn.out, HIn.out]
                exact this
              go_region_held (fun W => W.cell? ⟨g7, 0, none⟩ = some (.int .i64 3) ∧ W.cell? ⟨g7, 1, none⟩ = some (.int .i64 m.e) ∧ W.cell? ⟨g7, 2, none⟩ = some (.int .i64 m.c) ∧ W.cell? ⟨g7, 3, none⟩ = some (.int .i64 m.i) ∧ W.cell? ⟨g7, 4, none⟩ = some (.int .i64 m.p) ∧ W.cell? ⟨g7, 5, none⟩ = some (.int .i64 m.x) ∧ W.cell? ⟨g7, 6, none⟩ = some (.slice fb m.fs.length fd) ∧ W.cell? ⟨g7, 7, none⟩ = some (.slice ib m.is.length id_) ∧ W.cell? ⟨g7, 8, none⟩ = some (.slice bb n bd_) ∧ W.cell? ⟨w.heap.size, 0, none⟩ = some (.int .i64 ad) ∧ W.cell? ⟨w.heap.size, 1, none⟩ = some (.int .i64 m.e) ∧ W.cell? ⟨w.heap.size, 2, none⟩ = some (.int .i64 m.c) ∧ W.cell? ⟨w.heap.size, 3, none⟩ = some (.int .i64 m.i) ∧ W.cell? ⟨w.heap.size, 4, none⟩ = some (.int .i64 m.p) ∧ W.cell? ⟨w.heap.size, 5, none⟩ = some (.int .i64 m.x) ∧ W.cell? ⟨w.heap.size, 6, none⟩ = some (.slice fa fn fc) ∧ W.cell? ⟨w.heap.size, 7, none⟩ = some (.slice ia inn ic) ∧ W.cell? ⟨w.heap.size, 8, none⟩ = some (.slice da dn dc))
                (first | exact HK.out _ ((Below.refl _ _).drew) | exact HK.out _ HBz.out | exact HK.out _ HBy2.out | exact HK.out _ HBx.out | exact HK.out _ HBw.out | fail)
                (first
                  | (go_at_call 15; (with_reducible refine (HRf.out _ ((Below.refl _ _).drew)).mono ?_); rintro e wa ⟨ta, tc, rfl, hTa, hba⟩; have HTa := Lib.hid hTa; have HBw := Lib.hid (show Below w8.heap.size w8 wa from ((Below.refl w8.heap.size w8).drew).trans (hba.mono (Nat.le_refl _))); clear hTa hba)
                  | (go_at_call 23; (with_reducible refine (HBk8.out _ HBw.out).mono ?_); rintro e wb ⟨ba9, bc9, G9, rfl, hR9, hb9⟩; have HR9 := Lib.hid hR9; have HTb := Lib.hid (HTa.out.later hb9); have HBx := Lib.hid (HBw.out.trans (hb9.mono HBw.out.size)); clear hR9 hb9)
                  | (go_at_call 19; (with_reducible refine (rtexts_any HR9.out (by omega)).mono ?_); rintro e wc ⟨tb, td, rfl, hTc, hbc⟩; have HTc := Lib.hid hTc; have HTd := Lib.hid (HTb.out.later hbc); have HBy2 := Lib.hid (HBx.out.trans (hbc.mono HBx.out.size)); clear hTc hbc)
                  | (go_at_call 14; (with_reducible refine (HSa.out _ _ _ _ _ HBy2.out HTd.out HTc.out).mono ?_); rintro e wd ⟨rfl, hbd⟩; have HBz := Lib.hid (HBy2.out.trans (hbd.mono HBy2.out.size)); clear hbd)
                  | fail)
              rename_i hHeld
              have HE := Lib.hid (HS8.out.below.trans (HBz.out.mono HS8.out.below.size))
              clear hHeld HK HRf HBk8 HSa HTa HBw HR9 HTb HBx HTc HTd HBy2 HBz HS8 HF8 HR8 HP8
              go_wp2
              go_ret
              exact ⟨rfl, HE.out⟩
end
end Go.Proofs.YtlkgaefabahkoaaDoor
