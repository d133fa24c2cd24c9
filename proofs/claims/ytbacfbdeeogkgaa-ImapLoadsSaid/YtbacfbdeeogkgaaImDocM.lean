/-
  The document's inode map loaded from blocks: the walk.
-/
import Derived.Test.YtbacfbdeeogkgaaImDocL
namespace Go.Proofs.Ytbacfbdeeogkgaa
open Go.RowKit Go.Maps

set_option maxRecDepth 100000 in
set_option maxHeartbeats 2000000 in
theorem rload_len (n : Nat) (a : Option Addr) (m cap : Nat) (w : World) (h4 : 4 ≤ n) (hn : n ≤ 200) (hm : m ≠ (n + 7) / 8) :
    Calls Try.prog 9 #[.int .i64 n, .slice a m cap] w fun e w' => e = .returned (.tuple #[.agg #[.slice none 0 0], .int .i64 100]) ∧ Below w.heap.size w w' := by
  have HB := Lib.hid (fun W => rnew_any n W h4 hn)
  have HBk := Lib.hid (fun g W h => rblocks_any g n (fun _ => 0) (fun _ => 0) (fun _ => false) (fun _ => false) W hn h (goodZ n))
  have HB0 := Lib.hid (sup_im w (.cells #[.slice none 0 0] RMP))
  have HC0 := Lib.hid (blo_laid w RMP #[.slice none 0 0])
  have hne : ((m : Int) == (((n + 7) / 8 : Nat) : Int)) = false := by rw [beq_eq_false_iff_ne]; omega
  have hne2 : ¬ (m : Int) = (((n + 7) / 8 : Nat) : Int) := by omega
  generalize (n + 7) / 8 = q at *
  clear h4 hm
  go_enter Try.func9, Try.ntmps9
  go_wp2_with fail
  refine (HB.out _).mono ?_
  rintro e w1 ⟨g, rfl, -, hr, hb⟩
  have hal := sup_im w1 (.cells #[.slice (some ⟨g, 0, none⟩) n n] RMP)
  have HB2 := Lib.hid ((HB0.out.trans (hb.mono HB0.out.size)).trans (hal.mono (Nat.le_trans HB0.out.size hb.size)))
  have HC2 := Lib.hid ((HC0.out.later hb).later hal)
  have HR2 := Lib.hid (hr.later hal)
  clear hb hr hal
  go_wp2_with fail
  refine (HBk.out g _ HR2.out).mono ?_
  rintro e w3 ⟨a3, c3, rfl, -, hb3⟩
  have HB3 := Lib.hid (HB2.out.trans (hb3.mono HB2.out.size))
  have HC3 := Lib.hid (HC2.out.later hb3)
  clear hb3
  have r0 : World.cell? _ ⟨w.heap.size, 0, none⟩ = some (.slice none 0 0) := (HC3.out.cell 0).trans rfl
  have fr := HC3.out.frozen 0
  have r3 : World.cell? _ ⟨w.heap.size, 0, none⟩ = some (.slice none 0 0) := ((HC3.out.put 0 (.slice none 0 0)).cell 0).trans rfl
  go_wp2_with fail
  refine bodyPost_ret (v := .tuple #[.agg #[.slice none 0 0], .int .i64 100]) (by simp [results, Try.results9, go_sem, r3]) rfl ⟨rfl, ?_⟩
  exact HB3.out.setCell (p := ⟨w.heap.size, 0, none⟩) (Nat.le_refl _) _
set_option maxRecDepth 100000 in
set_option maxHeartbeats 8000000 in
theorem rload_any (n : Nat) (a : Option Addr) (m cap : Nat) (A' : Nat → Option Addr) (C' : Nat → Nat) (L : List (List Nat)) (w : World) (h4 : 4 ≤ n) (hn : n ≤ 200) (hm : m = (n + 7) / 8) (hl : Lists w a m A' C' L) :
    Calls Try.prog 9 #[.int .i64 n, .slice a m cap] w (RLoadO w n L) := by
  have HB := Lib.hid (fun W => rnew_any n W h4 hn)
  have HBk := Lib.hid (fun g W h => rblocks_any g n (fun _ => 0) (fun _ => 0) (fun _ => false) (fun _ => false) W hn h (goodZ n))
  have HB0 := Lib.hid (sup_im w (.cells #[.slice none 0 0] RMP))
  have HC0 := Lib.hid (blo_laid w RMP #[.slice none 0 0])
  have HLs := Lib.hid hl
  have HM := Lib.hid hm
  have HN := Lib.hid hn
  have HLn := Lib.hid hl.len
  have hee : ((m : Int) != (((n + 7) / 8 : Nat) : Int)) = false := by rw [hm]; simp
  have hee2 : (m : Int) = (((n + 7) / 8 : Nat) : Int) := by rw [hm]
  have HQ : Hid ((n + 7) / 8 ≤ 25) := by show _ ≤ 25; omega
  generalize (n + 7) / 8 = q at *
  obtain rfl : m = q := hm
  have H4 := Lib.hid h4
  clear h4 hl hn hee hee2
  generalize hPO : RLoadO w n L = PO at *
  have HPO := Lib.hid hPO
  clear hPO
  go_enter Try.func9, Try.ntmps9
  go_wp2_with fail
  refine (HB.out _).mono ?_
  rintro e w1 ⟨g, rfl, hgw, hr, hb⟩
  have hal := sup_im w1 (.cells #[.slice (some ⟨g, 0, none⟩) n n] RMP)
  have HB2 := Lib.hid ((HB0.out.trans (hb.mono HB0.out.size)).trans (hal.mono (Nat.le_trans HB0.out.size hb.size)))
  have HC2 := Lib.hid ((HC0.out.later hb).later hal)
  have HR2 := Lib.hid (hr.later hal)
  have HX2 := Lib.hid (blo_laid w1 RMP #[.slice (some ⟨g, 0, none⟩) n n])
  have HG : Hid (w.heap.size < g ∧ g < w1.heap.size ∧ w.heap.size < w1.heap.size) := ⟨by simp at hgw; omega, hr.lt, Nat.lt_of_lt_of_le (by simp) hb.size⟩
  clear hb hr hal hgw
  go_wp2_with fail
  refine (HBk.out g _ HR2.out).mono ?_
  rintro e w3 ⟨a3, c3, rfl, -, hb3⟩
  have HS0 : Hid (RkR w g w1.heap.size n L (.int .i64 0) w3) := ⟨0, Nat.zero_le _, rfl, by rw [(ld_zero L n).1, (ld_zero L n).2.1, (ld_zero L n).2.2]; exact HR2.out.later hb3, HC2.out.later hb3, HX2.out.later hb3, HB2.out.trans (hb3.mono HB2.out.size), fun p hp => by omega⟩
  clear hb3 HB2 HC2 HR2 HX2 HB0 HC0 HB HBk
  generalize w1.heap.size = g6 at *
  go_wp2_with fail
  go_loopw [31] (fun t wr => RkR w g g6 n L t wr) (fun t _ => m - (intOf t).toNat)
  case atStart => exact HS0.out
  case round =>
    clear HS0
    obtain ⟨k, hk, rfl, hs⟩ := hrel
    have HS := Lib.hid hs
    have HK := Lib.hid hk
    have k0 : (0 : Int) ≤ (k : Int) := by omega
    have k26 : (k : Int) < 26 := by have := HLn.out; have := HQ.out; omega
    by_cases hlt : k < m
    · have k1 : (k : Int) < (m : Int) := by omega
      have HKm := Lib.hid hlt
      obtain ⟨b, o, rfl, hcl⟩ := HLs.out.at_ (by omega)
      have hck := cell_later HS.out.b (hcl k hlt)
      obtain ⟨hby, hno, hle⟩ := HLs.out.each k hlt
      have HRd := Lib.hid (fun W hb => rreadMap_all (A' k) (nthL L k).length (C' k) (nthL L k) W rfl hb)
      have HBy := Lib.hid (hby.below HS.out.b)
      have hmc := mC_01 (nthL L k)
      have HMc := Lib.hid hmc
      have HPA : Hid (∀ i : Nat, i < 8 → mA (nthL L k) i = pA L (8 * k + i) ∧ mV (nthL L k) i = pV L (8 * k + i)) := fun i hi => by
        unfold pA pV
        rw [show (8 * k + i) / 8 = k by omega, show (8 * k + i) % 8 = i by omega]
        exact ⟨rfl, rfl⟩
      clear hs hk hlt hcl hby hno hle hmc
      generalize A' k = ak at *
      generalize C' k = ck at *
      go_wp2_with fail
      refine (HRd.out _ HBy.out).mono ?_
      rintro e w4 ⟨rfl, hb4⟩
      have HS4 := Lib.hid (HS.out.later hb4)
      clear hb4 HS hck HBy HRd
      have HII := Lib.hid (info_r8 (mA (nthL L k)) (mV (nthL L k)))
      have HOne := Lib.hid (cells16_one (mA (nthL L k)) (mV (nthL L k)))
      have HSz : Hid ((cells16 (mA (nthL L k)) (mV (nthL L k))).size = z16.size) := rfl
      have HAt : Hid (∀ i : Nat, i < 8 → (cells16 (mA (nthL L k)) (mV (nthL L k)))[i * 2]? = some (.int .i64 (pA L (8 * k + i))) ∧ (cells16 (mA (nthL L k)) (mV (nthL L k)))[i * 2 + 1]? = some (.int .i64 (pV L (8 * k + i)))) := fun i hi => by
        obtain ⟨x, y⟩ := cells16_at (mA (nthL L k)) (mV (nthL L k)) i hi
        rw [x, y, (HPA.out i hi).1, (HPA.out i hi).2]
        exact ⟨rfl, rfl⟩
      have hz := blo_laid w4 R8T z16
      clear HPA
      generalize cells16 (mA (nthL L k)) (mV (nthL L k)) = CM at *
      have st := stored w4 R8T z16 CM
      go_upto_region 10 with (refine wpList_store_row rfl R8T (.tmp 9) (.tmp 40) rfl w4.heap.size CM rfl rfl R8T _ hz HII.out HSz.out.symm HOne.out ?_)
      have HM5 : Hid (Blo ((w4.alloc (.cells #[.int .i64 0, .int .i64 0, .int .i64 0, .int .i64 0, .int .i64 0, .int .i64 0, .int .i64 0, .int .i64 0, .int .i64 0, .int .i64 0, .int .i64 0, .int .i64 0, .int .i64 0, .int .i64 0, .int .i64 0, .int .i64 0] R8T)).setRow w4.heap.size CM) w4.heap.size R8T CM) := st.1
      have hs5 : Below w4.heap.size w4 ((w4.alloc (.cells #[.int .i64 0, .int .i64 0, .int .i64 0, .int .i64 0, .int .i64 0, .int .i64 0, .int .i64 0, .int .i64 0, .int .i64 0, .int .i64 0, .int .i64 0, .int .i64 0, .int .i64 0, .int .i64 0, .int .i64 0, .int .i64 0] R8T)).setRow w4.heap.size CM) := st.2
      have HS5 := Lib.hid (HS4.out.later hs5)
      have HG9 : Hid (g < w4.heap.size) := HS4.out.rm.lt
      clear st hs5 hz HS4
      generalize (w4.alloc (.cells #[.int .i64 0, .int .i64 0, .int .i64 0, .int .i64 0, .int .i64 0, .int .i64 0, .int .i64 0, .int .i64 0, .int .i64 0, .int .i64 0, .int .i64 0, .int .i64 0, .int .i64 0, .int .i64 0, .int .i64 0, .int .i64 0] R8T)).setRow w4.heap.size CM = w5 at *
      generalize w4.heap.size = g9 at *
      rcases HMc.out with hz | hz
      · generalize hcm : mC (nthL L k) = cm at *
        subst hz
        have HZ := Lib.hid hcm
        clear hcm
        go_upto_region 12 with fail
        go_wp2_with fail
        go_loopw [11] (fun t wq => RiR w g g6 n L k g9 CM t wq) (fun t _ => 8 - (intOf t).toNat)
        case atStart => exact ⟨0, by decide, rfl, HM5.out, HS5.out⟩
        case round =>
          clear HS5 HM5
          obtain ⟨i, hi, rfl, hm, hs⟩ := hrel
          have HMm := Lib.hid hm
          have HI8 := Lib.hid hi
          have i0 : (0 : Int) ≤ (i : Int) := by omega
          obtain ⟨p, hp⟩ : ∃ p : Nat, p = 8 * k + i := ⟨_, rfl⟩
          rw [← hp] at hs
          have HSi := Lib.hid hs
          have HPp := Lib.hid hp
          have b6 : World.cell? _ ⟨g6, 0, none⟩ = some (.slice (some ⟨g, 0, none⟩) n n) := (hs.bx.cell 0).trans rfl
          clear hs hm hi
          by_cases hlt : i < 8
          · have i1 : (i : Int) < 8 := by omega
            have HLt := Lib.hid hlt
            have hpe : 8 * (k : Int) + (i : Int) = (p : Int) := by omega
            have p0 : (0 : Int) ≤ (p : Int) := by omega
            have p1 : (p : Int) < 1000 := by omega
            have HQd : Hid (p / 8 = k) := by show _ = _; omega
            obtain ⟨c0, c1⟩ := HAt.out i hlt
            rw [← HMm.out.cell, ← hp] at c0 c1
            have n200 : (n : Int) ≤ 200 := by have := HN.out; omega
            have n0 : (0 : Int) ≤ (n : Int) := by omega
            clear hlt hp
            by_cases hin : 1 ≤ p ∧ p < n
            · have hpn : p < n := hin.2
              obtain ⟨d0, d1, d2, d3⟩ := HSi.out.rm.cell hpn
              have e0 := HSi.out.rm.frozen (p * 4)
              have e1 := HSi.out.rm.frozen (p * 4 + 1)
              have e2 := HSi.out.rm.frozen (p * 4 + 2)
              have e3 := HSi.out.rm.frozen (p * 4 + 3)
              have q1 : ¬ (p : Int) + 1 = 1 := by omega
              have q2 : ¬ (n : Int) < (p : Int) + 1 := by omega
              have q3 : (p : Int) + 1 ≤ (n : Int) := by omega
              have q4 : (p : Int) < (n : Int) := by omega
              have hnx := HSi.out.rm.put hpn (pA L p) (pV L p) (pA L p != 0) false
              rw [ldA_in L n p hin, ldV_in L n p hin, show upd (ldB L n p) p (pA L p != 0) = ldB L n (p + 1) from ldB_in L n p hin, upd_self] at hnx
              have HNx := Lib.hid hnx
              have hz0 : g ≠ w.heap.size ∧ g6 ≠ g ∧ g9 ≠ g := ⟨by have := HG.out.1; omega, by have := HG.out.2.1; omega, by have := HG9.out; omega⟩
              have HZ0 := Lib.hid hz0
              have hrest : Blo (((((wr.setCell ⟨g, p * 4, none⟩ (.int .i64 (pV L p))).setCell ⟨g, p * 4 + 1, none⟩ (.int .i64 (pA L p))).setCell ⟨g, p * 4 + 2, none⟩ (.bool (pA L p != 0))).setCell ⟨g, p * 4 + 3, none⟩ (.bool false))) g9 R8T CM :=
                (((HMm.out.far (p := ⟨g, p * 4, none⟩) hz0.2.2 _).far (p := ⟨g, p * 4 + 1, none⟩) hz0.2.2 _).far (p := ⟨g, p * 4 + 2, none⟩) hz0.2.2 _).far (p := ⟨g, p * 4 + 3, none⟩) hz0.2.2 _
              have hrc : Blo (((((wr.setCell ⟨g, p * 4, none⟩ (.int .i64 (pV L p))).setCell ⟨g, p * 4 + 1, none⟩ (.int .i64 (pA L p))).setCell ⟨g, p * 4 + 2, none⟩ (.bool (pA L p != 0))).setCell ⟨g, p * 4 + 3, none⟩ (.bool false))) w.heap.size RMP #[.slice none 0 0] :=
                (((HSi.out.rc.far (p := ⟨g, p * 4, none⟩) (Ne.symm hz0.1) _).far (p := ⟨g, p * 4 + 1, none⟩) (Ne.symm hz0.1) _).far (p := ⟨g, p * 4 + 2, none⟩) (Ne.symm hz0.1) _).far (p := ⟨g, p * 4 + 3, none⟩) (Ne.symm hz0.1) _
              have hbx : Blo (((((wr.setCell ⟨g, p * 4, none⟩ (.int .i64 (pV L p))).setCell ⟨g, p * 4 + 1, none⟩ (.int .i64 (pA L p))).setCell ⟨g, p * 4 + 2, none⟩ (.bool (pA L p != 0))).setCell ⟨g, p * 4 + 3, none⟩ (.bool false))) g6 RMP #[.slice (some ⟨g, 0, none⟩) n n] :=
                (((HSi.out.bx.far (p := ⟨g, p * 4, none⟩) hz0.2.1 _).far (p := ⟨g, p * 4 + 1, none⟩) hz0.2.1 _).far (p := ⟨g, p * 4 + 2, none⟩) hz0.2.1 _).far (p := ⟨g, p * 4 + 3, none⟩) hz0.2.1 _
              have hgl : w.heap.size ≤ g := by have := HG.out.1; omega
              have hbb : Below w.heap.size w (((((wr.setCell ⟨g, p * 4, none⟩ (.int .i64 (pV L p))).setCell ⟨g, p * 4 + 1, none⟩ (.int .i64 (pA L p))).setCell ⟨g, p * 4 + 2, none⟩ (.bool (pA L p != 0))).setCell ⟨g, p * 4 + 3, none⟩ (.bool false))) :=
                (((HSi.out.b.setCell (p := ⟨g, p * 4, none⟩) hgl _).setCell (p := ⟨g, p * 4 + 1, none⟩) hgl _).setCell (p := ⟨g, p * 4 + 2, none⟩) hgl _).setCell (p := ⟨g, p * 4 + 3, none⟩) hgl _
              have HRe := Lib.hid hrest
              have HRc := Lib.hid hrc
              have HBx := Lib.hid hbx
              have HBb := Lib.hid hbb
              clear hnx hz0 hrest hrc hbx hgl hbb
              have HIn := Lib.hid hin
              have hok : Hid (∀ j, j < p + 1 → okQ L n j) := fun j hj => by
                by_cases e : j < p
                · exact HSi.out.ok j (by have := HPp.out; omega)
                · obtain rfl : j = p := by omega
                  exact ⟨by rw [HQd.out]; exact HZ.out, .inl HIn.out⟩
              clear hin hpn
              generalize pA L p = va at *
              generalize pV L p = vv at *
              go_upto_region 19 with fail
              go_region
              go_wp2_with fail
              go_roundw
              case rel =>
                refine ⟨i + 1, HLt.out, by simp, HRe.out.later (Below.refl _ _).drew, ?_⟩
                rw [show 8 * k + (i + 1) = p + 1 by have := HPp.out; omega]
                exact (RkS.mk HNx.out HRc.out HBx.out HBb.out hok.out).later (Below.refl _ _).drew
              case measure => simp [intOf]; have := HLt.out; omega
            · by_cases hz : pA L p = 0 ∧ pV L p = 0
              · by_cases h0 : p = 0
                · obtain rfl : p = 0 := h0
                  have hpn : 0 < n := by have := H4.out; omega
                  obtain ⟨d0, d1, d2, d3⟩ := HSi.out.rm.cell hpn
                  have e0 := HSi.out.rm.frozen (0 * 4)
                  have e1 := HSi.out.rm.frozen (0 * 4 + 1)
                  have e2 := HSi.out.rm.frozen (0 * 4 + 2)
                  have e3 := HSi.out.rm.frozen (0 * 4 + 3)
                  have q3 : (1 : Int) ≤ (n : Int) := by omega
                  have q4 : (0 : Int) < (n : Int) := by omega
                  have hnx := HSi.out.rm.put hpn (pA L 0) (pV L 0) (pA L 0 != 0) false
                  rw [ldA_z L n hz.1, ldV_z L n hz.2, show upd (ldB L n 0) 0 (pA L 0 != 0) = ldB L n (0 + 1) from ldB_z L n hz.1, upd_self] at hnx
                  have HNx := Lib.hid hnx
                  have hz0 : g ≠ w.heap.size ∧ g6 ≠ g ∧ g9 ≠ g := ⟨by have := HG.out.1; omega, by have := HG.out.2.1; omega, by have := HG9.out; omega⟩
                  have HZ0 := Lib.hid hz0
                  have hrest : Blo (((((wr.setCell ⟨g, 0 * 4, none⟩ (.int .i64 (pV L 0))).setCell ⟨g, 0 * 4 + 1, none⟩ (.int .i64 (pA L 0))).setCell ⟨g, 0 * 4 + 2, none⟩ (.bool (pA L 0 != 0))).setCell ⟨g, 0 * 4 + 3, none⟩ (.bool false))) g9 R8T CM :=
                    (((HMm.out.far (p := ⟨g, 0 * 4, none⟩) hz0.2.2 _).far (p := ⟨g, 0 * 4 + 1, none⟩) hz0.2.2 _).far (p := ⟨g, 0 * 4 + 2, none⟩) hz0.2.2 _).far (p := ⟨g, 0 * 4 + 3, none⟩) hz0.2.2 _
                  have hrc : Blo (((((wr.setCell ⟨g, 0 * 4, none⟩ (.int .i64 (pV L 0))).setCell ⟨g, 0 * 4 + 1, none⟩ (.int .i64 (pA L 0))).setCell ⟨g, 0 * 4 + 2, none⟩ (.bool (pA L 0 != 0))).setCell ⟨g, 0 * 4 + 3, none⟩ (.bool false))) w.heap.size RMP #[.slice none 0 0] :=
                    (((HSi.out.rc.far (p := ⟨g, 0 * 4, none⟩) (Ne.symm hz0.1) _).far (p := ⟨g, 0 * 4 + 1, none⟩) (Ne.symm hz0.1) _).far (p := ⟨g, 0 * 4 + 2, none⟩) (Ne.symm hz0.1) _).far (p := ⟨g, 0 * 4 + 3, none⟩) (Ne.symm hz0.1) _
                  have hbx : Blo (((((wr.setCell ⟨g, 0 * 4, none⟩ (.int .i64 (pV L 0))).setCell ⟨g, 0 * 4 + 1, none⟩ (.int .i64 (pA L 0))).setCell ⟨g, 0 * 4 + 2, none⟩ (.bool (pA L 0 != 0))).setCell ⟨g, 0 * 4 + 3, none⟩ (.bool false))) g6 RMP #[.slice (some ⟨g, 0, none⟩) n n] :=
                    (((HSi.out.bx.far (p := ⟨g, 0 * 4, none⟩) hz0.2.1 _).far (p := ⟨g, 0 * 4 + 1, none⟩) hz0.2.1 _).far (p := ⟨g, 0 * 4 + 2, none⟩) hz0.2.1 _).far (p := ⟨g, 0 * 4 + 3, none⟩) hz0.2.1 _
                  have hgl : w.heap.size ≤ g := by have := HG.out.1; omega
                  have hbb : Below w.heap.size w (((((wr.setCell ⟨g, 0 * 4, none⟩ (.int .i64 (pV L 0))).setCell ⟨g, 0 * 4 + 1, none⟩ (.int .i64 (pA L 0))).setCell ⟨g, 0 * 4 + 2, none⟩ (.bool (pA L 0 != 0))).setCell ⟨g, 0 * 4 + 3, none⟩ (.bool false))) :=
                    (((HSi.out.b.setCell (p := ⟨g, 0 * 4, none⟩) hgl _).setCell (p := ⟨g, 0 * 4 + 1, none⟩) hgl _).setCell (p := ⟨g, 0 * 4 + 2, none⟩) hgl _).setCell (p := ⟨g, 0 * 4 + 3, none⟩) hgl _
                  have HRe := Lib.hid hrest
                  have HRc := Lib.hid hrc
                  have HBx := Lib.hid hbx
                  have HBb := Lib.hid hbb
                  clear hnx hz0 hrest hrc hbx hgl hbb
                  have hok : Hid (∀ j, j < 0 + 1 → okQ L n j) := fun j hj => by
                    obtain rfl : j = 0 := by omega
                    exact ⟨by rw [HQd.out]; exact HZ.out, .inr hz⟩
                  obtain ⟨za, zv⟩ := hz
                  rw [za] at HNx HRe HRc HBx HBb c0
                  rw [zv] at HNx HRe HRc HBx HBb c1
                  clear hin hpn za zv
                  go_upto_region 19 with fail
                  go_region
                  go_wp2_with fail
                  go_roundw
                  case rel =>
                    refine ⟨i + 1, HLt.out, by simp, HRe.out.later (Below.refl _ _).drew, ?_⟩
                    rw [show 8 * k + (i + 1) = 0 + 1 by have := HPp.out; omega]
                    exact (RkS.mk HNx.out HRc.out HBx.out HBb.out hok.out).later (Below.refl _ _).drew
                  case measure => simp [intOf]; have := HLt.out; omega
                · have hout : p < 1 ∨ n ≤ p := by omega
                  have q1 : ¬ (p : Int) + 1 = 1 := by omega
                  have q2 : (n : Int) < (p : Int) + 1 := by omega
                  have q3 : ¬ (p : Int) + 1 ≤ (n : Int) := by omega
                  have hnx : RkS w g g6 n L (p + 1) wr := by
                    have hs := HSi.out
                    refine ⟨?_, hs.rc, hs.bx, hs.b, fun j hj => ?_⟩
                    · rw [ldA_out L n p hout, ldV_out L n p hout, ldB_out L n p hout]; exact hs.rm
                    · by_cases e : j < p
                      · exact hs.ok j e
                      · obtain rfl : j = p := by omega
                        exact ⟨by rw [HQd.out]; exact HZ.out, .inr hz⟩
                  have HNx := Lib.hid hnx
                  obtain ⟨za, zv⟩ := hz
                  rw [za] at c0
                  rw [zv] at c1
                  clear hin hout za zv hnx h0
                  go_wp2_with fail
                  go_roundw
                  case rel =>
                    refine ⟨i + 1, HLt.out, by simp, HMm.out, ?_⟩
                    rw [show 8 * k + (i + 1) = p + 1 by have := HPp.out; omega]
                    exact HNx.out
                  case measure => simp [intOf]; have := HLt.out; omega
              · by_cases h0 : p = 0
                · by_cases h1 : pA L p = 0
                  · have hbad : Hid (¬ (∀ p, p < 8 * L.length → okQ L n p)) := fun hall => by
                      rcases (hall p (by have := HLn.out; have := HKm.out; have := HLt.out; have := HPp.out; omega)).2 with h | h
                      · exact hin h
                      · exact hz h
                    have q1 : (p : Int) + 1 = 1 := by omega
                    have hvv : (pV L p == 0) = false := by rw [beq_eq_false_iff_ne]; exact fun e => hz ⟨h1, e⟩
                    rw [h1] at c0
                    clear h1
                    clear hin hz h0
                    generalize pA L p = va at *
                    generalize pV L p = vv at *
                    have r0 : World.cell? _ ⟨w.heap.size, 0, none⟩ = some (.slice none 0 0) := (HSi.out.rc.cell 0).trans rfl
                    have fr := HSi.out.rc.frozen 0
                    have r3 : World.cell? _ ⟨w.heap.size, 0, none⟩ = some (.slice none 0 0) := ((HSi.out.rc.put 0 (.slice none 0 0)).cell 0).trans rfl
                    go_wp2_with fail
                    refine bodyPost_ret (v := .tuple #[.agg #[.slice none 0 0], .int .i64 100]) (by simp [results, Try.results9, go_sem, r3]) rfl ?_
                    rw [← HPO.out]
                    exact ⟨.inr ⟨hbad.out, rfl⟩, HSi.out.b.setCell (p := ⟨w.heap.size, 0, none⟩) (Nat.le_refl _) _⟩
                  · have hbad : Hid (¬ (∀ p, p < 8 * L.length → okQ L n p)) := fun hall => by
                      rcases (hall p (by have := HLn.out; have := HKm.out; have := HLt.out; have := HPp.out; omega)).2 with h | h
                      · exact hin h
                      · exact hz h
                    have q1 : (p : Int) + 1 = 1 := by omega
                    have hva : (pA L p == 0) = false := by rw [beq_eq_false_iff_ne]; exact h1
                    clear h1
                    clear hin hz h0
                    generalize pA L p = va at *
                    generalize pV L p = vv at *
                    have r0 : World.cell? _ ⟨w.heap.size, 0, none⟩ = some (.slice none 0 0) := (HSi.out.rc.cell 0).trans rfl
                    have fr := HSi.out.rc.frozen 0
                    have r3 : World.cell? _ ⟨w.heap.size, 0, none⟩ = some (.slice none 0 0) := ((HSi.out.rc.put 0 (.slice none 0 0)).cell 0).trans rfl
                    go_wp2_with fail
                    refine bodyPost_ret (v := .tuple #[.agg #[.slice none 0 0], .int .i64 100]) (by simp [results, Try.results9, go_sem, r3]) rfl ?_
                    rw [← HPO.out]
                    exact ⟨.inr ⟨hbad.out, rfl⟩, HSi.out.b.setCell (p := ⟨w.heap.size, 0, none⟩) (Nat.le_refl _) _⟩
                · by_cases h1 : pA L p = 0
                  · have hbad : Hid (¬ (∀ p, p < 8 * L.length → okQ L n p)) := fun hall => by
                      rcases (hall p (by have := HLn.out; have := HKm.out; have := HLt.out; have := HPp.out; omega)).2 with h | h
                      · exact hin h
                      · exact hz h
                    have q1 : ¬ (p : Int) + 1 = 1 := by omega
                    have q2 : (n : Int) < (p : Int) + 1 := by omega
                    have hvv : (pV L p == 0) = false := by rw [beq_eq_false_iff_ne]; exact fun e => hz ⟨h1, e⟩
                    rw [h1] at c0
                    clear h1
                    clear hin hz h0
                    generalize pA L p = va at *
                    generalize pV L p = vv at *
                    have r0 : World.cell? _ ⟨w.heap.size, 0, none⟩ = some (.slice none 0 0) := (HSi.out.rc.cell 0).trans rfl
                    have fr := HSi.out.rc.frozen 0
                    have r3 : World.cell? _ ⟨w.heap.size, 0, none⟩ = some (.slice none 0 0) := ((HSi.out.rc.put 0 (.slice none 0 0)).cell 0).trans rfl
                    go_wp2_with fail
                    refine bodyPost_ret (v := .tuple #[.agg #[.slice none 0 0], .int .i64 100]) (by simp [results, Try.results9, go_sem, r3]) rfl ?_
                    rw [← HPO.out]
                    exact ⟨.inr ⟨hbad.out, rfl⟩, HSi.out.b.setCell (p := ⟨w.heap.size, 0, none⟩) (Nat.le_refl _) _⟩
                  · have hbad : Hid (¬ (∀ p, p < 8 * L.length → okQ L n p)) := fun hall => by
                      rcases (hall p (by have := HLn.out; have := HKm.out; have := HLt.out; have := HPp.out; omega)).2 with h | h
                      · exact hin h
                      · exact hz h
                    have q1 : ¬ (p : Int) + 1 = 1 := by omega
                    have q2 : (n : Int) < (p : Int) + 1 := by omega
                    have hva : (pA L p == 0) = false := by rw [beq_eq_false_iff_ne]; exact h1
                    clear h1
                    clear hin hz h0
                    generalize pA L p = va at *
                    generalize pV L p = vv at *
                    have r0 : World.cell? _ ⟨w.heap.size, 0, none⟩ = some (.slice none 0 0) := (HSi.out.rc.cell 0).trans rfl
                    have fr := HSi.out.rc.frozen 0
                    have r3 : World.cell? _ ⟨w.heap.size, 0, none⟩ = some (.slice none 0 0) := ((HSi.out.rc.put 0 (.slice none 0 0)).cell 0).trans rfl
                    go_wp2_with fail
                    refine bodyPost_ret (v := .tuple #[.agg #[.slice none 0 0], .int .i64 100]) (by simp [results, Try.results9, go_sem, r3]) rfl ?_
                    rw [← HPO.out]
                    exact ⟨.inr ⟨hbad.out, rfl⟩, HSi.out.b.setCell (p := ⟨w.heap.size, 0, none⟩) (Nat.le_refl _) _⟩
          · have i1 : ¬ (i : Int) < 8 := by omega
            obtain rfl : i = 8 := by have := HI8.out; omega
            clear hlt hp
            go_wp2_with fail
            go_roundw
            case rel => exact ⟨k + 1, by have := HLn.out; have := HKm.out; omega, by simp, by rw [show 8 * (k + 1) = p by have := HPp.out; omega]; exact HSi.out⟩
            case measure => simp [intOf]; have := HKm.out; omega
      · have hbad : Hid (¬ (∀ p, p < 8 * L.length → okQ L n p)) := fun hall => by
          have := (hall (8 * k) (by have := HLn.out; have := HKm.out; omega)).1
          rw [show 8 * k / 8 = k by omega, hz] at this
          cases this
        generalize mC (nthL L k) = cm at *
        subst hz
        have r0 : World.cell? _ ⟨w.heap.size, 0, none⟩ = some (.slice none 0 0) := (HS5.out.rc.cell 0).trans rfl
        have fr := HS5.out.rc.frozen 0
        have r3 : World.cell? _ ⟨w.heap.size, 0, none⟩ = some (.slice none 0 0) := ((HS5.out.rc.put 0 (.slice none 0 0)).cell 0).trans rfl
        go_wp2_with fail
        refine bodyPost_ret (v := .tuple #[.agg #[.slice none 0 0], .int .i64 100]) (by simp [results, Try.results9, go_sem, r3]) rfl ?_
        rw [← HPO.out]
        exact ⟨.inr ⟨hbad.out, rfl⟩, HS5.out.b.setCell (p := ⟨w.heap.size, 0, none⟩) (Nat.le_refl _) _⟩
    · have k1 : ¬ (k : Int) < (m : Int) := by omega
      have e := HLn.out
      obtain rfl : k = L.length := by omega
      clear hlt hk hs e
      have b6 : World.cell? _ ⟨g6, 0, none⟩ = some (.slice (some ⟨g, 0, none⟩) n n) := (HS.out.bx.cell 0).trans rfl
      have r0 : World.cell? _ ⟨w.heap.size, 0, none⟩ = some (.slice none 0 0) := (HS.out.rc.cell 0).trans rfl
      have fr := HS.out.rc.frozen 0
      have r3 : World.cell? _ ⟨w.heap.size, 0, none⟩ = some (.slice (some ⟨g, 0, none⟩) n n) := ((HS.out.rc.put 0 (.slice (some ⟨g, 0, none⟩) n n)).cell 0).trans rfl
      go_wp2_with fail
      refine bodyPost_ret (v := .tuple #[rmv g n, .int .i64 0]) (by simp [results, Try.results9, go_sem, r3]) rfl ?_
      rw [← HPO.out]
      exact ⟨.inl ⟨HS.out.ok, g, rfl, by have := HG.out.1; omega, HS.out.rm.far (by have := HG.out.1; show g ≠ w.heap.size; omega) _⟩, HS.out.b.setCell (p := ⟨w.heap.size, 0, none⟩) (Nat.le_refl _) _⟩
end Go.Proofs.Ytbacfbdeeogkgaa
