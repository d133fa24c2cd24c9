/-
  The inode map loaded from as many blocks as it has: the walk.
-/
import Derived.Test.YtbacfbdeeogkgaaImLoad
namespace Go.Proofs.Ytbacfbdeeogkgaa
open Go.RowKit Go.Maps

set_option maxRecDepth 100000 in
set_option maxHeartbeats 8000000 in
theorem load_any (n : Nat) (a : Option Addr) (m cap : Nat) (A' : Nat → Option Addr) (C' : Nat → Nat) (L : List (List Nat)) (w : World) (h4 : 4 ≤ n) (hn : n ≤ 200) (hm : m = (n + 7) / 8) (hl : Lists w a m A' C' L) :
    Calls Try.prog 8 #[.int .i64 n, .slice a m cap] w (LoadO w n L) := by
  have HNw := Lib.hid (newI_any n w h4 hn)
  have HO := Lib.hid (fun W => blocksOf_any n W hn)
  have HLs := Lib.hid hl
  have HM := Lib.hid hm
  have HN := Lib.hid hn
  have hml := hl.len
  have HLn := Lib.hid hml
  have hee : ((m : Int) != (((n + 7) / 8 : Nat) : Int)) = false := by rw [hm]; simp
  have HP : Hid (∀ e w', LoadO w n L e w' → LoadO w n L e w') := fun _ _ h => h
  have HIx := Lib.hid index8
  have HFt : Hid (∀ l : List Nat, (∀ x ∈ l, x < 256) → Fit8 (mA l) (mV l)) := fun _ h => m_fit h
  have hui := Try.underlying56
  have HQ : Hid ((n + 7) / 8 ≤ 25) := by show _ ≤ 25; omega
  generalize (n + 7) / 8 = q at *
  clear h4 hm hl hn hml
  generalize hPO : LoadO w n L = PO at *
  have HPO := Lib.hid hPO
  clear hPO HP
  go_enter Try.func8, Try.ntmps8
  go_wp2_with fail
  refine HNw.out.mono ?_
  rintro e w1 ⟨bm, gs, gd, rfl, hi, hg, hb⟩
  have HS0 : Hid (LkR w bm gs gd n L (.int .i64 0) w1) := ⟨0, Nat.zero_le _, rfl, by rw [(ld_zero L n).1, (ld_zero L n).2.1, (ld_zero L n).2.2]; exact hi, hb, fun p hp => by omega⟩
  have HG := Lib.hid hg
  clear hi hg hb HNw
  go_wp2_with fail
  refine (HO.out _).mono ?_
  rintro e w2 ⟨rfl, rfl⟩
  clear HO
  go_wp2_with fail
  go_loopw [29] (fun t wr => LkR w bm gs gd n L t wr) (fun t _ => m - (intOf t).toNat)
  case atStart => exact HS0.out
  case round =>
    clear HS0 hee
    obtain ⟨k, hk, rfl, hs⟩ := hrel
    have HS := Lib.hid hs
    have HK := Lib.hid hk
    have k0 : (0 : Int) ≤ (k : Int) := by omega
    by_cases hlt : k < m
    · have k1 : (k : Int) < (m : Int) := by omega
      have HKm := Lib.hid hlt
      obtain ⟨b, o, rfl, hcl⟩ := HLs.out.at_ (by omega)
      have hck := cell_later HS.out.b (hcl k hlt)
      obtain ⟨hby, hno, hle⟩ := HLs.out.each k hlt
      have HRd := Lib.hid (fun W hb => readMap_all (A' k) (nthL L k).length (C' k) (nthL L k) W rfl hle hb)
      have HBy := Lib.hid (hby.below HS.out.b)
      have HFk := Lib.hid (HFt.out _ hby.1)
      have hmc := mC_01 (nthL L k)
      have HMc := Lib.hid hmc
      clear hs hk hlt hcl hby hno hle hmc
      generalize A' k = ak at *
      generalize C' k = ck at *
      go_wp2_with fail
      refine (HRd.out _ HBy.out).mono ?_
      rintro e w3 ⟨rfl, hb3⟩
      have HS3 := Lib.hid (HS.out.later hb3)
      clear hb3 HS hck HBy HRd
      have HIx2 : Hid (∀ i : Nat, i < 8 → ∀ W : World, (Instr.index A8T (.agg (cells16 (mA (nthL L k)) (mV (nthL L k)))) (.int .i64 (i : Int))).run Try.prog W = .ok (.agg #[.int .i64 (pA L (8 * k + i)), .int .i64 (pV L (8 * k + i))]) W) := fun i hi W => by
        have e := HIx.out (mA (nthL L k)) (mV (nthL L k)) i hi W
        unfold pA pV
        rw [show (8 * k + i) / 8 = k by omega, show (8 * k + i) % 8 = i by omega]
        exact e
      have HFp : Hid (∀ i : Nat, i < 8 → FitZ (pA L (8 * k + i)) ∧ FitZ (pV L (8 * k + i))) := fun i hi => by
        have e := HFk.out i hi
        unfold pA pV
        rw [show (8 * k + i) / 8 = k by omega, show (8 * k + i) % 8 = i by omega]
        exact e
      have HII := Lib.hid (info_a8 (mA (nthL L k)) (mV (nthL L k)))
      have HOne := Lib.hid (cells16_one (mA (nthL L k)) (mV (nthL L k)))
      have HSz : Hid ((cells16 (mA (nthL L k)) (mV (nthL L k))).size = z16.size) := rfl
      have hz := blo_laid w3 A8T z16
      clear HIx HFt HFk
      generalize cells16 (mA (nthL L k)) (mV (nthL L k)) = CM at *
      have st := stored w3 A8T z16 CM
      go_upto_region 10 with (refine wpList_store_row rfl A8T (.tmp 10) (.tmp 37) rfl w3.heap.size CM rfl rfl A8T _ hz HII.out HSz.out.symm HOne.out ?_)
      have HR4 : Hid (Blo ((w3.alloc (.cells #[.int .i64 0, .int .i64 0, .int .i64 0, .int .i64 0, .int .i64 0, .int .i64 0, .int .i64 0, .int .i64 0, .int .i64 0, .int .i64 0, .int .i64 0, .int .i64 0, .int .i64 0, .int .i64 0, .int .i64 0, .int .i64 0] A8T)).setRow w3.heap.size CM) w3.heap.size A8T CM) := st.1
      have hs4 : Below w3.heap.size w3 ((w3.alloc (.cells #[.int .i64 0, .int .i64 0, .int .i64 0, .int .i64 0, .int .i64 0, .int .i64 0, .int .i64 0, .int .i64 0, .int .i64 0, .int .i64 0, .int .i64 0, .int .i64 0, .int .i64 0, .int .i64 0, .int .i64 0, .int .i64 0] A8T)).setRow w3.heap.size CM) := st.2
      have HS4 := Lib.hid (HS3.out.later hs4)
      clear st hs4 hz HS3
      generalize (w3.alloc (.cells #[.int .i64 0, .int .i64 0, .int .i64 0, .int .i64 0, .int .i64 0, .int .i64 0, .int .i64 0, .int .i64 0, .int .i64 0, .int .i64 0, .int .i64 0, .int .i64 0, .int .i64 0, .int .i64 0, .int .i64 0, .int .i64 0] A8T)).setRow w3.heap.size CM = w4 at *
      generalize w3.heap.size = g4 at *
      rcases HMc.out with hz | hz
      · generalize hcm : mC (nthL L k) = cm at *
        subst hz
        have HZ := Lib.hid hcm
        clear hcm
        go_upto_region 12 with fail
        go_wp2_with (refine wpList_load_row rfl A8T (.tmp 10) rfl g4 rfl A8T CM (0, 0) _ HR4.out hui rfl HII.out ?_)
        go_loopw [42] (fun t wq => LiR w bm gs gd n L k t wq) (fun t _ => 8 - (intOf t).toNat)
        case atStart => exact ⟨0, by decide, rfl, HS4.out⟩
        case round =>
          clear HS4 HR4
          obtain ⟨i, hi, rfl, hs⟩ := hrel
          have i0 : (0 : Int) ≤ (i : Int) := by omega
          have HSi := Lib.hid hs
          have HI8 := Lib.hid hi
          clear hs hi
          by_cases hlt : i < 8
          · have i1 : (i : Int) < 8 := by omega
            have HLt := Lib.hid hlt
            have hix := HIx2.out i hlt
            obtain ⟨fa, fv⟩ := HFp.out i hlt
            have HFa := Lib.hid fa
            have HFv := Lib.hid fv
            have hk26 : (k : Int) < 26 := by have := HKm.out; have := HM.out; have := HQ.out; omega
            clear hlt fa fv
            have hc : ((8 * k + i : Nat) : Int) = (k : Int) * 8 + (i : Int) := by omega
            have HC := Lib.hid hc
            clear hc
            go_wp2_with fail
            have HSj := Lib.hid (HSi.out.later (sup_im wr (.cells #[.int .i64 (pA L (8 * k + i)), .int .i64 (pV L (8 * k + i))] MEN)))
            clear HSi hix
            generalize wr.alloc (.cells #[.int .i64 (pA L (8 * k + i)), .int .i64 (pV L (8 * k + i))] MEN) = w5 at *
            have hqd : (8 * k + i) / 8 = k := by have := HLt.out; omega
            have HQd := Lib.hid hqd
            clear hqd
            by_cases hin : 1 ≤ 8 * k + i ∧ 8 * k + i < n
            · have hld := load_in (p := 8 * k + i) (C := w.heap.size) (pA L (8 * k + i)) (pV L (8 * k + i)) HSj.out.im hin.2 hin.1 HN.out HG.out.2.1 HSj.out.b.size
              rw [HC.out] at hld
              have HLd := Lib.hid hld
              have HIn := Lib.hid hin
              clear hld hin
              refine HLd.out.mono ?_
              rintro e w6 ⟨rfl, him, hbl, -⟩
              have hnx : LkS w bm gs gd n L (8 * k + (i + 1)) w6 := by
                refine ⟨?_, HSj.out.b.trans hbl, fun p hp => ?_⟩
                · rw [ldA_in L n _ HIn.out, ldV_in L n _ HIn.out, ldB_in L n _ HIn.out] at him
                  exact him
                · by_cases e : p < 8 * k + i
                  · exact HSj.out.ok p e
                  · obtain rfl : p = 8 * k + i := by omega
                    exact ⟨by rw [HQd.out]; exact HZ.out, .inl HIn.out⟩
              have HNx := Lib.hid hnx
              clear him hbl hnx HLd HSj
              go_wp2_with fail
              go_roundw
              case rel => exact ⟨i + 1, HLt.out, by simp, HNx.out⟩
              case measure => simp [intOf]; have := HLt.out; omega
            · have hout : 8 * k + i < 1 ∨ n ≤ 8 * k + i := by omega
              have hld := load_out (p := 8 * k + i) (pA L (8 * k + i)) (pV L (8 * k + i)) HSj.out.im hout (by have := HLt.out; have := HKm.out; have := HM.out; have := HQ.out; omega) HN.out HFa.out HFv.out
              rw [HC.out] at hld
              have HLd := Lib.hid hld
              have HOut := Lib.hid hout
              clear hld hin hout
              by_cases hz : pA L (8 * k + i) = 0 ∧ pV L (8 * k + i) = 0
              · have hr : decide (pA L (8 * k + i) = 0 ∧ pV L (8 * k + i) = 0) = true := decide_eq_true hz
                rw [hr] at HLd
                have HZz := Lib.hid hz
                clear hr hz
                refine HLd.out.mono ?_
                rintro e w6 ⟨rfl, hbl⟩
                have hnx : LkS w bm gs gd n L (8 * k + (i + 1)) w6 := by
                  have hl := HSj.out.later hbl
                  refine ⟨?_, hl.b, fun p hp => ?_⟩
                  · have him := hl.im
                    rw [← ldA_out L n _ HOut.out, ← ldV_out L n _ HOut.out, ← ldB_out L n _ HOut.out] at him
                    exact him
                  · by_cases e : p < 8 * k + i
                    · exact HSj.out.ok p e
                    · obtain rfl : p = 8 * k + i := by omega
                      exact ⟨by rw [HQd.out]; exact HZ.out, .inr HZz.out⟩
                have HNx := Lib.hid hnx
                clear hbl hnx HLd HSj
                go_wp2_with fail
                go_roundw
                case rel => exact ⟨i + 1, HLt.out, by simp, HNx.out⟩
                case measure => simp [intOf]; have := HLt.out; omega
              · have hr : decide (pA L (8 * k + i) = 0 ∧ pV L (8 * k + i) = 0) = false := decide_eq_false hz
                rw [hr] at HLd
                have hbad : Hid (¬ (∀ p, p < 8 * L.length → okQ L n p)) := fun hall => by
                  rcases (hall (8 * k + i) (by have := HLn.out; have := HKm.out; have := HLt.out; omega)).2 with h | h
                  · have := HOut.out; omega
                  · exact hz h
                clear hr hz
                refine HLd.out.mono ?_
                rintro e w6 ⟨rfl, hbl⟩
                have HBl := Lib.hid (HSj.out.later hbl).b
                clear hbl HLd HSj
                go_wp2
                rw [← HPO.out]
                exact ⟨.inr ⟨hbad.out, rfl⟩, HBl.out⟩
          · have i1 : ¬ (i : Int) < 8 := by omega
            obtain rfl : i = 8 := by have := HI8.out; omega
            have hk26 : (k : Int) < 26 := by have := HKm.out; have := HM.out; have := HQ.out; omega
            clear hlt
            go_wp2_with fail
            go_roundw
            case rel => exact ⟨k + 1, by have := HLn.out; have := HKm.out; omega, by simp, HSi.out⟩
            case measure => simp [intOf]; have := HKm.out; omega
      · have hbad : Hid (¬ (∀ p, p < 8 * L.length → okQ L n p)) := fun hall => by
          have := (hall (8 * k) (by have := HLn.out; have := HKm.out; omega)).1
          rw [show 8 * k / 8 = k by omega, hz] at this
          cases this
        generalize mC (nthL L k) = cm at *
        subst hz
        go_wp2
        rw [← HPO.out]
        exact ⟨.inr ⟨hbad.out, rfl⟩, HS4.out.b⟩
    · have k1 : ¬ (k : Int) < (m : Int) := by omega
      have e := HLn.out
      obtain rfl : k = L.length := by omega
      clear hlt hk hs e
      go_wp2
      rw [← HPO.out]
      exact ⟨.inl ⟨HS.out.ok, bm, gs, gd, rfl, HS.out.im, HG.out⟩, HS.out.b⟩
end Go.Proofs.Ytbacfbdeeogkgaa
