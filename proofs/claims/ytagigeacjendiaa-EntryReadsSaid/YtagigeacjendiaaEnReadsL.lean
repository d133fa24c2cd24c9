/-
  EntryReads.
-/
import Derived.Test.YtagigeacjendiaaEnReadsM
namespace Go.Proofs.Ytagigeacjendiaa
open Go.RowKit Go.BigFrame

theorem own_emptyB (w : World) : (w.alloc (.cells #[] U8)).ownsRow w.heap.size U8 1 (.slice (some ⟨w.heap.size, 0, none⟩) 0 0) 0 (cellsB []) :=
  ⟨rfl, .inr ⟨w.heap.size, 0, #[], rfl, Nat.le_refl _, heap_alloc_new w _, Nat.le_refl _, by decide, rfl, rfl⟩⟩
set_option maxRecDepth 100000 in
set_option maxHeartbeats 16000000 in
theorem entryReads_bytes (a : Option Addr) (n c : Nat) (l : List Nat) (w : World) (hn : n = l.length) (hb : Bytes w a l) (hnone : a = none → l = [] ∧ c = 0) (hc : n ≤ c) : Calls Try.prog 5 #[.slice a n c] w fun e w' => e = .returned (.bool true) ∧ Below w.heap.size w w' := by
  by_cases hbig : 1000 < n
  · have h1' : (1000 : Int) < (n : Int) := by omega
    clear hbig hn hb hnone hc
    go_enter Try.func5, Try.ntmps5
    go_wp2_with fail
    refine (awake_any _).mono ?_
    rintro e w1 ⟨rfl, hb1⟩
    have HB1 := Lib.hid hb1
    clear hb1
    go_wp2_with fail
    refine (awake_any _).mono ?_
    rintro e w2 ⟨rfl, hb2⟩
    have HB2 := Lib.hid (HB1.out.trans (hb2.mono HB1.out.size))
    clear hb2 HB1
    go_wp2_with fail
    go_ret
    exact ⟨rfl, HB2.out⟩
  · have h1' : ¬ (1000 : Int) < (n : Int) := by omega
    have HBg : Hid (n ≤ 1000) := by show _ ≤ _; omega
    have HLn := Lib.hid hn
    have HC := Lib.hid hc
    have HNn := Lib.hid hnone
    have HBt := Lib.hid hb
    have HM1 := Lib.hid (fun a cap W h1 h2 => readMap_all a n cap l W hn h1 h2)
    have HM2 := Lib.hid (fun W h2 => rreadMap_all a n c l W hn h2)
    have HD1 := Lib.hid (fun a cap W h1 h2 => readDir_all a n cap l W hn h1 h2)
    have HD2 := Lib.hid (fun W h2 => rreadDir_all a n c l W hn hc h2)
    have HRm := Lib.hid (refMap_any (mA l) (mV l))
    have HRd := Lib.hid (refDir_any (dI l) (dN l))
    have HQm := Lib.hid (neq_r8 (mA l) (mV l) (m_fit hb.1))
    have HQd := Lib.hid (neq_r4 (dI l) (dN l) (d_fit hb.1))
    have HMb := Lib.hid (@m_back l)
    have HDb := Lib.hid (@d_back l hb.1)
    have HIa := Lib.hid (info_a8 (mA l) (mV l))
    have HIr := Lib.hid (info_r8 (mA l) (mV l))
    have HId := Lib.hid (info_a4g (dI l) (dN l))
    have HIe := Lib.hid (info_r4 (dI l) (dN l))
    have HOm := Lib.hid (cells16_one (mA l) (mV l))
    have HOd := Lib.hid (cells8_one (dI l) (dN l))
    have HSm : Hid ((cells16 (mA l) (mV l)).size = 16) := rfl
    have HSd : Hid ((cells8 (dI l) (dN l)).size = 8) := rfl
    have hu1 := Try.underlying24
    have hu2 := Try.underlying33
    have hu3 := Try.underlying40
    have hu4 := Try.underlying44
    have hmc := mC_01 l
    have hdc := dC_01 l
    have HMc := Lib.hid hmc
    have HDc := Lib.hid hdc
    clear hbig hn hb hnone hc hmc hdc
    generalize cells16 (mA l) (mV l) = CM at *
    generalize cells8 (dI l) (dN l) = CD at *
    generalize mC l = cm at *
    generalize dC l = cd at *
    have hcm : (cm != cm) = false := by simp
    have hcd : (cd != cd) = false := by simp
    go_enter Try.func5, Try.ntmps5
    go_wp2_with fail
    refine (awake_any _).mono ?_
    rintro e w1 ⟨rfl, hb1⟩
    have HB1 := Lib.hid hb1
    have HY1 := Lib.hid (HBt.out.below hb1)
    have hal := sup_en w1 (.cells #[] U8)
    have HO := Lib.hid (own_emptyB w1)
    have HY2 := Lib.hid (HY1.out.below hal)
    have HBe := Lib.hid hal
    have HB2 := Lib.hid (HB1.out.trans (hal.mono HB1.out.size))
    clear hb1 hal HBt
    go_wp2_with (at_builtin; refine wp_append_bytes rfl (.tmp 24) (.tmp 25) 26 rfl w1.heap.size U8 Try.underlying26 info_u8 _ 0 [] rfl HO.out (fun _ h => by cases h) a n c l rfl HLn.out HY2.out HNn.out (by have := HBg.out; omega) HBe.out.size ?_; intro a5 c5 w5 ho5 hg5 hB5 hN5; have HO5 := Lib.hid ho5; have HB5 := Lib.hid (HBe.out.grown hg5 HBe.out.size (fun q hq => (HO.out.lt q hq).1)); have HYi := Lib.hid hB5; clear ho5 hg5 hB5 hN5)
    rw [List.nil_append] at HYi
    have HCi : Hid (n ≤ c5) := by
      have h := HO5.out
      rw [Nat.zero_add] at h
      obtain ⟨a', c', hv, hc⟩ := own_slice h
      cases hv; exact hc
    have HYb := Lib.hid (HY1.out.below HB5.out)
    have HB0s := Lib.hid (HB1.out.trans (HB5.out.mono HB1.out.size))
    clear HY1 HY2 HBe HB2 HB1 HO HO5 HB5
    go_wp2_with fail
    refine (HM1.out a5 c5 _ HCi.out HYi.out).mono ?_
    rintro e w6 ⟨rfl, hb6⟩
    have HYi := Lib.hid (HYi.out.below hb6)
    have HYb := Lib.hid (HYb.out.below hb6)
    have HB6 := Lib.hid (HB0s.out.trans (hb6.mono HB0s.out.size))
    clear hb6 HB0s
    have hz6 := blo_laid w6 A8T z16
    have st6 := stored w6 A8T z16 CM
    go_wp2_with (refine wpList_store_row rfl A8T (.tmp 4) (.tmp 30) rfl w6.heap.size CM rfl rfl A8T _ hz6 HIa.out HSm.out.symm HOm.out ?_)
    have HN6 : Hid (Blo ((w6.alloc (.cells #[.int .i64 0, .int .i64 0, .int .i64 0, .int .i64 0, .int .i64 0, .int .i64 0, .int .i64 0, .int .i64 0, .int .i64 0, .int .i64 0, .int .i64 0, .int .i64 0, .int .i64 0, .int .i64 0, .int .i64 0, .int .i64 0] 24)).setRow w6.heap.size CM) w6.heap.size A8T CM) := st6.1
    have hs6 : Below w6.heap.size w6 ((w6.alloc (.cells #[.int .i64 0, .int .i64 0, .int .i64 0, .int .i64 0, .int .i64 0, .int .i64 0, .int .i64 0, .int .i64 0, .int .i64 0, .int .i64 0, .int .i64 0, .int .i64 0, .int .i64 0, .int .i64 0, .int .i64 0, .int .i64 0] 24)).setRow w6.heap.size CM) := st6.2
    have HYi := Lib.hid (HYi.out.below hs6)
    have HYb := Lib.hid (HYb.out.below hs6)
    have HB6s := Lib.hid (HB6.out.trans (hs6.mono HB6.out.size))
    clear hz6 st6 hs6 HB6
    generalize (w6.alloc (.cells #[.int .i64 0, .int .i64 0, .int .i64 0, .int .i64 0, .int .i64 0, .int .i64 0, .int .i64 0, .int .i64 0, .int .i64 0, .int .i64 0, .int .i64 0, .int .i64 0, .int .i64 0, .int .i64 0, .int .i64 0, .int .i64 0] 24)).setRow w6.heap.size CM = w6s at *
    generalize w6.heap.size = g6 at *
    go_wp2_with fail
    refine (HM2.out _ HYb.out).mono ?_
    rintro e w7 ⟨rfl, hb7⟩
    have HYi := Lib.hid (HYi.out.below hb7)
    have HYb := Lib.hid (HYb.out.below hb7)
    have HN6 := Lib.hid (HN6.out.later hb7)
    have HB7 := Lib.hid (HB6s.out.trans (hb7.mono HB6s.out.size))
    clear hb7 HB6s
    have hz7 := blo_laid w7 R8T z16
    have st7 := stored w7 R8T z16 CM
    go_wp2_with (refine wpList_store_row rfl R8T (.tmp 6) (.tmp 35) rfl w7.heap.size CM rfl rfl R8T _ hz7 HIr.out HSm.out.symm HOm.out ?_)
    have HN7 : Hid (Blo ((w7.alloc (.cells #[.int .i64 0, .int .i64 0, .int .i64 0, .int .i64 0, .int .i64 0, .int .i64 0, .int .i64 0, .int .i64 0, .int .i64 0, .int .i64 0, .int .i64 0, .int .i64 0, .int .i64 0, .int .i64 0, .int .i64 0, .int .i64 0] 33)).setRow w7.heap.size CM) w7.heap.size R8T CM) := st7.1
    have hs7 : Below w7.heap.size w7 ((w7.alloc (.cells #[.int .i64 0, .int .i64 0, .int .i64 0, .int .i64 0, .int .i64 0, .int .i64 0, .int .i64 0, .int .i64 0, .int .i64 0, .int .i64 0, .int .i64 0, .int .i64 0, .int .i64 0, .int .i64 0, .int .i64 0, .int .i64 0] 33)).setRow w7.heap.size CM) := st7.2
    have HYi := Lib.hid (HYi.out.below hs7)
    have HYb := Lib.hid (HYb.out.below hs7)
    have HN6 := Lib.hid (HN6.out.later hs7)
    have HB7s := Lib.hid (HB7.out.trans (hs7.mono HB7.out.size))
    clear hz7 st7 hs7 HB7
    generalize (w7.alloc (.cells #[.int .i64 0, .int .i64 0, .int .i64 0, .int .i64 0, .int .i64 0, .int .i64 0, .int .i64 0, .int .i64 0, .int .i64 0, .int .i64 0, .int .i64 0, .int .i64 0, .int .i64 0, .int .i64 0, .int .i64 0, .int .i64 0] 33)).setRow w7.heap.size CM = w7s at *
    generalize w7.heap.size = g7 at *
    go_wp2_with fail
    refine (HD1.out a5 c5 _ HCi.out HYi.out).mono ?_
    rintro e w8 ⟨rfl, hb8⟩
    have HYi := Lib.hid (HYi.out.below hb8)
    have HYb := Lib.hid (HYb.out.below hb8)
    have HN6 := Lib.hid (HN6.out.later hb8)
    have HN7 := Lib.hid (HN7.out.later hb8)
    have HB8 := Lib.hid (HB7s.out.trans (hb8.mono HB7s.out.size))
    clear hb8 HB7s
    have hz8 := blo_laid w8 A4D z8d
    have st8 := stored w8 A4D z8d CD
    go_wp2_with (refine wpList_store_row rfl A4D (.tmp 8) (.tmp 40) rfl w8.heap.size CD rfl rfl A4D _ hz8 HId.out HSd.out.symm HOd.out ?_)
    have HN8 : Hid (Blo ((w8.alloc (.cells #[.int .i64 0, .string ⟨#[]⟩, .int .i64 0, .string ⟨#[]⟩, .int .i64 0, .string ⟨#[]⟩, .int .i64 0, .string ⟨#[]⟩] 40)).setRow w8.heap.size CD) w8.heap.size A4D CD) := st8.1
    have hs8 : Below w8.heap.size w8 ((w8.alloc (.cells #[.int .i64 0, .string ⟨#[]⟩, .int .i64 0, .string ⟨#[]⟩, .int .i64 0, .string ⟨#[]⟩, .int .i64 0, .string ⟨#[]⟩] 40)).setRow w8.heap.size CD) := st8.2
    have HYi := Lib.hid (HYi.out.below hs8)
    have HYb := Lib.hid (HYb.out.below hs8)
    have HN6 := Lib.hid (HN6.out.later hs8)
    have HN7 := Lib.hid (HN7.out.later hs8)
    have HB8s := Lib.hid (HB8.out.trans (hs8.mono HB8.out.size))
    clear hz8 st8 hs8 HB8
    generalize (w8.alloc (.cells #[.int .i64 0, .string ⟨#[]⟩, .int .i64 0, .string ⟨#[]⟩, .int .i64 0, .string ⟨#[]⟩, .int .i64 0, .string ⟨#[]⟩] 40)).setRow w8.heap.size CD = w8s at *
    generalize w8.heap.size = g8 at *
    go_wp2_with fail
    refine (HD2.out _ HYb.out).mono ?_
    rintro e w9 ⟨rfl, hb9⟩
    have HYi := Lib.hid (HYi.out.below hb9)
    have HYb := Lib.hid (HYb.out.below hb9)
    have HN6 := Lib.hid (HN6.out.later hb9)
    have HN7 := Lib.hid (HN7.out.later hb9)
    have HN8 := Lib.hid (HN8.out.later hb9)
    have HB9 := Lib.hid (HB8s.out.trans (hb9.mono HB8s.out.size))
    clear hb9 HB8s
    have hz9 := blo_laid w9 R4T z8d
    have st9 := stored w9 R4T z8d CD
    go_wp2_with (refine wpList_store_row rfl R4T (.tmp 10) (.tmp 45) rfl w9.heap.size CD rfl rfl R4T _ hz9 HIe.out HSd.out.symm HOd.out ?_)
    have HN9 : Hid (Blo ((w9.alloc (.cells #[.int .i64 0, .string ⟨#[]⟩, .int .i64 0, .string ⟨#[]⟩, .int .i64 0, .string ⟨#[]⟩, .int .i64 0, .string ⟨#[]⟩] 44)).setRow w9.heap.size CD) w9.heap.size R4T CD) := st9.1
    have hs9 : Below w9.heap.size w9 ((w9.alloc (.cells #[.int .i64 0, .string ⟨#[]⟩, .int .i64 0, .string ⟨#[]⟩, .int .i64 0, .string ⟨#[]⟩, .int .i64 0, .string ⟨#[]⟩] 44)).setRow w9.heap.size CD) := st9.2
    have HYi := Lib.hid (HYi.out.below hs9)
    have HYb := Lib.hid (HYb.out.below hs9)
    have HN6 := Lib.hid (HN6.out.later hs9)
    have HN7 := Lib.hid (HN7.out.later hs9)
    have HN8 := Lib.hid (HN8.out.later hs9)
    have HB9s := Lib.hid (HB9.out.trans (hs9.mono HB9.out.size))
    clear hz9 st9 hs9 HB9
    generalize (w9.alloc (.cells #[.int .i64 0, .string ⟨#[]⟩, .int .i64 0, .string ⟨#[]⟩, .int .i64 0, .string ⟨#[]⟩, .int .i64 0, .string ⟨#[]⟩] 44)).setRow w9.heap.size CD = w9s at *
    generalize w9.heap.size = g9 at *
    have K6 : Hid (∀ W, (∃ x : Kept w9s, W = x.at_) → W.heap[g6]? = some (.cells CM A8T (0, 0))) := fun W ⟨x, hx⟩ => by rw [hx]; exact HN6.out.later x.below
    have K7 : Hid (∀ W, (∃ x : Kept w9s, W = x.at_) → W.heap[g7]? = some (.cells CM R8T (0, 0))) := fun W ⟨x, hx⟩ => by rw [hx]; exact HN7.out.later x.below
    have K8 : Hid (∀ W, (∃ x : Kept w9s, W = x.at_) → W.heap[g8]? = some (.cells CD A4D (0, 0))) := fun W ⟨x, hx⟩ => by rw [hx]; exact HN8.out.later x.below
    have K9 : Hid (∀ W, (∃ x : Kept w9s, W = x.at_) → W.heap[g9]? = some (.cells CD R4T (0, 0))) := fun W ⟨x, hx⟩ => by rw [hx]; exact HN9.out.later x.below
    have tin : ∀ x : Kept w9s, (convert 26 9 (.slice a5 n c5)).run Try.prog x.at_ = .ok (.string (strOf l)) x.at_ := fun x => text_of (HYi.out.below x.below) n c5 HLn.out
    have tb : ∀ x : Kept w9s, (convert 26 9 (.slice a n c)).run Try.prog x.at_ = .ok (.string (strOf l)) x.at_ := fun x => text_of (HYb.out.below x.below) n c HLn.out
    have HTx : Hid (∀ W, Bytes W a l → (convert 26 9 (.slice a n c)).run Try.prog W = .ok (.string (strOf l)) W) := fun W h => text_of h n c HLn.out
    have HTy : Hid (∀ W b k, l.length = 64 → Bytes W b l → (convert 26 9 (.slice b 64 k)).run Try.prog W = .ok (.string (strOf l)) W) := fun W b k hl h => text_of h 64 k hl.symm
    have hq1 := HQm.out
    have hq2 := HQd.out
    generalize strOf l = tx at *
    have htx : (tx.toList == tx.toList) = true := by simp
    go_wp2_with fail
    refine wp_region_kept (by kernel_rfl) (by kernel_rfl) ?_
    repeat (go_big_quiet_step (fail))
    go_big_quiet_want
    refine quiet_row A8T (.tmp 4) rfl g6 rfl A8T CM (0, 0) _ K6.out hu1 rfl HIa.out ?_
    simp only [Act.put, List.setIfInBounds_toArray, List.set_cons_succ, List.set_cons_zero]
    go_big_quiet_on
    go_big_quiet_step ((first | (go_at_call 12; exact kept_call _ (HRm.out _)) | fail))
    go_big_quiet_want
    refine quiet_row R8T (.tmp 6) rfl g7 rfl R8T CM (0, 0) _ K7.out hu2 rfl HIr.out ?_
    simp only [Act.put, List.setIfInBounds_toArray, List.set_cons_succ, List.set_cons_zero]
    go_big_quiet_on
    repeat (go_big_quiet_step (fail))
    go_big_quiet_want
    refine quiet_row A4D (.tmp 8) rfl g8 rfl A4D CD (0, 0) _ K8.out hu3 rfl HId.out ?_
    simp only [Act.put, List.setIfInBounds_toArray, List.set_cons_succ, List.set_cons_zero]
    go_big_quiet_on
    go_big_quiet_step ((first | (go_at_call 16; exact kept_call _ (HRd.out _)) | fail))
    go_big_quiet_want
    refine quiet_row R4T (.tmp 10) rfl g9 rfl R4T CD (0, 0) _ K9.out hu4 rfl HIe.out ?_
    simp only [Act.put, List.setIfInBounds_toArray, List.set_cons_succ, List.set_cons_zero]
    go_big_quiet_on
    repeat (go_big_quiet_step (fail))
    refine wpQuiet_nil ?_
    rintro W ⟨wx, rfl⟩
    have HB10 := Lib.hid (HB9s.out.trans (wx.below.mono HB9s.out.size))
    have HN6 := Lib.hid (HN6.out.later wx.below)
    have HN8 := Lib.hid (HN8.out.later wx.below)
    have HYb := Lib.hid (HYb.out.below wx.below)
    clear tin tb hq1 hq2 K6 K7 K8 K9 HN7 HN9 HYi HB9s
    generalize wx.at_ = w10 at *
    rcases HMc.out with rfl | rfl
    · go_wp2_with (refine wpList_load_row rfl A8T (.tmp 4) rfl g6 rfl A8T CM (0, 0) _ HN6.out hu1 rfl HIa.out ?_)
      refine ((HMb.out trivial).2 _).mono ?_
      rintro e w11 ⟨⟨b11, k11, rfl, hy11⟩, hb11⟩
      have HB11 := Lib.hid (HB10.out.trans (hb11.mono HB10.out.size))
      have HYb := Lib.hid (HYb.out.below hb11)
      have HN8 := Lib.hid (HN8.out.later hb11)
      have hcv1 := HTy.out w11 _ k11 (HMb.out trivial).1 hy11
      have hcv2 := HTx.out w11 HYb.out
      clear hy11 hb11 HB10
      rcases HDc.out with rfl | rfl
      · go_wp2_with (refine wpList_load_row rfl A4D (.tmp 8) rfl g8 rfl A4D CD (0, 0) _ HN8.out hu3 rfl HId.out ?_)
        refine ((HDb.out trivial).2 _).mono ?_
        rintro e w12 ⟨⟨b12, k12, rfl, hy12⟩, hb12⟩
        have HB12 := Lib.hid (HB11.out.trans (hb12.mono HB11.out.size))
        have HYb := Lib.hid (HYb.out.below hb12)
        have hcv1 := HTy.out w12 _ k12 (HDb.out trivial).1 hy12
        have hcv2 := HTx.out w12 HYb.out
        clear hy12 hb12 HB11
        go_wp2
        go_ret
        exact ⟨rfl, HB12.out⟩
      · go_wp2
        go_ret
        exact ⟨rfl, HB11.out⟩
    · clear HMb HN6
      rcases HDc.out with rfl | rfl
      · go_wp2_with (refine wpList_load_row rfl A4D (.tmp 8) rfl g8 rfl A4D CD (0, 0) _ HN8.out hu3 rfl HId.out ?_)
        refine ((HDb.out trivial).2 _).mono ?_
        rintro e w13 ⟨⟨b13, k13, rfl, hy13⟩, hb13⟩
        have HB13 := Lib.hid (HB10.out.trans (hb13.mono HB10.out.size))
        have HYb := Lib.hid (HYb.out.below hb13)
        have hcv1 := HTy.out w13 _ k13 (HDb.out trivial).1 hy13
        have hcv2 := HTx.out w13 HYb.out
        clear hy13 hb13 HB10
        go_wp2
        go_ret
        exact ⟨rfl, HB13.out⟩
      · go_wp2
        go_ret
        exact ⟨rfl, HB10.out⟩
theorem entryReads_walk (a : Option Addr) (len cap : Nat) (zs : List Int) (w : World) (hr : IsRow .u8 w a len cap zs) : Calls Try.prog 5 #[.slice a len cap] w fun e w' => e = .returned (.bool true) ∧ Below w.heap.size w w' := by
  obtain ⟨l, hn, hb, h0, -, hc⟩ := hr.bytes
  exact entryReads_bytes a len cap l w hn hb h0 hc
end Go.Proofs.Ytagigeacjendiaa
