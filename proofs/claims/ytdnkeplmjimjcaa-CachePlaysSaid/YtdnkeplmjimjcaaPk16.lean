/-
  The walk of CachePlays.
-/
import Derived.Test.YtdnkeplmjimjcaaPk15
import Derived.Deep.DeepCutAuto
import Derived.Deep.CutBlock
namespace Go.Proofs.Ytdnkeplmjimjcaa
open Go.RowKit

set_option maxRecDepth 100000 in
set_option maxHeartbeats 8000000 in
theorem cachePlays_any (r : Int) (za : Option Addr) (zl zc : Nat) (F : Nat → OpC) (w : World) (hz : COps w za zl F) :
    Calls Try.prog 3 #[.int .i64 r, .slice za zl zc] w fun e w' => e = .returned (.bool true) ∧ Below w.heap.size w w' := by
  by_cases hr : 1 ≤ r ∧ r ≤ 4096
  · have hr1 : (1 : Int) ≤ r := hr.1
    have hr2 : r ≤ 4096 := hr.2
    have HZ := Lib.hid hz
    have hzl := hz.1
    clear hr hz
    go_enter Try.func3, Try.ntmps3
    go_wp2_with fail
    refine (awake_any _).mono ?_
    rintro e w1 ⟨rfl, hb1⟩
    have HB1 := Lib.hid hb1
    clear hb1
    have hNew := Lib.hid (new_any (room := r) hr1 hr2 w1)
    go_wp2_with fail
    refine hNew.out.mono ?_
    rintro e w2 ⟨rfl, hn2, hb2⟩
    have HDn := Lib.hid (dnew_any r w2)
    have HDcN : Hid (DcN r = .tuple #[.agg #[.int .i64 r, .slice none 0 0], .int .i64 0]) := by
      show _ = _
      unfold DcN
      rw [if_pos ⟨hr1, hr2⟩]
    go_wp2_with fail
    refine HDn.out.mono ?_
    rintro e w3 ⟨rfl, hb3⟩
    rw [HDcN.out]
    obtain ⟨w4, hw4⟩ : ∃ w4, w4 = w3.alloc (.cells #[.int .i64 r, .slice none 0 0] RCT) := ⟨_, rfl⟩
    have HSt : Hid (PyR w (w1.heap.size + 1) w1.heap.size w3.heap.size r zl (.int .i64 0) w4) := by
      have h1 := HB1.out.size
      have hCA : CA w2 (w1.heap.size + 1) w1.heap.size w.heap.size r 0 0 [] := hn2.ca hr1 hr2 (by omega) h1
      have h2 := hb2.size
      have h3 := hb3.size
      have hb4 : Below w3.heap.size w3 w4 := by rw [hw4]; exact sup_pc9 _ _
      refine ⟨0, [], none, 0, 0, by omega, by omega, rfl, ⟨(hCA.later hb3).later hb4, by rw [hw4]; exact blo_laid _ _ _, DCv.empty _, ((HB1.out.trans (hb2.mono h1)).trans (hb3.mono (by omega))).trans (hb4.mono (by omega)), by omega⟩, fun s hs => by cases hs⟩
    clear hn2 hb2 HB1 hNew HDn HDcN
    generalize w1.heap.size + 1 = bc at *
    generalize w1.heap.size = bm at *
    go_upto_region 5 with (fail)
    rw [← hw4]
    clear hw4 hb3
    generalize w3.heap.size = mb at *
    go_wp2_with fail
    go_loopw [9] (fun v wr => PyR w bc bm mb r zl v wr) (fun v _ => zl - (intOf v).toNat)
    case atStart => exact HSt.out
    case round =>
      clear HSt
      obtain ⟨i, L, a, n, cap, hi80, hizl, rfl, hS, hby⟩ := hrel
      have HS := Lib.hid hS
      have HBy := Lib.hid hby
      clear hS hby
      have i0 : (0 : Int) ≤ (i : Int) := by omega
      by_cases hgo : i < zl ∧ i < 80
      · have i1 : (i : Int) < (zl : Int) := by omega
        have i2 : (i : Int) < 80 := by omega
        obtain ⟨zb, zo, ba, bn, bcp, hza, hop0, hcells0⟩ := HZ.out.2 i hgo.1
        have hop := hop0.below HS.out.b
        have hcells := fun j v hj => cell_later HS.out.b (hcells0 j v hj)
        subst hza
        obtain ⟨x, hx⟩ : ∃ x, F i = x := ⟨_, rfl⟩
        rw [hx] at hop hcells hop0
        obtain ⟨xk, ⟨k1, k2⟩, xb, raw, dirty⟩ := x
        have c0 : wr.cell? ⟨zb, zo + i * 6, none⟩ = some (.int .i64 xk) := hcells 0 _ rfl
        have c1 : wr.cell? ⟨zb, zo + i * 6 + 1, none⟩ = some (.int .i64 k1) := hcells 1 _ rfl
        have c2 : wr.cell? ⟨zb, zo + i * 6 + 2, none⟩ = some (.int .i64 k2) := hcells 2 _ rfl
        have c3 : wr.cell? ⟨zb, zo + i * 6 + 3, none⟩ = some (.slice ba bn bcp) := hcells 3 _ rfl
        have c4 : wr.cell? ⟨zb, zo + i * 6 + 4, none⟩ = some (.bool raw) := hcells 4 _ rfl
        have c5 : wr.cell? ⟨zb, zo + i * 6 + 5, none⟩ = some (.bool dirty) := hcells 5 _ rfl
        have HBw : Hid (BytesIn w ba bn bcp xb) := hop0.b
        have HOp := Lib.hid hop
        have HI := Lib.hid hgo
        clear hcells hcells0 hx hop hop0 hgo hi80 hizl
        go_upto_region 10 with (fail)
        go_upto_region 11 with (fail)
        clear c0 c1 c2 c3 c4 c5
        obtain ⟨wk, hwk⟩ : ∃ wk, wk = wr.alloc (.cells #[.int .i64 xk, .int .i64 k1, .int .i64 k2, .slice ba bn bcp, .bool raw, .bool dirty] OpTy) := ⟨_, rfl⟩
        rw [← hwk]
        have HBk : Hid (Below wr.heap.size wr wk) := by rw [hwk]; exact sup_pc9 wr _
        have HXk : Hid (Blo wk wr.heap.size OpTy #[.int .i64 xk, .int .i64 k1, .int .i64 k2, .slice ba bn bcp, .bool raw, .bool dirty]) := by rw [hwk]; exact blo_laid wr _ _
        clear hwk
        have HSk := Lib.hid (HS.out.later HBk.out)
        have HOpk : Hid (OpCIs wk ba bn bcp ⟨xk, (k1, k2), xb, raw, dirty⟩) := ⟨HOp.out.b.below HBk.out, HOp.out.wf⟩
        clear HS HBk HOp
        have HBz : Hid (∀ W, Below w.heap.size w W → BytesIn W ba bn bcp xb) := fun W hb => HBw.out.below hb
        have d3 : wk.cell? ⟨wr.heap.size, 3, none⟩ = some (.slice ba bn bcp) := HXk.out.cell 3
        generalize wr.heap.size = gb at *
        by_cases hbig : 200 < bn
        · have hb1 : (bn : Int) > 200 := by omega
          have HR : Hid (PyR w bc bm mb r zl (.int .i64 ((i : Int) + 1)) wk) := ⟨i + 1, _, _, _, _, by have := HI.out; omega, by have := HI.out; omega, rfl, HSk.out.up, HBy.out⟩
          have HM := Lib.hid HI.out.1
          clear HSk HXk
          go_wp2_with fail
          go_roundw
          case rel => exact HR.out
          case measure => have := HM.out; simp [intOf]; omega
        · have hb1 : ¬ (bn : Int) > 200 := by omega
          have e1 : wk.cell? ⟨gb, 1, none⟩ = some (.int .i64 k1) := HXk.out.cell 1
          have e2 : wk.cell? ⟨gb, 2, none⟩ = some (.int .i64 k2) := HXk.out.cell 2
          go_upto_region 13 with (fail)
          clear e1 e2 d3
          obtain ⟨w5, hw5⟩ : ∃ w5, w5 = wk.alloc (.cells #[.int .i64 k1, .int .i64 k2] RKT) := ⟨_, rfl⟩
          rw [← hw5]
          have HB5 : Hid (Below wk.heap.size wk w5) := by rw [hw5]; exact sup_pc9 wk _
          have HK5 : Hid (Blo w5 wk.heap.size RKT #[.int .i64 k1, .int .i64 k2]) := by rw [hw5]; exact blo_laid wk _ _
          have HX5 := Lib.hid (HXk.out.later HB5.out)
          have HS5 := Lib.hid (HSk.out.later HB5.out)
          have HOp5 : Hid (OpCIs w5 ba bn bcp ⟨xk, (k1, k2), xb, raw, dirty⟩) := ⟨HOpk.out.b.below HB5.out, HOpk.out.wf⟩
          clear hw5 HSk HXk HOpk HB5
          generalize wk.heap.size = gk at *
          have HPl := Lib.hid (play_any HS5.out.ca HOp5.out (by show xb.length ≤ 200; have : bn = xb.length := HOp5.out.b.1; omega) (by have := HI.out; omega) (by have := HI.out; omega))
          have e0 := HX5.out.cell 0
          have e1 := HX5.out.cell 1
          have e2 := HX5.out.cell 2
          have e3 := HX5.out.cell 3
          have e4 := HX5.out.cell 4
          have e5 := HX5.out.cell 5
          simp at e0 e1 e2 e3 e4 e5
          go_wp2_with fail
          refine HPl.out.mono ?_
          rintro e w6 hR6
          clear e0 e1 e2 e3 e4 e5
          have HX6 := Lib.hid (hR6.2.1.blo HX5.out (xc_ty HS5.out.ca HX5.out (by decide) (by decide) (by decide)))
          have HK6 := Lib.hid (hR6.2.1.blo HK5.out (xc_ty HS5.out.ca HK5.out (by decide) (by decide) (by decide)))
          have HS6 := Lib.hid (HS5.out.call hR6.1 hR6.2.1)
          have HNd := Lib.hid HS5.out.ca.nodup
          have HWf := Lib.hid HS5.out.ca.wfs
          have HPn : Hid (∀ t ∈ L, 0 ≤ t.pins ∧ t.pins ≤ 5000000000000000000) := fun t ht => by
            have := HS5.out.ca.pins t ht
            have := HI.out
            omega
          have HN4 : Hid (n ≤ 4096) := by
            have h1 := HS5.out.ca.lenr
            have h2 := HS5.out.dv.row.len
            show n ≤ 4096
            omega
          have HBz6 : Hid (∀ W, Below w6.heap.size w6 W → BytesIn W ba bn bcp xb) := fun W hb => HBz.out W (HS6.out.b.trans (hb.mono HS6.out.b.size))
          have HBn : Hid (ByI (playK r L ⟨xk, (k1, k2), xb, raw, dirty⟩).1) := HBy.out.play HOp5.out.b.2.1.1
          have HBd : Hid (∀ d, (playK r L ⟨xk, (k1, k2), xb, raw, dirty⟩).2.2 = some d → ∀ y ∈ dtL d, y < 256) := fun d hd => by
            obtain ⟨s, h1, h2⟩ := get_data hd
            rw [← h2]
            exact HBy.out s h1
          have HKw : Hid (wfK (k1, k2)) := HOp5.out.wf
          have HCl0 : Hid (w.heap.size ≤ w5.heap.size) := HS5.out.b.size
          obtain ⟨v13, rfl, hans⟩ := hR6.ans
          have HAn := Lib.hid hans
          clear hans hR6 HPl HS5 HX5 HK5 HBz HBw HOp5 HBy
          obtain ⟨P, hP⟩ : ∃ P, playK r L ⟨xk, (k1, k2), xb, raw, dirty⟩ = P := ⟨_, rfl⟩
          rw [hP] at HAn HBd HBn HS6 ⊢
          have HP := Lib.hid hP
          clear hP
          have HCl : Hid (w.heap.size ≤ w5.heap.size) := HCl0.out
          clear HCl0
          generalize w5.heap.size = C at *
          have e0 : w6.cell? ⟨gb, 0, none⟩ = some (.int .i64 xk) := HX6.out.cell 0
          go_upto_block 2 with fail
          go_cut [15, 16, 17] (fun c s t wx => PyC w bc bm mb r i C P v13 c s t wx)
          case first =>
            as_aux_lemma =>
            by_cases h1 : xk = 1
            · subst h1
              have e2 : w6.cell? ⟨gb, 3, none⟩ = some (.slice ba bn bcp) := HX6.out.cell 3
              have e4 : w6.cell? ⟨gb, 4, none⟩ = some (.bool raw) := HX6.out.cell 4
              have HBx := Lib.hid (HBz6.out w6 (Below.refl _ _))
              cases raw with
              | true =>
                have e5 : w6.cell? ⟨gb, 5, none⟩ = some (.bool dirty) := HX6.out.cell 5
                have hcv : (convert BYS 9 (.slice ba bn bcp)).run Try.prog w6 = .ok (.string (strOf xb)) w6 := run_str w6 _ _ _ Try.underlying35 Try.underlying5 Try.underlying9 xb _ bn bcp HBx.out.1 HBx.out.2.1
                have HSv := HS6
                have HAv := HAn
                have m0 : w6.cell? ⟨mb, 0, none⟩ = some (.int .i64 r) := HSv.out.bx.cell 0
                have m1 : w6.cell? ⟨mb, 1, none⟩ = some (.slice a n cap) := HSv.out.bx.cell 1
                have q0 : w6.cell? ⟨gk, 0, none⟩ = some (.int .i64 k1) := HK6.out.cell 0
                have q1 : w6.cell? ⟨gk, 1, none⟩ = some (.int .i64 k2) := HK6.out.cell 1
                have HPt := Lib.hid (dput_any (room := r) (d := dirty) (l := xb) HSv.out.dv HN4.out HNd.out HWf.out HKw.out (by have := HBx.out.1; omega))
                clear HS6 HAn
                go_wp2_with fail
                refine HPt.out.mono ?_
                rintro e w8 ⟨a7, n7, c7, rfl, hv, hb8⟩
                have HS8 := Lib.hid (HSv.out.later hb8)
                have HV8 := Lib.hid hv
                have HA8 := Lib.hid (HAv.out.later hb8)
                clear HPt hv hb8 HSv HAv m0 m1 q0 q1 e0 e2 e4 e5 hcv
                have hg7 := HS8.out.bx
                go_wp2_with (refine wpList_store_row rfl RCT (.tmp 7) (.tmp 98) rfl mb #[.int .i64 r, .slice a7 n7 c7] (by first | rfl | simp [go_sem]) (by first | rfl | simp [go_sem]) RCT _ hg7 (by kernel_rfl) rfl (by simp [Value.oneCell']) ?_)
                go_meet
                exact pyc_code HP.out (by rfl) HS8.out HV8.out HA8.out
              | false =>
                have HBc := Lib.hid (bytes_any ba bn bcp xb w6 HBx.out.1 (by have := HBx.out.2.2.2.2; omega) HBx.out.2.1)
                go_wp2_with fail
                refine HBc.out.mono ?_
                rintro e w7 ⟨g, rfl, hg, -, hb7⟩
                have hcv := str_blk hg
                have HSv := Lib.hid (HS6.out.later hb7)
                have HAv := Lib.hid (HAn.out.later hb7)
                have HK7 := Lib.hid (HK6.out.later hb7)
                have HX7 := Lib.hid (HX6.out.later hb7)
                have e5 : w7.cell? ⟨gb, 5, none⟩ = some (.bool dirty) := HX7.out.cell 5
                have m0 : w7.cell? ⟨mb, 0, none⟩ = some (.int .i64 r) := HSv.out.bx.cell 0
                have m1 : w7.cell? ⟨mb, 1, none⟩ = some (.slice a n cap) := HSv.out.bx.cell 1
                have q0 : w7.cell? ⟨gk, 0, none⟩ = some (.int .i64 k1) := HK7.out.cell 0
                have q1 : w7.cell? ⟨gk, 1, none⟩ = some (.int .i64 k2) := HK7.out.cell 1
                have HPt := Lib.hid (dput_any (room := r) (d := dirty) (l := byt xb) HSv.out.dv HN4.out HNd.out HWf.out HKw.out (by rw [byt_length]; decide))
                clear HS6 HAn hg hb7 HBc e0 e2 e4
                go_wp2_with fail
                refine HPt.out.mono ?_
                rintro e w8 ⟨a7, n7, c7, rfl, hv, hb8⟩
                have HS8 := Lib.hid (HSv.out.later hb8)
                have HV8 := Lib.hid hv
                have HA8 := Lib.hid (HAv.out.later hb8)
                clear HPt hv hb8 HSv HAv m0 m1 q0 q1 e5 hcv
                have hg7 := HS8.out.bx
                go_wp2_with (refine wpList_store_row rfl RCT (.tmp 7) (.tmp 98) rfl mb #[.int .i64 r, .slice a7 n7 c7] (by first | rfl | simp [go_sem]) (by first | rfl | simp [go_sem]) RCT _ hg7 (by kernel_rfl) rfl (by simp [Value.oneCell']) ?_)
                go_meet
                exact pyc_code HP.out (by rfl) HS8.out HV8.out HA8.out
            · have n1 : (xk == 1) = false := by simpa using h1
              by_cases h2 : xk = 2
              · subst h2
                have HSv := HS6
                have HAv := HAn
                have m0 : w6.cell? ⟨mb, 0, none⟩ = some (.int .i64 r) := HSv.out.bx.cell 0
                have m1 : w6.cell? ⟨mb, 1, none⟩ = some (.slice a n cap) := HSv.out.bx.cell 1
                have q0 : w6.cell? ⟨gk, 0, none⟩ = some (.int .i64 k1) := HK6.out.cell 0
                have q1 : w6.cell? ⟨gk, 1, none⟩ = some (.int .i64 k2) := HK6.out.cell 1
                have HPt := Lib.hid (dget_any (room := r) HSv.out.dv HN4.out HNd.out HWf.out HKw.out)
                clear HS6 HAn
                go_wp2_with fail
                refine HPt.out.mono ?_
                rintro e w8 ⟨a7, n7, c7, rfl, hv, hb8⟩
                have HS8 := Lib.hid (HSv.out.later hb8)
                have HV8 := Lib.hid hv
                have HA8 := Lib.hid (HAv.out.later hb8)
                clear HPt hv hb8 HSv HAv m0 m1 q0 q1 e0
                have hg7 := HS8.out.bx
                go_wp2_with (refine wpList_store_row rfl RCT (.tmp 7) (.tmp 106) rfl mb #[.int .i64 r, .slice a7 n7 c7] (by first | rfl | simp [go_sem]) (by first | rfl | simp [go_sem]) RCT _ hg7 (by kernel_rfl) rfl (by simp [Value.oneCell']) ?_)
                go_meet
                exact pyc_get rfl HP.out (by rfl) HS8.out HV8.out HA8.out
              · have n2 : (xk == 2) = false := by simpa using h2
                by_cases h3 : xk = 3
                · subst h3
                  have HSv := HS6
                  have HAv := HAn
                  have m0 : w6.cell? ⟨mb, 0, none⟩ = some (.int .i64 r) := HSv.out.bx.cell 0
                  have m1 : w6.cell? ⟨mb, 1, none⟩ = some (.slice a n cap) := HSv.out.bx.cell 1
                  have q0 : w6.cell? ⟨gk, 0, none⟩ = some (.int .i64 k1) := HK6.out.cell 0
                  have q1 : w6.cell? ⟨gk, 1, none⟩ = some (.int .i64 k2) := HK6.out.cell 1
                  have HPt := Lib.hid (ddo_any 3 (by decide) (room := r) HSv.out.dv HN4.out HNd.out HWf.out HPn.out HKw.out)
                  clear HS6 HAn
                  go_wp2_with fail
                  refine HPt.out.mono ?_
                  rintro e w8 ⟨a7, n7, c7, rfl, hv, hb8⟩
                  have HS8 := Lib.hid (HSv.out.later hb8)
                  have HV8 := Lib.hid hv
                  have HA8 := Lib.hid (HAv.out.later hb8)
                  clear HPt hv hb8 HSv HAv m0 m1 q0 q1 e0
                  have hg7 := HS8.out.bx
                  go_wp2_with (refine wpList_store_row rfl RCT (.tmp 7) (.tmp 120) rfl mb #[.int .i64 r, .slice a7 n7 c7] (by first | rfl | simp [go_sem]) (by first | rfl | simp [go_sem]) RCT _ hg7 (by kernel_rfl) rfl (by simp [Value.oneCell']) ?_)
                  go_meet
                  exact pyc_code HP.out (by rfl) HS8.out HV8.out HA8.out
                · have n3 : (xk == 3) = false := by simpa using h3
                  by_cases h4 : xk = 4
                  · subst h4
                    have HSv := HS6
                    have HAv := HAn
                    have m0 : w6.cell? ⟨mb, 0, none⟩ = some (.int .i64 r) := HSv.out.bx.cell 0
                    have m1 : w6.cell? ⟨mb, 1, none⟩ = some (.slice a n cap) := HSv.out.bx.cell 1
                    have q0 : w6.cell? ⟨gk, 0, none⟩ = some (.int .i64 k1) := HK6.out.cell 0
                    have q1 : w6.cell? ⟨gk, 1, none⟩ = some (.int .i64 k2) := HK6.out.cell 1
                    have HPt := Lib.hid (ddo_any 4 (by decide) (room := r) HSv.out.dv HN4.out HNd.out HWf.out HPn.out HKw.out)
                    clear HS6 HAn
                    go_wp2_with fail
                    refine HPt.out.mono ?_
                    rintro e w8 ⟨a7, n7, c7, rfl, hv, hb8⟩
                    have HS8 := Lib.hid (HSv.out.later hb8)
                    have HV8 := Lib.hid hv
                    have HA8 := Lib.hid (HAv.out.later hb8)
                    clear HPt hv hb8 HSv HAv m0 m1 q0 q1 e0
                    have hg7 := HS8.out.bx
                    go_wp2_with (refine wpList_store_row rfl RCT (.tmp 7) (.tmp 120) rfl mb #[.int .i64 r, .slice a7 n7 c7] (by first | rfl | simp [go_sem]) (by first | rfl | simp [go_sem]) RCT _ hg7 (by kernel_rfl) rfl (by simp [Value.oneCell']) ?_)
                    go_meet
                    exact pyc_code HP.out (by rfl) HS8.out HV8.out HA8.out
                  · have n4 : (xk == 4) = false := by simpa using h4
                    by_cases h5 : xk = 5
                    · subst h5
                      have HSv := HS6
                      have HAv := HAn
                      have m0 : w6.cell? ⟨mb, 0, none⟩ = some (.int .i64 r) := HSv.out.bx.cell 0
                      have m1 : w6.cell? ⟨mb, 1, none⟩ = some (.slice a n cap) := HSv.out.bx.cell 1
                      have q0 : w6.cell? ⟨gk, 0, none⟩ = some (.int .i64 k1) := HK6.out.cell 0
                      have q1 : w6.cell? ⟨gk, 1, none⟩ = some (.int .i64 k2) := HK6.out.cell 1
                      have HPt := Lib.hid (ddo_any 5 (by decide) (room := r) HSv.out.dv HN4.out HNd.out HWf.out HPn.out HKw.out)
                      clear HS6 HAn
                      go_wp2_with fail
                      refine HPt.out.mono ?_
                      rintro e w8 ⟨a7, n7, c7, rfl, hv, hb8⟩
                      have HS8 := Lib.hid (HSv.out.later hb8)
                      have HV8 := Lib.hid hv
                      have HA8 := Lib.hid (HAv.out.later hb8)
                      clear HPt hv hb8 HSv HAv m0 m1 q0 q1 e0
                      have hg7 := HS8.out.bx
                      go_wp2_with (refine wpList_store_row rfl RCT (.tmp 7) (.tmp 120) rfl mb #[.int .i64 r, .slice a7 n7 c7] (by first | rfl | simp [go_sem]) (by first | rfl | simp [go_sem]) RCT _ hg7 (by kernel_rfl) rfl (by simp [Value.oneCell']) ?_)
                      go_meet
                      exact pyc_code HP.out (by rfl) HS8.out HV8.out HA8.out
                    · have n5 : (xk == 5) = false := by simpa using h5
                      by_cases h6 : xk = 6
                      · subst h6
                        have HSv := HS6
                        have HAv := HAn
                        have m0 : w6.cell? ⟨mb, 0, none⟩ = some (.int .i64 r) := HSv.out.bx.cell 0
                        have m1 : w6.cell? ⟨mb, 1, none⟩ = some (.slice a n cap) := HSv.out.bx.cell 1
                        have q0 : w6.cell? ⟨gk, 0, none⟩ = some (.int .i64 k1) := HK6.out.cell 0
                        have q1 : w6.cell? ⟨gk, 1, none⟩ = some (.int .i64 k2) := HK6.out.cell 1
                        have HPt := Lib.hid (ddo_any 6 (by decide) (room := r) HSv.out.dv HN4.out HNd.out HWf.out HPn.out HKw.out)
                        clear HS6 HAn
                        go_wp2_with fail
                        refine HPt.out.mono ?_
                        rintro e w8 ⟨a7, n7, c7, rfl, hv, hb8⟩
                        have HS8 := Lib.hid (HSv.out.later hb8)
                        have HV8 := Lib.hid hv
                        have HA8 := Lib.hid (HAv.out.later hb8)
                        clear HPt hv hb8 HSv HAv m0 m1 q0 q1 e0
                        have hg7 := HS8.out.bx
                        go_wp2_with (refine wpList_store_row rfl RCT (.tmp 7) (.tmp 120) rfl mb #[.int .i64 r, .slice a7 n7 c7] (by first | rfl | simp [go_sem]) (by first | rfl | simp [go_sem]) RCT _ hg7 (by kernel_rfl) rfl (by simp [Value.oneCell']) ?_)
                        go_meet
                        exact pyc_code HP.out (by rfl) HS8.out HV8.out HA8.out
                      · have n6 : (xk == 6) = false := by simpa using h6
                        have HPc : Hid (PyC w bc bm mb r i C P v13 (.int .i64 0) (.string ByteArray.empty) (.bool false) w6) := pyc_none HP.out (by unfold playK; rw [if_neg h1, if_neg h2, if_neg h3, if_neg h4, if_neg h5, if_neg h6]) HS6.out HAn.out
                        clear HS6 HAn
                        go_wp2_with fail
                        go_meet
                        exact HPc.out
          case rest =>
            as_aux_lemma =>
            obtain ⟨rfl, rfl, rfl, a2, n2, cap2, hS, hA⟩ := hcut
            have HS7 := Lib.hid hS
            have HA7 := Lib.hid hA
            clear hS hA HX6 HK6 HS6 HNd HWf HPn HN4 HBz6 HKw HAn HP e0
            have HLn : Hid (n2 = P.1.length) := HS7.out.dv.row.len
            have HN5 : Hid (n2 ≤ 5000) := by
              have h1 := HS7.out.ca.lenr
              have h2 := HLn.out
              show n2 ≤ 5000
              omega
            have HBw : Hid (Below wc.heap.size wc wc.drew) := (Below.refl _ _).drew
            have HLe : Hid (Calls Try.prog 16 #[.pointer (some ⟨bc, 0, none⟩)] wc.drew fun e w' => e = .returned (.int .i64 (n2 : Int)) ∧ w' = wc.drew) := (len_any (HS7.out.ca.later HBw.out)).mono fun e w' h => ⟨by rw [HLn.out]; exact h.1, h.2.symm⟩
            have HOr : Hid (Calls Try.prog 18 #[.pointer (some ⟨bc, 0, none⟩)] wc.drew (OrN wc n2 (P.1.map Bk.key))) := (order_any (HS7.out.ca.later HBw.out)).mono fun e w' h => orn_of (by rw [List.length_map]; exact HLn.out.symm) h
            have KP : Hid (∀ W, Below wc.heap.size wc W → W.cell? ⟨mb, 0, none⟩ = some (.int .i64 r) ∧ W.cell? ⟨mb, 1, none⟩ = some (.slice a2 n2 cap2) ∧ (convert BYS 9 v13).run Try.prog W = .ok (.string (wantS P.2.2)) W) := fun W hb => ⟨(HS7.out.bx.later hb).cell 0, (HS7.out.bx.later hb).cell 1, (HA7.out.later hb).str HBd.out⟩
            generalize hps : P.1.map Bk.key = ps at *
            have HPs := Lib.hid hps
            clear hps
            generalize wantS P.2.2 = SS at *
            generalize P.2.2.isSome = bs at *
            generalize P.2.1 = ec at *
            go_upto_region 28 with (fail)
            go_region_held3 (fun W => W.cell? ⟨mb, 0, none⟩ = some (.int .i64 r) ∧ W.cell? ⟨mb, 1, none⟩ = some (.slice a2 n2 cap2) ∧ (convert BYS 9 v13).run Try.prog W = .ok (.string SS) W) ((first | exact KP.out _ HBw.out | exact KP.out _ HBf.out | exact KP.out _ HBe.out | exact KP.out _ HBd4.out | exact KP.out _ HBs.out | exact KP.out _ HBb.out | exact KP.out _ HBa.out | fail)) ((first
              | (go_at_call 16; (with_reducible refine HLe.out.mono ?_); rintro e Wl ⟨rfl, rfl⟩)
              | (go_at_call 18; (with_reducible refine HOr.out.mono ?_); rintro e Wa ⟨oa, oc, rfl, ho, hb⟩; have HBa := Lib.hid hb; have HOa := Lib.hid ho; clear ho hb)
              | (go_at_call 19; (with_reducible refine (dorder_any r a2 n2 cap2 P.1 Wa (HS7.out.dv.later HBa.out).row HN5.out).mono ?_); rintro e Wb ⟨pa, pc, rfl, ho, hb⟩; have HBb : Hid (Below wc.heap.size wc Wb) := HBa.out.trans (hb.mono HBa.out.size); have HOb := Lib.hid ho; rw [HPs.out] at HOb; have HOa2 := Lib.hid (own_later HOa.out hb); clear ho hb)
              | (go_at_call 17; (with_reducible refine (same_keys HOa2.out HOb.out HN5.out).mono ?_); rintro e Ws ⟨rfl, hb⟩; have HBs : Hid (Below wc.heap.size wc Ws) := HBb.out.trans (hb.mono HBb.out.size); clear hb)
              | (go_at_call 20; (with_reducible refine (dirty_any (HS7.out.ca.later HBs.out)).mono ?_); rintro e Wd ⟨qs, hqs, da, dc, rfl, ho, hb⟩; have HBd4 : Hid (Below wc.heap.size wc Wd) := HBs.out.trans (hb.mono HBs.out.size); have HDa := Lib.hid ho; have HQs := Lib.hid hqs; have HQl : Hid (qs.length ≤ 5000) := dtk_small hqs HLn.out HN5.out; clear ho hb hqs; generalize hql : qs.length = ql at *; have HQe := Lib.hid hql; clear hql)
              | (go_at_call 21; (with_reducible refine (ddirty_any r a2 n2 cap2 P.1 Wd (HS7.out.dv.later HBd4.out).row HN5.out).mono ?_); rintro e We ⟨ts, ta, tc, hts, rfl, ho, hb⟩; have HBe : Hid (Below wc.heap.size wc We) := HBd4.out.trans (hb.mono HBd4.out.size); obtain rfl := dtk_uniq hts HQs.out; rw [HQe.out] at ho ⊢; have HDb := Lib.hid ho; have HDa2 := Lib.hid (own_later HDa.out hb); clear ho hb hts)
              | (go_at_call 17; (with_reducible refine (same_keys HDa2.out HDb.out HQl.out).mono ?_); rintro e Wf ⟨rfl, hb⟩; have HBf : Hid (Below wc.heap.size wc Wf) := HBe.out.trans (hb.mono HBe.out.size); clear hb)
              | fail))
            rename_i hHeld
            clear hHeld KP HOr HLe HOa HOb HOa2 HDa HDb HDa2 HQs HQl HQe HBa HBb HBs HBd4 HBe HPs HN5 HBw
            have HS9 := Lib.hid (HS7.out.later HBf.out)
            have HA9 := Lib.hid (HA7.out.later HBf.out)
            clear HS7 HA7 HBf HLn
            (try simp only [Exit.inBlock, Exit.then])
            rcases HA9.out with ⟨-, rfl⟩ | ⟨d, g, c, hd, rfl, hown⟩
            · have HR : Hid (PyR w bc bm mb r zl (.int .i64 ((i : Int) + 1)) Wf) := ⟨i + 1, _, _, _, _, by have := HI.out; omega, by have := HI.out; omega, rfl, HS9.out, HBn.out⟩
              have HM := Lib.hid HI.out.1
              clear HS9 HA9
              go_wp2_with fail
              go_loopw [162] (fun v wx => v = .int .i64 0 ∧ wx = Wf) (fun _ _ => 0)
              case atStart => exact ⟨rfl, rfl⟩
              case round =>
                obtain ⟨rfl, rfl⟩ := hrel
                go_wp2_with fail
                go_roundw
                case rel => exact HR.out
                case measure => have := HM.out; simp [intOf]; omega
            · have HSt : Hid (BlR w bc bm mb r (i + 1) C g c P.1 (.int .i64 0) Wf) := ⟨0, dtL d, _, _, _, Nat.zero_le _, rfl, dtL_len d, HBd.out d hd, hown, HS9.out⟩
              have HM := Lib.hid HI.out.1
              clear HS9 HA9 hown hd
              go_wp2_with fail
              obtain ⟨wo, rfl⟩ : ∃ wo, wo = wr := ⟨_, rfl⟩
              go_loopw [162] (fun v wx => BlR w bc bm mb r (i + 1) C g c P.1 v wx) (fun v _ => 64 - (intOf v).toNat)
              case atStart => exact HSt.out
              case round =>
                clear HSt
                obtain ⟨j, l, a5, n5, cap5, hj, rfl, hl, h256, hown, hS5⟩ := hrel
                by_cases hlt : j < 64
                · have j0 : (0 : Int) ≤ (j : Int) := by omega
                  have j1 : (j : Int) < 64 := by omega
                  have HRl := Lib.hid (bl_step HCl.out hown hl h256 hlt hS5)
                  have hc := hown.cellAt j (by omega)
                  rw [cellsB_get l j (by omega)] at hc
                  have hf := hown.frozenAt j
                  clear hown hS5 hl h256
                  generalize l.getD j 0 = y at *
                  go_wp2_with fail
                  go_roundw
                  case rel => exact HRl.out
                  case measure => simp [intOf]; omega
                · have HR : Hid (PyR w bc bm mb r zl (.int .i64 ((i : Int) + 1)) wr) := ⟨i + 1, _, _, _, _, by have := HI.out; omega, by have := HI.out; omega, rfl, hS5, HBn.out⟩
                  have hlt' : ¬ (j : Int) < 64 := by omega
                  clear hown hS5 hl h256 hlt
                  go_wp2_with fail
                  go_roundw
                  case rel => exact HR.out
                  case measure => have := HM.out; simp [intOf]; omega
      · have HB := Lib.hid HS.out.b
        clear HS HBy
        rcases (by omega : ¬ i < zl ∨ (i < zl ∧ ¬ i < 80)) with hx | ⟨hx, hy⟩
        · have i1 : ¬ (i : Int) < (zl : Int) := by omega
          clear hgo hx
          go_wp2_with fail
          go_ret
          exact ⟨rfl, HB.out⟩
        · have i1 : (i : Int) < (zl : Int) := by omega
          have i2 : ¬ (i : Int) < 80 := by omega
          clear hgo hx hy
          go_wp2_with fail
          go_ret
          exact ⟨rfl, HB.out⟩
  · have HN1 : Hid (∀ W, Calls Try.prog 9 #[.int .i64 r] W fun e w' => e = .returned (.tuple #[.pointer none, .int .i64 22]) ∧ w' = W) := fun W => cnew_bad hr W
    have HDcN : Hid (DcN r = .tuple #[.agg #[.int .i64 0, .slice none 0 0], .int .i64 22]) := by
      show _ = _
      unfold DcN
      rw [if_neg hr]
    clear hr hz
    go_enter Try.func3, Try.ntmps3
    go_wp2_with fail
    refine (awake_any _).mono ?_
    rintro e w1 ⟨rfl, hb1⟩
    have HB1 := Lib.hid hb1
    clear hb1
    go_wp2_with fail
    refine (HN1.out w1).mono ?_
    rintro e w2 ⟨rfl, hw2⟩
    subst hw2
    have HDn := Lib.hid (dnew_any r w2)
    go_wp2_with fail
    refine HDn.out.mono ?_
    rintro e w3 ⟨rfl, hb3⟩
    rw [HDcN.out]
    have HB4 : Hid (Below w.heap.size w (w3.alloc (.cells #[.int .i64 0, .slice none 0 0] RCT))) := (HB1.out.trans (hb3.mono HB1.out.size)).alloc (by have := HB1.out.size; have := hb3.size; omega) _
    clear hb3 HB1
    go_wp2_with fail
    go_loopw [9] (fun v wr => v = .int .i64 0 ∧ Below w.heap.size w wr) (fun _ _ => 0)
    case atStart => exact ⟨rfl, HB4.out⟩
    case round =>
      clear HB4
      obtain ⟨rfl, hb⟩ := hrel
      have HB := Lib.hid hb
      clear hb
      go_wp2_with fail
      go_ret
      exact ⟨rfl, HB.out⟩
theorem cachePlays_walk (a : Int) (za : Option Addr) (zl zc : Nat) (F : Nat → OpC) (w : World) (_ : (Lit.int .i64 a).wf = true) (hz : COps w za zl F) :
    Calls Try.prog 3 #[.int .i64 a, .slice za zl zc] w fun e w' => e = .returned (.bool true) ∧ Below w.heap.size w w' := cachePlays_any a za zl zc F w hz
end Go.Proofs.Ytdnkeplmjimjcaa
