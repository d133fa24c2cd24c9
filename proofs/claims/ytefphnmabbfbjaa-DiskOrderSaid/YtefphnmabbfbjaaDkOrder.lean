/-
  The walk of DiskOrder.
-/
import Derived.Test.YtefphnmabbfbjaaDkOrdA
import Derived.Test.YtefphnmabbfbjaaDkReads
namespace Go.Proofs.Ytefphnmabbfbjaa
open Go.RowKit

set_option maxRecDepth 100000 in
set_option maxHeartbeats 4000000 in
theorem diskOrder_walk (fa : Option Addr) (fn fcap : Nat) (z : List Int) (a : Option Addr) (bn cap : Nat) (bs : List Bool) (W : World) (hfs : IsRow .u8 W fa fn fcap z) (hbs : IsBools W a bn bs) :
    Calls Try.prog 8 #[.slice fa fn fcap, .slice a bn cap] W fun e w' => e = .returned (.bool true) ∧ Below W.heap.size W w' := by
  obtain ⟨f, hl1, hl2, hl3, hl4, hl5⟩ := hfs.bytes
  obtain ⟨h1, h2, h3⟩ := hbs
  have HLen := Lib.hid h1
  have HBs := Lib.hid h3
  have HFn := Lib.hid hl1
  have HF := Lib.hid hl2
  obtain ⟨n, hn⟩ : ∃ n, min fn 40 = n := ⟨_, rfl⟩
  have tm : (if (40 : Int) < (fn : Int) then (40 : Int) else (fn : Int)) = (n : Int) := by
    by_cases h : (40 : Int) < (fn : Int)
    · rw [if_pos h]; omega
    · rw [if_neg h]; omega
  have hn40 : n ≤ 40 := by omega
  have HNf : Hid (n ≤ f.length) := by show n ≤ f.length; omega
  have hnfn : n ≤ fn := by omega
  clear h1 h3 hl1 hl2 hl3 hfs hn
  go_enter Try.func8, Try.ntmps8
  go_wp2_with fail
  refine (awake_any _).mono ?_
  rintro e w1 ⟨rfl, hb1⟩
  have HB1 := Lib.hid hb1
  clear hb1
  go_wp2_with fail
  refine (new_any 3 w1 (by decide) (by decide)).mono ?_
  rintro e w2 ⟨L, rfl, hD, hb⟩
  have HD := Lib.hid (hD.deeper HB1.out.size)
  have HB := Lib.hid (HB1.out.trans (hb.mono HB1.out.size))
  have HSt : Hid (OrR W f bs n L.bd (.int .i64 0) (.int .u8 0) (.int .u8 0) w2) := ⟨0, Nat.zero_le _, rfl, rfl, rfl, L, _, rfl, HD.out, rfl, rfl, rfl, rfl, rfl, rfl, HB.out⟩
  clear hD hb HB1 HD HB
  generalize L.bd = bd at *
  go_wp2_with fail
  go_loopw [10, 7, 8] (fun i x y wr => OrR W f bs n bd i x y wr) (fun i _ _ _ => n - (intOf i).toNat)
  case atStart => exact HSt.out
  case round =>
    clear HSt tm
    obtain ⟨k, hk, rfl, rfl, rfl, L5, d, hbd, hA⟩ := hrel
    have HBd := Lib.hid hbd
    have HA := Lib.hid hA
    clear hbd hA
    by_cases hlt : k < n
    · have k0 : (0 : Int) ≤ (k : Int) := by omega
      have kl : (k : Int) < (n : Int) := by omega
      have kf : (k : Int) < (fn : Int) := by omega
      have hkf : k < f.length := by have := HNf.out; omega
      obtain ⟨fb, fo, rfl, hfc⟩ := (HF.out.below HA.out.bl).2.2 (fun e => by rw [e] at hkf; cases hkf)
      have hfk := hfc k hkf
      have hxb : f.getD k 0 < 256 := getD_b HF.out.1 k
      have HWant : Hid (bs.getD k false = true → wantK f bs (k + 1) = f.getD k 0) := fun h => by rw [wantK, if_pos h]
      have HWant2 : Hid (bs.getD k false = false → wantK f bs (k + 1) = wantK f bs k) := fun h => by rw [wantK, if_neg (by rw [h]; decide)]
      have HLast : Hid (lastK f (k + 1) = f.getD k 0) := rfl
      have HPut := Lib.hid (fun (w' : World) (L' : Dl) hD hb => HA.out.put (w' := w') (L' := L') hkf hD hb)
      clear hfc
      generalize f.getD k 0 = x at *
      generalize lastK f k = lk at *
      go_wp2_with fail
      clear hfk
      refine (bytes_any _ 1 1 [x] _ rfl (by decide) (bytes_one wr x hxb)).mono ?_
      rintro e w4 ⟨g1, rfl, hk1, hg1, hb4⟩
      have hs1 : Below wr.heap.size wr w4 := ((Below.refl _ _).alloc (Nat.le_refl _) _).trans (hb4.mono (by simp))
      have HA4 := Lib.hid (HA.out.later hs1)
      have HC := Lib.hid (write_yes 1 g1 64 (byt [x]) (by rw [HA4.out.dn]; decide) HA4.out.alive (by rw [HA4.out.lf]; decide) (by rw [HA4.out.st]; omega) (by rw [HA4.out.qq, ordQ_length (by omega)]; omega) hk1 HA4.out.dk)
      rw [HBd.out] at HC
      clear hk1 hg1 hb4 hs1
      go_wp2_with fail
      refine HC.out.mono ?_
      intro e w5 hO
      obtain ⟨rfl, L6, e6, hD6, hb6⟩ := hO.use HA4.out.dk HA4.out.bl (Nat.le_refl _) (Nat.le_refl _)
      have HA6 := Lib.hid (HPut.out w5 L6 hD6 hb6)
      have HBd6 : Hid (L6.bd = bd) := e6.trans HBd.out
      have hkc : k < bs.length → ∃ kb ko, a = some ⟨kb, ko, none⟩ ∧ w5.cell? ⟨kb, ko + k, none⟩ = some (.bool (bs.getD k false)) := fun hkk => by
        obtain ⟨kb, ko, ha, hc⟩ := (HBs.out.below HA6.out.bl) (fun e => by rw [e] at hkk; cases hkk)
        exact ⟨kb, ko, ha, hc k hkk⟩
      clear hO hD6 hb6 e6 HC HA4 HPut HA HBd
      by_cases hkk : k < bn
      · obtain ⟨kb, ko, ha, hkd⟩ := hkc (by rw [← HLen.out]; exact hkk)
        clear hkc
        subst ha
        have kb1 : (k : Int) < (bn : Int) := by omega
        cases hbt : bs.getD k false with
        | true =>
          rw [hbt] at hkd
          have hw := HWant.out hbt
          have HW := Lib.hid hw
          clear hbt hw HWant HWant2
          go_wp2_with fail
          clear hkd
          go_roundw
          case rel => exact ⟨k + 1, hlt, by simp, by rw [HW.out], by rw [HLast.out], L6, _, HBd6.out, HA6.out⟩
          case measure => simp [intOf]; omega
        | false =>
          rw [hbt] at hkd
          have hw := HWant2.out hbt
          have HW := Lib.hid hw
          clear hbt hw HWant HWant2
          go_wp2_with fail
          clear hkd
          go_roundw
          case rel => exact ⟨k + 1, hlt, by simp, by rw [HW.out], by rw [HLast.out], L6, _, HBd6.out, HA6.out⟩
          case measure => simp [intOf]; omega
      · have kb1 : ¬ (k : Int) < (bn : Int) := by omega
        have HW : Hid (wantK f bs (k + 1) = wantK f bs k) := HWant2.out (by rw [List.getD_eq_getElem?_getD, List.getElem?_eq_none (by have := HLen.out; omega)]; rfl)
        clear hkc HWant HWant2
        go_wp2_with fail
        go_roundw
        case rel => exact ⟨k + 1, hlt, by simp, by rw [HW.out], by rw [HLast.out], L6, _, HBd6.out, HA6.out⟩
        case measure => simp [intOf]; omega
    · have hke : k = n := by omega
      subst hke
      have kl : ¬ (k : Int) < (k : Int) := by omega
      have HCr := Lib.hid (crash_any HA.out.dk a bs bn cap HLen.out h2 (HBs.out.below HA.out.bl) (-1) 0)
      rw [HBd.out] at HCr
      go_wp2_with fail
      refine HCr.out.mono ?_
      rintro e w6 ⟨Lc, rfl, hDc, hb6⟩
      have HLt : Hid (∀ i, L5.has i → i < wr.heap.size) := fun i hi => (HA.out.dk.has_lt hi).2
      have HLo : Hid (∀ i, Lc.has i → wr.heap.size ≤ i) := fun i hi => (hDc.has_lt hi).1
      have HDc : Hid (Dk W.heap.size w6 Lc (crashD d bs (-1) 0)) := hDc.deeper HA.out.bl.size
      have HA6 := Lib.hid (HA.out.later hb6)
      have HQu := Lib.hid (queue_any HA6.out.dk)
      rw [HBd.out, HA6.out.qq] at HQu
      clear hDc hb6 HCr HA
      go_wp2_with fail
      refine HQu.out.mono ?_
      rintro e w7 ⟨gq, rfl, hq1, hq2, hb7⟩
      have HA7 := Lib.hid (HA6.out.later hb7)
      have HDc7 := Lib.hid (HDc.out.later hb7)
      have hql : (ordQ f k).length = k := ordQ_length HNf.out
      rw [hql]
      have HBa := Lib.hid (bar_yes HA7.out.dk HA7.out.alive (by rw [HA7.out.lf]; decide) (by rw [HA7.out.st]; omega))
      rw [HBd.out] at HBa
      clear hq1 hq2 hb7 HA6 HDc HQu hql
      go_wp2_with fail
      refine HBa.out.mono ?_
      intro e w8 hO
      have hdc8 : Dk W.heap.size w8 Lc (crashD d bs (-1) 0) := HDc7.out.out hO.2.choose_spec.2.1 (fun i hi hl => by have := HLt.out i hl; have := HLo.out i hi; omega)
      obtain ⟨rfl, L8, e8, hD8, hb8⟩ := hO.use HA7.out.dk HA7.out.bl (Nat.le_refl _) (Nat.le_refl _)
      have HD8 := Lib.hid hD8
      have HB8 := Lib.hid hb8
      have HDc8 := Lib.hid hdc8
      have HBd8 : Hid (L8.bd = bd) := e8.trans HBd.out
      have hN1 : (crashD d bs (-1) 0).N 1 = byt [wantK f bs k] := by
        show crK d.S d.Q bs (-1) 0 d.Q.length 1 = _
        rw [HA7.out.sr, HA7.out.qq, ordQ_length HNf.out]
        exact crK_ord HNf.out bs 0 k (Nat.le_refl _)
      have hN2 : (crashD (barD d) [] (-1) 0).N 1 = byt [lastK f k] := by
        show crK (flushQ d.S d.Q) [] [] (-1) 0 0 1 = _
        rw [HA7.out.sr, HA7.out.qq]
        exact flush_ord (fun _ => zeroB) k HNf.out
      have HN1 := Lib.hid hN1
      have HN2 := Lib.hid hN2
      have HR1 := Lib.hid (read_yes 1 (by show 1 < d.n; rw [HA7.out.dn]; decide) HDc8.out)
      rw [HN1.out] at HR1
      have HDn := Lib.hid HA7.out.dn
      clear hO hD8 hb8 e8 hdc8 hN1 hN2 HA7 HDc7 HBa HLt HLo HBd HDc8
      go_wp2_with fail
      refine HR1.out.mono ?_
      rintro e w9 ⟨ga, rfl, ha9, hga, hb9⟩
      have HX9 := Lib.hid ha9
      have HD9 := Lib.hid (HD8.out.later hb9)
      have HB9 := Lib.hid (HB8.out.trans (hb9.mono HB8.out.size))
      have HCr := Lib.hid (crash_any HD9.out none [] 0 0 rfl (by decide) (Bools.nil _ _) (-1) 0)
      rw [HBd8.out] at HCr
      clear ha9 hga hb9 HR1 HD8 HB8
      go_wp2_with fail
      refine HCr.out.mono ?_
      rintro e w10 ⟨Ld, rfl, hDd, hb10⟩
      have HX10 := Lib.hid (HX9.out.out (X := fun _ => False) (Out.of_below hb10) (fun h => h))
      have HB10 := Lib.hid (HB9.out.trans (hb10.mono HB9.out.size))
      have HR2 := Lib.hid (read_yes 1 (by show 1 < d.n; rw [HDn.out]; decide) hDd)
      rw [HN2.out] at HR2
      clear hDd hb10 HCr HX9 HD9 HB9 HBd8
      go_wp2_with fail
      refine HR2.out.mono ?_
      rintro e w11 ⟨gb, rfl, hb11x, hgb, hb11⟩
      have HX11 := Lib.hid (HX10.out.out (X := fun _ => False) (Out.of_below hb11) (fun h => h))
      have HY11 := Lib.hid hb11x
      have HB11 := Lib.hid (HB10.out.trans (hb11.mono HB10.out.size))
      have hwl : wantK f bs k < 256 := wantK_lt bs HF.out.1 k
      have hll : lastK f k < 256 := lastK_lt HF.out.1 k
      clear hb11x hgb hb11 HR2 HX10 HB10 HN1 HN2
      generalize wantK f bs k = wt at *
      generalize lastK f k = lt at *
      have HBy : Hid (∀ (x : Nat) (W' : World) (b : Nat), Bytes W' (some ⟨b, 0, none⟩) [x] → Calls Try.prog 16 #[.slice (some ⟨b, 0, none⟩) 1 1] W' (BytO W' (byt [x]))) := fun x W' b hx => bytes_any _ 1 1 [x] _ rfl (by decide) hx
      go_wp2_with fail
      refine wp_region_held_drew (S := fun W => Below w11.heap.size w11 W) (by kernel_rfl) ((Below.refl w11.heap.size w11).drew) (fun hHeld => ?_)
      refine wpAnyH_take (i := 0) (oi := ⟨some 84, _, _, _, _, _⟩) (v := ?_) rfl (by kernel_rfl) (by kernel_rfl) (by kernel_rfl) (fun _ _ _ h => h) (Or.inl ⟨by rfl, fun W hW => ?_⟩) (by assumption) ?_
      rotate_left
      · skip; go_simp; try with_reducible rfl
      simp only [Act.put, List.setIfInBounds_toArray, List.set_cons_zero, List.set_cons_succ]
      refine wpAnyH_take (i := 1) (oi := ⟨some 85, _, _, _, _, _⟩) (v := ?_) rfl (by kernel_rfl) (by kernel_rfl) (by kernel_rfl) (fun _ _ _ h => h) (Or.inl ⟨by rfl, fun W hW => ?_⟩) (by assumption) ?_
      rotate_left
      · skip; go_simp; try with_reducible rfl
      simp only [Act.put, List.setIfInBounds_toArray, List.set_cons_zero, List.set_cons_succ]
      refine wpAnyH_take (i := 2) (oi := ⟨some 86, _, _, _, _, _⟩) (v := ?_) rfl (by kernel_rfl) (by kernel_rfl) (by kernel_rfl) (fun _ _ _ h => h) (Or.inl ⟨by rfl, fun W hW => ?_⟩) (by assumption) ?_
      rotate_left
      · skip; go_simp; try with_reducible rfl
      simp only [Act.put, List.setIfInBounds_toArray, List.set_cons_zero, List.set_cons_succ]
      refine wpAnyH_take (i := 3) (oi := ⟨some 87, _, _, _, _, _⟩) (v := ?_) rfl (by kernel_rfl) (by kernel_rfl) (by kernel_rfl) (fun _ _ _ h => h) (Or.inl ⟨by rfl, fun W hW => ?_⟩) (by assumption) ?_
      rotate_left
      · skip; go_simp; try with_reducible rfl
      simp only [Act.put, List.setIfInBounds_toArray, List.set_cons_zero, List.set_cons_succ]
      refine wpAnyH_take (i := 4) (oi := ⟨some 88, _, _, _, _, _⟩) (v := ?_) rfl (by kernel_rfl) (by kernel_rfl) (by kernel_rfl) (fun _ _ _ h => h) (Or.inl ⟨by rfl, fun W hW => ?_⟩) (by assumption) ?_
      rotate_left
      · skip; go_simp; try with_reducible rfl
      simp only [Act.put, List.setIfInBounds_toArray, List.set_cons_zero, List.set_cons_succ]
      refine wpAnyH_take (i := 5) (oi := ⟨some 89, _, _, _, _, _⟩) (v := ?_) rfl (by kernel_rfl) (by kernel_rfl) (by kernel_rfl) (fun _ _ _ h => h) (Or.inl ⟨by rfl, fun W hW => ?_⟩) (by assumption) ?_
      rotate_left
      · skip; go_simp; try with_reducible rfl
      simp only [Act.put, List.setIfInBounds_toArray, List.set_cons_zero, List.set_cons_succ]
      refine wpAnyH_take (i := 6) (oi := ⟨some 90, _, _, _, _, _⟩) (v := ?_) rfl (by kernel_rfl) (by kernel_rfl) (by kernel_rfl) (fun _ _ _ h => h) (Or.inl ⟨by rfl, fun W hW => ?_⟩) (by assumption) ?_
      rotate_left
      · skip; go_simp; try with_reducible rfl
      simp only [Act.put, List.setIfInBounds_toArray, List.set_cons_zero, List.set_cons_succ]
      refine wpAnyH_take (i := 7) (oi := ⟨some 91, _, _, _, _, _⟩) (v := ?_) rfl (by kernel_rfl) (by kernel_rfl) (by kernel_rfl) (fun _ _ _ h => h) (Or.inl ⟨by rfl, fun W hW => ?_⟩) (by assumption) ?_
      rotate_left
      · skip; go_simp; try with_reducible rfl
      simp only [Act.put, List.setIfInBounds_toArray, List.set_cons_zero, List.set_cons_succ]
      refine wpAnyH_take (i := 8) (oi := ⟨some 92, _, _, _, _, _⟩) (v := ?_) rfl (by kernel_rfl) (by kernel_rfl) (by kernel_rfl) (fun _ _ _ h => h) (Or.inl ⟨by rfl, fun W hW => ?_⟩) (by assumption) ?_
      rotate_left
      · (refine exec_str _ _ _ ?_ _ _ _ _ _ W (HX11.out.out (X := fun _ => False) (Out.of_below hW) (fun h => h)).str) <;> (first | rfl | simp [Act.eval])
      simp only [Act.put, List.setIfInBounds_toArray, List.set_cons_zero, List.set_cons_succ]
      refine wpAnyH_take (i := 9) (oi := ⟨some 93, _, _, _, _, _⟩) (v := ?_) rfl (by kernel_rfl) (by kernel_rfl) (by kernel_rfl) (fun _ _ _ h => h) (Or.inl ⟨by rfl, fun W hW => ?_⟩) (by assumption) ?_
      rotate_left
      · skip; go_simp; try with_reducible rfl
      simp only [Act.put, List.setIfInBounds_toArray, List.set_cons_zero, List.set_cons_succ]
      refine wpAnyH_ready (rs := [10]) (by kernel_rfl) (by simp) ?_
      refine AllReadyH.cons (o := ⟨some 94, _, _, _, _, _⟩) rfl (fun K hK => ?_) AllReadyH.nil
      go_simp
      refine hK.out _ _ (by first | exact ((Below.refl _ _).alloc (Nat.le_refl _) _).drew | exact hHeld.alloc hHeld.size _) (fun hHeld => ?_)
      clear hK K
      try simp only [Act.put, List.setIfInBounds_toArray, List.set_cons_zero, List.set_cons_succ]
      refine wpAnyH_ready (rs := [11]) (by kernel_rfl) (by simp) ?_
      refine AllReadyH.cons (o := ⟨some 95, _, _, _, _, _⟩) rfl (fun K hK => ?_) AllReadyH.nil
      go_simp
      go_wp2_with (go_at_call 16; (refine (HBy.out wt _ _ ?_).mono ?_); (first | exact (bytes_one _ _ hwl) | exact (bytes_one _ _ hwl).below ((Below.refl _ _).drew)); rintro e w12 ⟨g12, rfl, hk12, hg12, hb12⟩; have hcv12 := hk12.str; have HW12 := Lib.hid (hHeld.trans (hb12.mono hHeld.size)); clear hk12 hg12 hb12)
      refine hK.out _ _ HW12.out (fun hHeld => ?_)
      clear hK K
      try simp only [Act.put, List.setIfInBounds_toArray, List.set_cons_zero, List.set_cons_succ]
      refine wpAnyH_ready (rs := [12]) (by kernel_rfl) (by simp) ?_
      refine AllReadyH.cons (o := ⟨some 96, _, _, _, _, _⟩) rfl (fun K hK => ?_) AllReadyH.nil
      go_simp
      refine hK.out _ _ HW12.out (fun hHeld => ?_)
      clear hK K
      try simp only [Act.put, List.setIfInBounds_toArray, List.set_cons_zero, List.set_cons_succ]
      refine wpAnyH_take (i := 13) (oi := ⟨some 97, _, _, _, _, _⟩) (v := ?_) rfl (by kernel_rfl) (by kernel_rfl) (by kernel_rfl) (fun _ _ _ h => h) (Or.inl ⟨by rfl, fun W hW => ?_⟩) (by assumption) ?_
      rotate_left
      · skip; go_simp; try with_reducible rfl
      simp only [Act.put, List.setIfInBounds_toArray, List.set_cons_zero, List.set_cons_succ]
      refine wpAnyH_take (i := 14) (oi := ⟨some 98, _, _, _, _, _⟩) (v := ?_) rfl (by kernel_rfl) (by kernel_rfl) (by kernel_rfl) (fun _ _ _ h => h) (Or.inl ⟨by rfl, fun W hW => ?_⟩) (by assumption) ?_
      rotate_left
      · skip; go_simp; try with_reducible rfl
      simp only [Act.put, List.setIfInBounds_toArray, List.set_cons_zero, List.set_cons_succ]
      refine wpAnyH_take (i := 15) (oi := ⟨some 99, _, _, _, _, _⟩) (v := ?_) rfl (by kernel_rfl) (by kernel_rfl) (by kernel_rfl) (fun _ _ _ h => h) (Or.inl ⟨by rfl, fun W hW => ?_⟩) (by assumption) ?_
      rotate_left
      · skip; go_simp; try with_reducible rfl
      simp only [Act.put, List.setIfInBounds_toArray, List.set_cons_zero, List.set_cons_succ]
      refine wpAnyH_take (i := 16) (oi := ⟨some 100, _, _, _, _, _⟩) (v := ?_) rfl (by kernel_rfl) (by kernel_rfl) (by kernel_rfl) (fun _ _ _ h => h) (Or.inl ⟨by rfl, fun W hW => ?_⟩) (by assumption) ?_
      rotate_left
      · skip; go_simp; try with_reducible rfl
      simp only [Act.put, List.setIfInBounds_toArray, List.set_cons_zero, List.set_cons_succ]
      refine wpAnyH_take (i := 17) (oi := ⟨some 101, _, _, _, _, _⟩) (v := ?_) rfl (by kernel_rfl) (by kernel_rfl) (by kernel_rfl) (fun _ _ _ h => h) (Or.inl ⟨by rfl, fun W hW => ?_⟩) (by assumption) ?_
      rotate_left
      · (refine exec_str _ _ _ ?_ _ _ _ _ _ W (HY11.out.out (X := fun _ => False) (Out.of_below hW) (fun h => h)).str) <;> (first | rfl | simp [Act.eval])
      simp only [Act.put, List.setIfInBounds_toArray, List.set_cons_zero, List.set_cons_succ]
      refine wpAnyH_take (i := 18) (oi := ⟨some 102, _, _, _, _, _⟩) (v := ?_) rfl (by kernel_rfl) (by kernel_rfl) (by kernel_rfl) (fun _ _ _ h => h) (Or.inl ⟨by rfl, fun W hW => ?_⟩) (by assumption) ?_
      rotate_left
      · skip; go_simp; try with_reducible rfl
      simp only [Act.put, List.setIfInBounds_toArray, List.set_cons_zero, List.set_cons_succ]
      refine wpAnyH_ready (rs := [19]) (by kernel_rfl) (by simp) ?_
      refine AllReadyH.cons (o := ⟨some 103, _, _, _, _, _⟩) rfl (fun K hK => ?_) AllReadyH.nil
      go_simp
      refine hK.out _ _ (HW12.out.alloc HW12.out.size _) (fun hHeld => ?_)
      clear hK K
      try simp only [Act.put, List.setIfInBounds_toArray, List.set_cons_zero, List.set_cons_succ]
      refine wpAnyH_ready (rs := [20]) (by kernel_rfl) (by simp) ?_
      refine AllReadyH.cons (o := ⟨some 104, _, _, _, _, _⟩) rfl (fun K hK => ?_) AllReadyH.nil
      go_simp
      go_wp2_with (go_at_call 16; (refine (HBy.out lt _ _ ?_).mono ?_); (first | exact (bytes_one _ _ hll) | exact (bytes_one _ _ hll).below ((Below.refl _ _).drew)); rintro e w13 ⟨g13, rfl, hk13, hg13, hb13⟩; have hcv13 := hk13.str; have HW13 := Lib.hid (hHeld.trans (hb13.mono hHeld.size)); clear hk13 hg13 hb13)
      refine hK.out _ _ HW13.out (fun hHeld => ?_)
      clear hK K
      try simp only [Act.put, List.setIfInBounds_toArray, List.set_cons_zero, List.set_cons_succ]
      refine wpAnyH_ready (rs := [21]) (by kernel_rfl) (by simp) ?_
      refine AllReadyH.cons (o := ⟨some 105, _, _, _, _, _⟩) rfl (fun K hK => ?_) AllReadyH.nil
      go_simp
      refine hK.out _ _ HW13.out (fun hHeld => ?_)
      clear hK K
      try simp only [Act.put, List.setIfInBounds_toArray, List.set_cons_zero, List.set_cons_succ]
      refine wpAnyH_take (i := 22) (oi := ⟨some 106, _, _, _, _, _⟩) (v := ?_) rfl (by kernel_rfl) (by kernel_rfl) (by kernel_rfl) (fun _ _ _ h => h) (Or.inl ⟨by rfl, fun W hW => ?_⟩) (by assumption) ?_
      rotate_left
      · skip; go_simp; try with_reducible rfl
      simp only [Act.put, List.setIfInBounds_toArray, List.set_cons_zero, List.set_cons_succ]
      refine wpAnyH_take (i := 23) (oi := ⟨some 107, _, _, _, _, _⟩) (v := ?_) rfl (by kernel_rfl) (by kernel_rfl) (by kernel_rfl) (fun _ _ _ h => h) (Or.inl ⟨by rfl, fun W hW => ?_⟩) (by assumption) ?_
      rotate_left
      · skip; go_simp; try with_reducible rfl
      simp only [Act.put, List.setIfInBounds_toArray, List.set_cons_zero, List.set_cons_succ]
      refine wpAnyH_take (i := 24) (oi := ⟨some 4, _, _, _, _, _⟩) (v := ?_) rfl (by kernel_rfl) (by kernel_rfl) (by kernel_rfl) (fun _ _ _ h => h) (Or.inl ⟨by rfl, fun W hW => ?_⟩) (by assumption) ?_
      rotate_left
      · skip; go_simp; try with_reducible rfl
      simp only [Act.put, List.setIfInBounds_toArray, List.set_cons_zero, List.set_cons_succ]
      refine wpAnyH_done (by kernel_rfl) ?_ _
      clear hcv12 hcv13
      have HFin := Lib.hid (HB11.out.trans (HW13.out.mono HB11.out.size))
      go_wp2
      go_ret
      exact ⟨by simp, HFin.out⟩
end Go.Proofs.Ytefphnmabbfbjaa
