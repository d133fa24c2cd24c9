/-
  The document's ReadDir.
-/
import Derived.Test.YtagigeacjendiaaEnRefD
import Derived.BigRegion
namespace Go.Proofs.Ytagigeacjendiaa
open Go.RowKit

/-- 'x[lo:hi]', lo below the room. -/
theorem cut_mid (b o n cap lo hi : Nat) (u v : Int) (hu : u = (lo : Int)) (hv : v = (hi : Int)) (h1 : lo ≤ hi) (h2 : hi ≤ cap) (h3 : lo < cap) (W : World) :
    (Instr.slice 26 (.slice (some ⟨b, o, none⟩) n cap) (some (.int .i64 u)) (some (.int .i64 v)) none).run Try.prog W = .ok (.slice (some ⟨b, o + lo, none⟩) (hi - lo) (cap - lo)) W := by
  have ht' : Try.prog.underlying 26 = some (.slice (Try.prog.elem 26)) := by simp [Program.elem, Try.underlying26]
  have he : Try.prog.elem 26 = 5 := by simp [Program.elem, Try.underlying26]
  have e2 : ¬ cap = lo := by omega
  subst hu hv
  rw [run_slice_lh W 26 _ _ _ ht' .i64 .i64 _ _ (by omega) (by omega) (by omega), he, size_u8x]
  simp [Result.andThen, sliced, Addr.add_lit, e2]
def RrdL (w : World) (F : Nat → Int) (G : Nat → ByteArray) (t : Value) (W : World) : Prop :=
  ∃ k : Nat, k ≤ 4 ∧ t = .int .i64 k ∧ Blo W (w.heap.size + 1) R4T (cells8 (cutF F k) (cutN G k)) ∧ Blo W w.heap.size R4T z8d ∧ Below w.heap.size w W
def TrL (s : List Nat) (w : World) (t : Value) (W : World) : Prop := ∃ j : Nat, j ≤ 14 ∧ t = .int .i64 j ∧ trZ s j = trZ s 14 ∧ w = W
set_option maxRecDepth 100000 in
set_option maxHeartbeats 8000000 in
theorem rreadDir_64 (b o cap : Nat) (l : List Nat) (w : World) (hl : l.length = 64) (hcap : 64 ≤ cap) (h : Bytes w (some ⟨b, o, none⟩) l) : Calls Try.prog 19 #[.slice (some ⟨b, o, none⟩) 64 cap] w (RdO w l) := by
  have H := Lib.hid h
  have HL := Lib.hid hl
  have HCap := Lib.hid hcap
  have hst : RrdL w (rdI l) (rdM l) (.int .i64 0) ((w.alloc (.cells z8d R4T)).alloc (.cells z8d R4T)) := by
    refine ⟨0, by decide, rfl, ?_, (blo_laid w R4T z8d).alloc _, ((Below.refl _ _).alloc (Nat.le_refl _) _).alloc (by simp) _⟩
    rw [cut8_none]
    have := blo_laid (w.alloc (.cells z8d R4T)) R4T z8d
    rw [show (w.alloc (.cells z8d R4T)).heap.size = w.heap.size + 1 by simp] at this
    exact this
  have HSt := Lib.hid hst
  clear h hl hst
  show Calls Try.prog 19 #[.slice (some ⟨b, o, none⟩) 64 cap] w _
  go_enter Try.func19, Try.ntmps19
  go_wp2_with fail
  go_loopw [5, 6] (fun t _ wr => RrdL w (rdI l) (rdM l) t wr) (fun t _ _ => 4 - (intOf t).toNat)
  case atStart => exact HSt.out
  case round =>
    clear HSt
    obtain ⟨k, hk, rfl, h4, h2, hB⟩ := hrel
    have k0 : (0 : Int) ≤ (k : Int) := by omega
    by_cases hlt : k < 4
    · have k1 : (k : Int) < 4 := by omega
      have HKn : Hid (k < 4) := hlt
      have HB := Lib.hid hB
      have H2 := Lib.hid h2
      have H4 := Lib.hid h4
      have hby := H.out.below hB
      have HBy := Lib.hid hby
      have HCell : Hid (∀ j, j < 64 → wr.cell? ⟨b, o + j, none⟩ = some (.int .u8 (l.getD j 0 : Nat))) := fun j hj => by
        obtain ⟨b', o', e', hc'⟩ := hby.2.2 (fun e => by have := HL.out; rw [e] at this; cases this)
        cases e'
        exact hc' j (by rw [HL.out]; exact hj)
      clear hby hB h2 h4 hk hlt hcap
      go_wp2_with fail
      go_loopw [6] (fun t wq => TrL (sub14 l k) wr t wq) (fun t _ => (intOf t).toNat)
      case atStart => exact ⟨14, Nat.le_refl _, rfl, rfl, rfl⟩
      case round =>
        obtain ⟨j, hj, rfl, htr, rfl⟩ := hrel
        have HTr := Lib.hid htr
        have j0 : (0 : Int) ≤ (j : Int) := by omega
        have j14 : (j : Int) ≤ 14 := by omega
        clear htr
        by_cases hj0 : j = 0
        · have HPj : Hid (trZ (sub14 l k) 14 = j) := by show _ = _; rw [← HTr.out, hj0]; rfl
          have jp : ¬ (0 : Int) < (j : Int) := by omega
          have HJ0 := Lib.hid hj0
          clear hj0 hj HTr
          go_wp2_with fail
          have hj : j ≤ 14 := by have := HJ0.out; omega
          obtain ⟨cc0, cc1⟩ := cells8_at (cutF (rdI l) k) (cutN (rdM l) k) k HKn.out
          have c0 := H4.out.cell (k * 2)
          have c1 := H4.out.cell (k * 2 + 1)
          rw [cc0] at c0
          rw [cc1] at c1
          have f0 := H4.out.frozen (k * 2)
          have f1 := H4.out.frozen (k * 2 + 1)
          have y0 := HCell.out (k * 16) (by have := HKn.out; omega)
          have y1 := HCell.out (k * 16 + 1) (by have := HKn.out; omega)
          have v0 := getD_byte HBy.out.1 (k * 16)
          have v1 := getD_byte HBy.out.1 (k * 16 + 1)
          have HPut := Lib.hid (cut8_put (rdI l) (rdM l) k HKn.out)
          have HA : Hid (rdI l k = (l.getD (k * 16) 0 : Nat) + 256 * (l.getD (k * 16 + 1) 0 : Nat)) := by show _ = _; unfold rdI b2; omega
          have HN : Hid (rdM l k = strOf ((sub14 l k).take j)) := by show _ = _; unfold rdM; rw [HPj.out]
          have hs14 := sub14_len HL.out HKn.out
          obtain ⟨o2, ho2⟩ : ∃ o2, o2 = o + (k * 16 + 2) := ⟨_, rfl⟩
          obtain ⟨q2, hq2⟩ : ∃ q2, q2 = cap - (k * 16 + 2) := ⟨_, rfl⟩
          have hcut : ∀ W : World, (Instr.slice 26 (.slice (some ⟨b, o, none⟩) 64 cap) (some (.int .i64 (16 * (k : Int) + 2))) (some (.int .i64 (16 * (k : Int) + 2 + (j : Int)))) none).run Try.prog W = .ok (.slice (some ⟨b, o2, none⟩) j q2) W := fun W => by
            have e := cut_mid b o 64 cap (k * 16 + 2) (k * 16 + 2 + j) (16 * (k : Int) + 2) (16 * (k : Int) + 2 + (j : Int)) (by omega) (by omega) (by omega) (by have := HCap.out; have := HKn.out; omega) (by have := HCap.out; have := HKn.out; omega) W
            rw [show k * 16 + 2 + j - (k * 16 + 2) = j by omega, ← ho2, ← hq2] at e
            exact e
          have hcv := text_of (w := wr.drew) (a := some ⟨b, o2, none⟩) (l := (sub14 l k).take j) ⟨fun x hx => by
              have hx2 := List.mem_of_mem_take hx
              unfold sub14 at hx2
              exact H.out.1 x (List.mem_of_mem_drop (List.mem_of_mem_take hx2)), by rw [List.length_take]; omega, fun _ => ⟨b, o2, rfl, fun i hi => by
              rw [List.length_take] at hi
              rw [List.getD_eq_getElem?_getD, List.getElem?_take_of_lt (by omega), ← List.getD_eq_getElem?_getD, sub14_get k i (by omega), ho2, Nat.add_assoc]
              exact HCell.out _ (by have := HKn.out; omega)⟩⟩ j q2 (by rw [List.length_take]; omega)
          have m1 : (0 : Int) ≤ 16 * (k : Int) := by omega
          have m2 : (16 : Int) * (k : Int) < 64 := by omega
          have m3 : ((16 : Int) * (k : Int)).toNat = k * 16 := by omega
          have m11 : (0 : Int) ≤ 16 * (k : Int) + 1 := by omega
          have m12 : (16 : Int) * (k : Int) + 1 < 64 := by omega
          have m13 : ((16 : Int) * (k : Int) + 1).toNat = k * 16 + 1 := by omega
          generalize l.getD (k * 16) 0 = n0 at *
          generalize l.getD (k * 16 + 1) 0 = n1 at *
          generalize strOf ((sub14 l k).take j) = nk at *
          clear ho2 hq2 hs14 cc0 cc1
          go_region
          all_goals
            go_wp2_with fail
            go_roundw
            case rel =>
              refine ⟨k + 1, HKn.out, by simp, ?_, (H2.out.far (p := ⟨w.heap.size + 1, k * 2, none⟩) (by show w.heap.size ≠ w.heap.size + 1; omega) _).far (p := ⟨w.heap.size + 1, k * 2 + 1, none⟩) (by show w.heap.size ≠ w.heap.size + 1; omega) _, ?_⟩
              · have e := HPut.out
                rw [HA.out, HN.out] at e
                rw [← e]
                exact (H4.out.put _ _).put _ _
              · exact ((HB.out.setCell (p := ⟨w.heap.size + 1, k * 2, none⟩) (Nat.le_succ _) _).setCell (p := ⟨w.heap.size + 1, k * 2 + 1, none⟩) (Nat.le_succ _) _).drew
            case measure => simp [intOf]; have := HKn.out; omega
        · have HJ : Hid (j ≠ 0 ∧ j ≤ 14) := ⟨hj0, hj⟩
          have hx := HCell.out (k * 16 + 2 + (j - 1)) (by have := HKn.out; omega)
          have hxb := getD_byte HBy.out.1 (k * 16 + 2 + (j - 1))
          have HS : Hid ((sub14 l k).getD (j - 1) 0 = l.getD (k * 16 + 2 + (j - 1)) 0) := sub14_get k (j - 1) (by omega)
          have jp : (0 : Int) < (j : Int) := by omega
          have m1 : (0 : Int) ≤ 16 * (k : Int) + 2 + (j : Int) - 1 := by omega
          have m2 : (16 : Int) * (k : Int) + 2 + (j : Int) - 1 < 64 := by omega
          have m3 : ((16 : Int) * (k : Int) + 2 + (j : Int) - 1).toNat = k * 16 + 2 + (j - 1) := by omega
          have m4 : (1 : Int) ≤ 16 * (k : Int) + 2 + (j : Int) := by omega
          generalize l.getD (k * 16 + 2 + (j - 1)) 0 = x at *
          by_cases hx0 : x = 0
          · subst hx0
            clear hj0 hj
            go_wp2_with fail
            have HT1 : Hid (trZ (sub14 l k) (j - 1) = trZ (sub14 l k) 14) := by
              have e := HTr.out
              rw [show j = j - 1 + 1 by have := HJ.out; omega, trZ, if_pos HS.out] at e
              exact e
            exact ⟨⟨j - 1, by have := HJ.out; omega, by have := HJ.out; congr 1; omega, HT1.out, rfl⟩, by simp [intOf]; have := HJ.out; omega⟩
          · have hxz : ((x : Int) == 0) = false := beq_eq_false_iff_ne.2 (by omega)
            clear hj0 hj hx0
            go_wp2_with fail
            have HPj : Hid (trZ (sub14 l k) 14 = j) := by
              show _ = _
              rw [← HTr.out, show j = j - 1 + 1 by have := HJ.out; omega, trZ, if_neg (by rw [HS.out]; intro e; rw [e] at hxz; exact absurd hxz (by decide))]
            clear hx hxb HS jp m1 m2 m3 m4 hxz HTr
            obtain ⟨cc0, cc1⟩ := cells8_at (cutF (rdI l) k) (cutN (rdM l) k) k HKn.out
            have c0 := H4.out.cell (k * 2)
            have c1 := H4.out.cell (k * 2 + 1)
            rw [cc0] at c0
            rw [cc1] at c1
            have f0 := H4.out.frozen (k * 2)
            have f1 := H4.out.frozen (k * 2 + 1)
            have y0 := HCell.out (k * 16) (by have := HKn.out; omega)
            have y1 := HCell.out (k * 16 + 1) (by have := HKn.out; omega)
            have v0 := getD_byte HBy.out.1 (k * 16)
            have v1 := getD_byte HBy.out.1 (k * 16 + 1)
            have HPut := Lib.hid (cut8_put (rdI l) (rdM l) k HKn.out)
            have HA : Hid (rdI l k = (l.getD (k * 16) 0 : Nat) + 256 * (l.getD (k * 16 + 1) 0 : Nat)) := by show _ = _; unfold rdI b2; omega
            have HN : Hid (rdM l k = strOf ((sub14 l k).take j)) := by show _ = _; unfold rdM; rw [HPj.out]
            have hs14 := sub14_len HL.out HKn.out
            obtain ⟨o2, ho2⟩ : ∃ o2, o2 = o + (k * 16 + 2) := ⟨_, rfl⟩
            obtain ⟨q2, hq2⟩ : ∃ q2, q2 = cap - (k * 16 + 2) := ⟨_, rfl⟩
            have hcut : ∀ W : World, (Instr.slice 26 (.slice (some ⟨b, o, none⟩) 64 cap) (some (.int .i64 (16 * (k : Int) + 2))) (some (.int .i64 (16 * (k : Int) + 2 + (j : Int)))) none).run Try.prog W = .ok (.slice (some ⟨b, o2, none⟩) j q2) W := fun W => by
              have e := cut_mid b o 64 cap (k * 16 + 2) (k * 16 + 2 + j) (16 * (k : Int) + 2) (16 * (k : Int) + 2 + (j : Int)) (by omega) (by omega) (by omega) (by have := HCap.out; have := HKn.out; omega) (by have := HCap.out; have := HKn.out; omega) W
              rw [show k * 16 + 2 + j - (k * 16 + 2) = j by omega, ← ho2, ← hq2] at e
              exact e
            have hcv := text_of (w := wr.drew) (a := some ⟨b, o2, none⟩) (l := (sub14 l k).take j) ⟨fun x hx => by
                have hx2 := List.mem_of_mem_take hx
                unfold sub14 at hx2
                exact H.out.1 x (List.mem_of_mem_drop (List.mem_of_mem_take hx2)), by rw [List.length_take]; omega, fun _ => ⟨b, o2, rfl, fun i hi => by
                rw [List.length_take] at hi
                rw [List.getD_eq_getElem?_getD, List.getElem?_take_of_lt (by omega), ← List.getD_eq_getElem?_getD, sub14_get k i (by omega), ho2, Nat.add_assoc]
                exact HCell.out _ (by have := HKn.out; omega)⟩⟩ j q2 (by rw [List.length_take]; omega)
            have m1 : (0 : Int) ≤ 16 * (k : Int) := by omega
            have m2 : (16 : Int) * (k : Int) < 64 := by omega
            have m3 : ((16 : Int) * (k : Int)).toNat = k * 16 := by omega
            have m11 : (0 : Int) ≤ 16 * (k : Int) + 1 := by omega
            have m12 : (16 : Int) * (k : Int) + 1 < 64 := by omega
            have m13 : ((16 : Int) * (k : Int) + 1).toNat = k * 16 + 1 := by omega
            generalize l.getD (k * 16) 0 = n0 at *
            generalize l.getD (k * 16 + 1) 0 = n1 at *
            generalize strOf ((sub14 l k).take j) = nk at *
            clear ho2 hq2 hs14 cc0 cc1
            go_region
            all_goals
              go_wp2_with fail
              go_roundw
              case rel =>
                refine ⟨k + 1, HKn.out, by simp, ?_, (H2.out.far (p := ⟨w.heap.size + 1, k * 2, none⟩) (by show w.heap.size ≠ w.heap.size + 1; omega) _).far (p := ⟨w.heap.size + 1, k * 2 + 1, none⟩) (by show w.heap.size ≠ w.heap.size + 1; omega) _, ?_⟩
                · have e := HPut.out
                  rw [HA.out, HN.out] at e
                  rw [← e]
                  exact (H4.out.put _ _).put _ _
                · exact ((HB.out.setCell (p := ⟨w.heap.size + 1, k * 2, none⟩) (Nat.le_succ _) _).setCell (p := ⟨w.heap.size + 1, k * 2 + 1, none⟩) (Nat.le_succ _) _).drew
              case measure => simp [intOf]; have := HKn.out; omega
    · have k1 : ¬ (k : Int) < 4 := by omega
      obtain rfl : k = 4 := by omega
      rw [cut8_all] at h4
      have HB := Lib.hid hB
      have H2 := Lib.hid h2
      have H4 := Lib.hid h4
      clear hB h2 h4
      have hui := Try.underlying44
      have HII : Hid ((Try.prog.info? R4T).map (·.size) = some (cells8 (rdI l) (rdM l)).size) := info_r4 _ _
      have HIZ : Hid ((Try.prog.info? R4T).map (·.size) = some z8d.size) := info_r4 (fun _ => 0) (fun _ => ⟨#[]⟩)
      have HOne := Lib.hid (cells8_one (rdI l) (rdM l))
      have HZ1 := Lib.hid z8d_one
      have HRb := Lib.hid (rdirBlock_any (rdI l) (rdM l) wr)
      have HOk := Lib.hid (okR_D l).1
      have HCe := Lib.hid (okR_D l).2
      have HEb := Lib.hid (encDK_byte (rdI l) (rdM l) 4)
      generalize hcs : cells8 (rdI l) (rdM l) = CS at *
      clear hcs
      go_wp2_with (refine wpList_load_row rfl R4T (.tmp 4) rfl (w.heap.size + 1) rfl R4T CS (0, 0) _ H4.out hui rfl HII.out ?_)
      refine HRb.out.mono ?_
      rintro e w5 ⟨h1, hb5⟩
      have HB5 := Lib.hid (HB.out.trans (hb5.mono HB.out.size))
      have H25 := Lib.hid (H2.out.later hb5)
      have H45 := Lib.hid (H4.out.later hb5)
      have HBy := Lib.hid (H.out.below HB5.out)
      clear HB H2 H4 hb5 HRb
      have hcv := text_of HBy.out 64 cap HL.out.symm
      rcases h1 with ⟨hag, rfl⟩ | ⟨hag, rfl⟩
      · by_cases hen : encDK (rdI l) (rdM l) 4 = l
        · have hok : OkD l := HOk.out.1 ⟨hag, hen⟩
          have HOK := Lib.hid hok
          rw [hen]
          generalize strOf l = tx at *
          clear hag hen hok
          go_wp2_with (first | (refine wpList_load_row rfl R4T (.tmp 4) rfl (w.heap.size + 1) rfl R4T CS (0, 0) _ H45.out hui rfl HII.out ?_) | (refine wpList_store_row rfl R4T (.tmp 2) (.tmp 76) rfl w.heap.size CS rfl rfl R4T _ H25.out HII.out (size_eqA HIZ.out HII.out) HOne.out ?_))
          have hrow := setRow_heap w5 w.heap.size _ CS _ _ H25.out
          have hld := run_loadVar_row _ _ R4T R4T CS (0, 0) _ hrow hui rfl HII.out
          refine bodyPost_ret (v := .tuple #[.agg CS, .int .i64 0]) ?_ rfl ⟨.inl ⟨HOK.out, by rw [HCe.out HOK.out]⟩, below_setRow HB5.out (Nat.le_refl _) _⟩
          simp [results, Try.results19, asAddr, hld]
        · have hs0 : ((strOf (encDK (rdI l) (rdM l) 4)).toList == (strOf l).toList) = false := by
            exact str_ne HEb.out HBy.out.1 hen
          have hst : ((strOf (encDK (rdI l) (rdM l) 4)).toList != (strOf l).toList) = true := by
            rw [bne, hs0]; rfl
          have HNo : Hid (¬ OkD l) := fun h => hen (HOk.out.2 h).2
          generalize strOf (encDK (rdI l) (rdM l) 4) = tx at *
          generalize strOf l = ty at *
          clear hag hen
          go_wp2_with (refine wpList_store_row rfl R4T (.tmp 2) (.tmp 75) rfl w.heap.size z8d rfl rfl R4T _ H25.out HIZ.out rfl HZ1.out ?_)
          have hrow := setRow_heap w5 w.heap.size _ z8d _ _ H25.out
          have hld := run_loadVar_row _ _ R4T R4T z8d (0, 0) _ hrow hui rfl HIZ.out
          refine bodyPost_ret (v := .tuple #[.agg z8d, .int .i64 100]) ?_ rfl ⟨.inr ⟨HNo.out, rfl⟩, below_setRow HB5.out (Nat.le_refl _) _⟩
          simp [results, Try.results19, asAddr]
          exact congrArg (fun r => Result.andThen r (fun a w' => Result.ok (Value.tuple #[a, .int .i64 100]) w')) hld
      · have HNo : Hid (¬ OkD l) := fun h => hag (HOk.out.2 h).1
        clear hag
        generalize strOf l = ty at *
        go_wp2_with (refine wpList_store_row rfl R4T (.tmp 2) (.tmp 75) rfl w.heap.size z8d rfl rfl R4T _ H25.out HIZ.out rfl HZ1.out ?_)
        have hrow := setRow_heap w5 w.heap.size _ z8d _ _ H25.out
        have hld := run_loadVar_row _ _ R4T R4T z8d (0, 0) _ hrow hui rfl HIZ.out
        refine bodyPost_ret (v := .tuple #[.agg z8d, .int .i64 100]) ?_ rfl ⟨.inr ⟨HNo.out, rfl⟩, below_setRow HB5.out (Nat.le_refl _) _⟩
        simp [results, Try.results19, asAddr]
        exact congrArg (fun r => Result.andThen r (fun a w' => Result.ok (Value.tuple #[a, .int .i64 100]) w')) hld
end Go.Proofs.Ytagigeacjendiaa
