/-
  summary.Decode: of any bytes.
-/
import Derived.Test.YtkdjfhbdcfjnnaaSwDecM
import Derived.Deep.DeepCutAuto
namespace Go.Proofs.Ytkdjfhbdcfjnnaa
open Go.RowKit

/-- What a part that is read lies in: new memory. -/
structure DecY (w : World) (l W : List Nat) (e : Ending) (w' : World) (fa : Option Addr) (fc : Nat) (ia : Option Addr) (ic : Nat) (av : Nat → Value) (SB : Nat) : Prop where
  eq : e = .returned (.tuple #[.agg #[.int .i64 (v2 l 0 : Nat), .int .i64 (v2 l 2 : Nat), .int .i64 (at' W 0 : Nat), .int .i64 (at' W 1 : Nat), .int .i64 (v2 W 2 : Nat), .slice fa (at' W 4) fc, .slice ia (at' W 5) ic], .int .u32 (sumM W : Nat), .int .i64 0])
  fo : Fo w' w.heap.size (.slice fa (at' W 4) fc) av (filesM W (at' W 4)) (at' W 4)
  ino : w'.ownsRow SB IT 1 (.slice ia (at' W 5) ic) (at' W 5) (cellsI (inosM W (pos W (at' W 4)) (at' W 5)))
  lt : ∀ i g, i < at' W 4 → (av i).ownBlock = some g → g < SB
  sep : SepAv av (at' W 4)
  le : w.heap.size ≤ SB
def DecO (l : List Nat) (w : World) (e : Ending) (w' : World) : Prop :=
  Below w.heap.size w w' ∧ (okB l = false → e = .returned (.tuple #[.agg #[.int .i64 0, .int .i64 0, .int .i64 0, .int .i64 0, .int .i64 0, .slice none 0 0, .slice none 0 0], .int .u32 0, .int .i64 100])) ∧ (okB l = true → ∃ fa fc ia ic av SB, DecY w l (gat l 8) e w' fa fc ia ic av SB)
set_option maxHeartbeats 4000000 in
theorem decode_short {w : World} (a : Option Addr) (n cap : Nat) (l : List Nat) (hn : n = l.length) (hne : n ≠ 128) (h9 : n ≤ 9223372036854775807) : Calls Try.prog 20 #[.slice a n cap] w fun e w' => DecO l w e w' := by
  have HO : Hid (okB l = false) := by show _ = _; unfold okB; rw [decide_eq_false (by omega)]; rfl
  have hb := sup_pc w (.cells #[.int .i64 0, .int .i64 0, .int .i64 0, .int .i64 0, .int .i64 0, .slice none 0 0, .slice none 0 0] 25)
  have hres := blo_laid w 25 #[.int .i64 0, .int .i64 0, .int .i64 0, .int .i64 0, .int .i64 0, .slice none 0 0, .slice none 0 0]
  have hi : ((n : Int) != 128) = true := by simp; omega
  have hi2 : ((n : Int) == 128) = false := by simp; omega
  have hi3 : ¬ (n : Int) = 128 := by omega
  have HB := Lib.hid hb
  have HR := Lib.hid hres
  clear hn hb
  go_enter Try.func20, Try.ntmps20
  go_wp2_with (refine wpList_store_row rfl 25 (.tmp 2) (.tmp 15) rfl w.heap.size (#[.int .i64 0, .int .i64 0, .int .i64 0, .int .i64 0, .int .i64 0, .slice none 0 0, .slice none 0 0]) (by first | rfl | simp [go_sem]) (by first | rfl | simp [go_sem]) 25 _ hres (by kernel_rfl) rfl (by simp [Value.oneCell']) ?_)
  (try simp only [Exit.inBlock, Exit.then])
  refine bodyPost_ret (results_row_tmp2 (p := 2) (u := 3) (v := 4) (ty := 25) rfl _ _ w.heap.size 25 #[.int .i64 0, .int .i64 0, .int .i64 0, .int .i64 0, .int .i64 0, .slice none 0 0, .slice none 0 0] _ (by simp) (blo_row HR.out #[.int .i64 0, .int .i64 0, .int .i64 0, .int .i64 0, .int .i64 0, .slice none 0 0, .slice none 0 0]) Try.underlying25 rfl (by kernel_rfl)) rfl ⟨below_setRow HB.out (Nat.le_refl _) _, fun _ => rfl, fun h => by rw [HO.out] at h; cases h⟩
set_option maxRecDepth 100000 in
set_option maxHeartbeats 4000000 in
theorem decode_128 {w : World} (b o cap : Nat) (l : List Nat) (hl : l.length = 128) (hcap : 128 ≤ cap) (hY : Bytes w (some ⟨b, o, none⟩) l) : Calls Try.prog 20 #[.slice (some ⟨b, o, none⟩) 128 cap] w fun e w' => DecO l w e w' := by
  have HL := Lib.hid hl
  have HY := Lib.hid hY
  have HR0 := Lib.hid (blo_laid w 25 #[.int .i64 0, .int .i64 0, .int .i64 0, .int .i64 0, .int .i64 0, .slice none 0 0, .slice none 0 0])
  have HB0 := Lib.hid (sup_pc w (.cells #[.int .i64 0, .int .i64 0, .int .i64 0, .int .i64 0, .int .i64 0, .slice none 0 0, .slice none 0 0] 25))
  have hgl := gat_len hl
  have HGL := Lib.hid hgl
  have hne : gat l 8 ≠ [] := fun e => by rw [e] at hgl; cases hgl
  have HNE := Lib.hid hne
  have HC := Lib.hid hcap
  clear hl hY hgl hne
  go_enter Try.func20, Try.ntmps20
  go_wp2_with fail
  refine (gather_any b o cap l HL.out HC.out (HY.out.below HB0.out)).mono ?_
  rintro e w1 ⟨a1, c1, rfl, hY1, hc1, hb1⟩
  have HR1 := Lib.hid (HR0.out.later hb1)
  have HB1 := Lib.hid (HB0.out.trans (hb1.mono HB0.out.size))
  have HC1 := Lib.hid hc1
  have HY1 := Lib.hid hY1
  have HN1 : Hid (a1 = none → gat l 8 = [] ∧ c1 = 0) := fun e => by
    obtain ⟨b', o', e', _⟩ := hY1.2.2 HNE.out
    rw [e] at e'; cases e'
  have HBY : Hid (∀ i, at' (gat l 8) i < 256) := fun i => at_lt hY1.1 i
  clear hb1 hc1 hY1 HR0 HB0
  obtain ⟨W, hW⟩ : ∃ W, gat l 8 = W := ⟨_, rfl⟩
  have HWe := Lib.hid hW
  rw [hW] at HGL HY1 HN1 HBY HNE
  clear hW
  go_wp2_with fail
  refine (parse_any a1 88 c1 W HGL.out.symm (by decide) HC1.out HY1.out HN1.out).mono ?_
  rintro e w2 ⟨fa, fc, av, iv, SB, rfl, hF, hO, hLt, hSp, hSB, hb2⟩
  obtain ⟨ia, ic, rfl, -⟩ := own_slice hO
  have HR2 := Lib.hid (HR1.out.later hb2)
  have HB2 := Lib.hid (HB1.out.trans (hb2.mono HB1.out.size))
  have HF2 := Lib.hid (hF.weak (show w.heap.size + 1 ≤ w1.heap.size from HR1.out.lt))
  have HO2 := Lib.hid hO
  have HLt := Lib.hid hLt
  have HSp := Lib.hid hSp
  have HSB : Hid (w.heap.size + 1 ≤ SB) := Nat.le_trans (show w.heap.size + 1 ≤ w1.heap.size from HR1.out.lt) hSB
  clear hF hO hLt hSp hSB hb2 HR1 HB1 HC1 HY1 HN1 HNE
  have hw2 : w.heap.size < w2.heap.size := HR2.out.lt
  go_upto_region 6 with (fail)
  have hb3 : Below w2.heap.size w2 (w2.alloc (.cells #[.int .i64 (v2 l 0 : Nat), .int .i64 (v2 l 2 : Nat), .int .i64 (at' W 0 : Nat), .int .i64 (at' W 1 : Nat), .int .i64 (v2 W 2 : Nat), .slice fa (at' W 4) fc, .slice ia (at' W 5) ic] 25)) := sup_pc w2 _
  have hbx : Blo (w2.alloc (.cells #[.int .i64 (v2 l 0 : Nat), .int .i64 (v2 l 2 : Nat), .int .i64 (at' W 0 : Nat), .int .i64 (at' W 1 : Nat), .int .i64 (v2 W 2 : Nat), .slice fa (at' W 4) fc, .slice ia (at' W 5) ic] 25)) w2.heap.size 25 #[.int .i64 (v2 l 0 : Nat), .int .i64 (v2 l 2 : Nat), .int .i64 (at' W 0 : Nat), .int .i64 (at' W 1 : Nat), .int .i64 (v2 W 2 : Nat), .slice fa (at' W 4) fc, .slice ia (at' W 5) ic] := blo_laid w2 25 #[.int .i64 (v2 l 0 : Nat), .int .i64 (v2 l 2 : Nat), .int .i64 (at' W 0 : Nat), .int .i64 (at' W 1 : Nat), .int .i64 (v2 W 2 : Nat), .slice fa (at' W 4) fc, .slice ia (at' W 5) ic]
  generalize w2.alloc (.cells #[.int .i64 (v2 l 0 : Nat), .int .i64 (v2 l 2 : Nat), .int .i64 (at' W 0 : Nat), .int .i64 (at' W 1 : Nat), .int .i64 (v2 W 2 : Nat), .slice fa (at' W 4) fc, .slice ia (at' W 5) ic] 25) = w3 at *
  have HR3 := Lib.hid (HR2.out.later hb3)
  have HB3 := Lib.hid (HB2.out.trans (hb3.mono HB2.out.size))
  have HF3 := Lib.hid (HF2.out.later hb3)
  have HO3 := Lib.hid (own_later HO2.out hb3)
  have HBx := Lib.hid hbx
  clear hb3 HR2 HB2 HF2 HO2
  generalize w2.heap.size = B at *
  have hb4 := HBY.out 4
  have hb5 := HBY.out 5
  have HFi := Lib.hid (HF3.out.fis (filesM_len _ _).symm)
  have HIi := Lib.hid (Ints.own HO3.out)
  have HOk : Hid (okB l = (decide (chkM ⟨(v2 l 0 : Nat), (v2 l 2 : Nat), (at' W 0 : Nat), (at' W 1 : Nat), (v2 W 2 : Nat), filesM W (at' W 4), inosM W (pos W (at' W 4)) (at' W 5)⟩ = 0) && decide (encM ⟨(v2 l 0 : Nat), (v2 l 2 : Nat), (at' W 0 : Nat), (at' W 1 : Nat), (v2 W 2 : Nat), filesM W (at' W 4), inosM W (pos W (at' W 4)) (at' W 5)⟩ (sumM W) = l))) := by
    show _ = _
    unfold okB decM parM
    rw [HWe.out, decide_eq_true HL.out, Bool.true_and]
  have hbs : sumM W < 4294967296 := by
    have b6 := HBY.out 6
    have b7 := HBY.out 7
    have b8 := HBY.out 8
    have b9 := HBY.out 9
    unfold sumM
    omega
  by_cases hk : chkM ⟨(v2 l 0 : Nat), (v2 l 2 : Nat), (at' W 0 : Nat), (at' W 1 : Nat), (v2 W 2 : Nat), filesM W (at' W 4), inosM W (pos W (at' W 4)) (at' W 5)⟩ = 0
  · have HE := Lib.hid (encode_good (w := w3) ⟨(v2 l 0 : Nat), (v2 l 2 : Nat), (at' W 0 : Nat), (at' W 1 : Nat), (v2 W 2 : Nat), filesM W (at' W 4), inosM W (pos W (at' W 4)) (at' W 5)⟩ (sumM W) fa (at' W 4) fc ia (at' W 5) ic hk HFi.out (filesM_len _ _).symm HIi.out (inosM_len _ _ _).symm hbs)
    have HEL := Lib.hid (encM_len ⟨(v2 l 0 : Nat), (v2 l 2 : Nat), (at' W 0 : Nat), (at' W 1 : Nat), (v2 W 2 : Nat), filesM W (at' W 4), inosM W (pos W (at' W 4)) (at' W 5)⟩ (sumM W) (good_of hk))
    rw [decide_eq_true hk, Bool.true_and] at HOk
    clear hk
    generalize encM ⟨(v2 l 0 : Nat), (v2 l 2 : Nat), (at' W 0 : Nat), (at' W 1 : Nat), (v2 W 2 : Nat), filesM W (at' W 4), inosM W (pos W (at' W 4)) (at' W 5)⟩ (sumM W) = E at *
    go_wp2_with (refine wpList_load_row rfl 25 (.tmp 8) rfl B rfl 25 #[.int .i64 (v2 l 0 : Nat), .int .i64 (v2 l 2 : Nat), .int .i64 (at' W 0 : Nat), .int .i64 (at' W 1 : Nat), .int .i64 (v2 W 2 : Nat), .slice fa (at' W 4) fc, .slice ia (at' W 5) ic] (0, 0) _ HBx.out Try.underlying25 rfl (by kernel_rfl) ?_)
    refine HE.out.mono ?_
    rintro e w4 ⟨g, rfl, hgl, hfil, hb4'⟩
    have hEb : Bytes w4 (some ⟨g, 0, none⟩) E := by
      have := hfil.bytes (by decide)
      rwa [show zpad 128 E = E by unfold zpad; rw [HEL.out]; simp] at this
    have HEb := Lib.hid hEb
    have HR4 := Lib.hid (HR3.out.later hb4')
    have HB4 := Lib.hid (HB3.out.trans (hb4'.mono HB3.out.size))
    have HF4 := Lib.hid (HF3.out.later hb4')
    have HO4 := Lib.hid (own_later HO3.out hb4')
    have HX4 := Lib.hid (HBx.out.later hb4')
    have HY4 := Lib.hid (HY.out.below HB4.out)
    have hwB : w.heap.size ≠ B := by omega
    clear hgl hfil hb4' hEb HE HBx HFi HIi HR3 HB3 HF3 HO3
    by_cases heq : E = l
    · rw [decide_eq_true heq] at HOk
      have HQ := Lib.hid (equal_same l 128 HL.out.symm (some ⟨g, 0, none⟩) (some ⟨b, o, none⟩) 128 cap w4 (heq ▸ HEb.out) HY4.out)
      clear heq
      go_wp2_with fail
      refine HQ.out.mono ?_
      rintro e w5 ⟨rfl, rfl⟩
      have hres := HR4.out
      go_wp2_with (first | (refine wpList_load_row rfl 25 (.tmp 8) rfl B rfl 25 #[.int .i64 (v2 l 0 : Nat), .int .i64 (v2 l 2 : Nat), .int .i64 (at' W 0 : Nat), .int .i64 (at' W 1 : Nat), .int .i64 (v2 W 2 : Nat), .slice fa (at' W 4) fc, .slice ia (at' W 5) ic] (0, 0) _ HX4.out Try.underlying25 rfl (by kernel_rfl) ?_) | (refine wpList_store_row rfl 25 (.tmp 2) (.tmp 46) rfl w.heap.size (#[.int .i64 (v2 l 0 : Nat), .int .i64 (v2 l 2 : Nat), .int .i64 (at' W 0 : Nat), .int .i64 (at' W 1 : Nat), .int .i64 (v2 W 2 : Nat), .slice fa (at' W 4) fc, .slice ia (at' W 5) ic]) (by first | rfl | simp [go_sem]) (by first | rfl | simp [go_sem]) 25 _ hres (by kernel_rfl) rfl (by simp [Value.oneCell']) ?_))
      (try simp only [Exit.inBlock, Exit.then])
      have hout : Out (fun g => g = w.heap.size) w4 (w4.setRow w.heap.size #[.int .i64 (v2 l 0 : Nat), .int .i64 (v2 l 2 : Nat), .int .i64 (at' W 0 : Nat), .int .i64 (at' W 1 : Nat), .int .i64 (v2 W 2 : Nat), .slice fa (at' W 4) fc, .slice ia (at' W 5) ic]) := out_row w4 w.heap.size _ rfl
      refine bodyPost_ret (results_row_tmp2 (p := 2) (u := 3) (v := 4) (ty := 25) rfl _ _ w.heap.size 25 #[.int .i64 (v2 l 0 : Nat), .int .i64 (v2 l 2 : Nat), .int .i64 (at' W 0 : Nat), .int .i64 (at' W 1 : Nat), .int .i64 (v2 W 2 : Nat), .slice fa (at' W 4) fc, .slice ia (at' W 5) ic] _ (by simp) (blo_row HR4.out #[.int .i64 (v2 l 0 : Nat), .int .i64 (v2 l 2 : Nat), .int .i64 (at' W 0 : Nat), .int .i64 (at' W 1 : Nat), .int .i64 (v2 W 2 : Nat), .slice fa (at' W 4) fc, .slice ia (at' W 5) ic]) Try.underlying25 rfl (by kernel_rfl)) rfl ⟨below_setRow HB4.out (Nat.le_refl _) _, fun h => (by rw [HOk.out] at h; cases h), fun _ => ⟨fa, fc, ia, ic, av, SB, ?_⟩⟩
      rw [HWe.out]
      have hs9 := HSB.out
      exact ⟨rfl, (HF4.out.out hout (fun g e _ => by omega)).weak (by omega), own_out HO4.out hout (fun g e _ => by omega), fun i g hi hg => HLt.out i g hi hg, HSp.out, by omega⟩
    · rw [decide_eq_false heq] at HOk
      have HQ := Lib.hid (equal_ne E l 128 128 HEL.out.symm HL.out.symm heq (some ⟨g, 0, none⟩) (some ⟨b, o, none⟩) 128 cap w4 HEb.out HY4.out)
      clear heq
      go_wp2_with fail
      refine HQ.out.mono ?_
      rintro e w5 ⟨rfl, rfl⟩
      have hres := HR4.out
      go_wp2_with (refine wpList_store_row rfl 25 (.tmp 2) (.tmp 45) rfl w.heap.size (#[.int .i64 0, .int .i64 0, .int .i64 0, .int .i64 0, .int .i64 0, .slice none 0 0, .slice none 0 0]) (by first | rfl | simp [go_sem]) (by first | rfl | simp [go_sem]) 25 _ hres (by kernel_rfl) rfl (by simp [Value.oneCell']) ?_)
      (try simp only [Exit.inBlock, Exit.then])
      refine bodyPost_ret (results_row_tmp2 (p := 2) (u := 3) (v := 4) (ty := 25) rfl _ _ w.heap.size 25 #[.int .i64 0, .int .i64 0, .int .i64 0, .int .i64 0, .int .i64 0, .slice none 0 0, .slice none 0 0] _ (by simp) (blo_row HR4.out #[.int .i64 0, .int .i64 0, .int .i64 0, .int .i64 0, .int .i64 0, .slice none 0 0, .slice none 0 0]) Try.underlying25 rfl (by kernel_rfl)) rfl ⟨below_setRow HB4.out (Nat.le_refl _) _, fun _ => rfl, fun h => by rw [HOk.out] at h; cases h⟩
  · have HE := Lib.hid (encode_bad (w := w3) (s := sumM W) ⟨(v2 l 0 : Nat), (v2 l 2 : Nat), (at' W 0 : Nat), (at' W 1 : Nat), (v2 W 2 : Nat), filesM W (at' W 4), inosM W (pos W (at' W 4)) (at' W 5)⟩ fa (at' W 4) fc ia (at' W 5) ic hk HFi.out (filesM_len _ _).symm HIi.out (inosM_len _ _ _).symm (Nat.le_trans (szF_files W HBY.out _) (by omega)) (by omega) (lb_files W _))
    rw [decide_eq_false hk, Bool.false_and] at HOk
    generalize chkM ⟨(v2 l 0 : Nat), (v2 l 2 : Nat), (at' W 0 : Nat), (at' W 1 : Nat), (v2 W 2 : Nat), filesM W (at' W 4), inosM W (pos W (at' W 4)) (at' W 5)⟩ = z at *
    have hz1 : (z != 0) = true := by simp [hk]
    have hz2 : (z == 0) = false := by simp [hk]
    go_wp2_with (refine wpList_load_row rfl 25 (.tmp 8) rfl B rfl 25 #[.int .i64 (v2 l 0 : Nat), .int .i64 (v2 l 2 : Nat), .int .i64 (at' W 0 : Nat), .int .i64 (at' W 1 : Nat), .int .i64 (v2 W 2 : Nat), .slice fa (at' W 4) fc, .slice ia (at' W 5) ic] (0, 0) _ HBx.out Try.underlying25 rfl (by kernel_rfl) ?_)
    refine HE.out.mono ?_
    rintro e w4 ⟨rfl, hb4'⟩
    have HR4 := Lib.hid (HR3.out.later hb4')
    have HB4 := Lib.hid (HB3.out.trans (hb4'.mono HB3.out.size))
    clear hb4' HE HBx HFi HIi HR3 HB3 HF3 HO3
    have hres := HR4.out
    go_wp2_with (refine wpList_store_row rfl 25 (.tmp 2) (.tmp 45) rfl w.heap.size (#[.int .i64 0, .int .i64 0, .int .i64 0, .int .i64 0, .int .i64 0, .slice none 0 0, .slice none 0 0]) (by first | rfl | simp [go_sem]) (by first | rfl | simp [go_sem]) 25 _ hres (by kernel_rfl) rfl (by simp [Value.oneCell']) ?_)
    (try simp only [Exit.inBlock, Exit.then])
    refine bodyPost_ret (results_row_tmp2 (p := 2) (u := 3) (v := 4) (ty := 25) rfl _ _ w.heap.size 25 #[.int .i64 0, .int .i64 0, .int .i64 0, .int .i64 0, .int .i64 0, .slice none 0 0, .slice none 0 0] _ (by simp) (blo_row HR4.out #[.int .i64 0, .int .i64 0, .int .i64 0, .int .i64 0, .int .i64 0, .slice none 0 0, .slice none 0 0]) Try.underlying25 rfl (by kernel_rfl)) rfl ⟨below_setRow HB4.out (Nat.le_refl _) _, fun _ => rfl, fun h => by rw [HOk.out] at h; cases h⟩
end Go.Proofs.Ytkdjfhbdcfjnnaa
