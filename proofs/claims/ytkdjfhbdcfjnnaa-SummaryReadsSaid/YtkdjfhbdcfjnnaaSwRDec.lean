/-
  The document's Decode of any bytes.
-/
import Derived.Test.YtkdjfhbdcfjnnaaSwRDl
import Derived.Test.YtkdjfhbdcfjnnaaSwRDt
import Derived.BigRegion
import Derived.Deep.CutBlock
import Derived.Deep.DeepCutAuto
namespace Go.Proofs.Ytkdjfhbdcfjnnaa
open Go.RowKit

set_option maxRecDepth 100000 in
set_option maxHeartbeats 16000000 in
theorem rdecode_128 {w : World} (b o cap : Nat) (l : List Nat) (hl : l.length = 128) (hcap : 128 ≤ cap) (hY : Bytes w (some ⟨b, o, none⟩) l) : Calls Try.prog 22 #[.slice (some ⟨b, o, none⟩) 128 cap] w fun e w' => DecO l w e w' := by
  obtain ⟨b', o', e1, hc⟩ := hY.2.2 (fun e => by rw [e] at hl; cases hl)
  cases e1
  have HY := Lib.hid hY
  have HL := Lib.hid hl
  have HCp := Lib.hid hcap
  have hl1 := sup_pc w (.cells zP7 25)
  have hl2 := hl1.trans ((sup_pc (w.alloc (.cells zP7 25)) (.cells zP7 25)).mono hl1.size)
  have a0 := cell_later hl1 (hc 0 (by omega))
  have a1 := cell_later hl1 (hc 1 (by omega))
  have a2 := cell_later hl1 (hc 2 (by omega))
  have a3 := cell_later hl1 (hc 3 (by omega))
  have b0 := cell_later hl2 (hc 0 (by omega))
  have b1 := cell_later hl2 (hc 1 (by omega))
  have b2 := cell_later hl2 (hc 2 (by omega))
  have b3 := cell_later hl2 (hc 3 (by omega))
  have q0 := getD_byte hY.1 0
  have q1 := getD_byte hY.1 1
  have q2 := getD_byte hY.1 2
  have q3 := getD_byte hY.1 3
  have HV0 : Hid (((v2 l 0 : Nat) : Int) = (l.getD 0 0 : Nat) + 256 * (l.getD 1 0 : Nat)) := by
    have : v2 l 0 = l.getD 0 0 + 256 * l.getD 1 0 := rfl
    show _ = _; rw [this]; omega
  have HV2 : Hid (((v2 l 2 : Nat) : Int) = (l.getD 2 0 : Nat) + 256 * (l.getD 3 0 : Nat)) := by
    have : v2 l 2 = l.getD 2 0 + 256 * l.getD 3 0 := rfl
    show _ = _; rw [this]; omega
  generalize l.getD 0 0 = x0 at *
  generalize l.getD 1 0 = x1 at *
  generalize l.getD 2 0 = x2 at *
  generalize l.getD 3 0 = x3 at *
  rw [Nat.add_zero] at a0 b0
  clear hc hl hY hl1 hl2 hcap
  go_enter Try.func22, Try.ntmps22
  go_wp2_with fail
  go_region
  have m1 := sup_pc w (.cells #[.int .i64 0, .int .i64 0, .int .i64 0, .int .i64 0, .int .i64 0, .slice none 0 0, .slice none 0 0] 25)
  have m2 := sup_pc (w.alloc (.cells #[.int .i64 0, .int .i64 0, .int .i64 0, .int .i64 0, .int .i64 0, .slice none 0 0, .slice none 0 0] 25)) (.cells #[.int .i64 ((x0 : Int) + 256 * (x1 : Int)), .int .i64 ((x2 : Int) + 256 * (x3 : Int)), .int .i64 0, .int .i64 0, .int .i64 0, .slice none 0 0, .slice none 0 0] 25)
  have HR1 := Lib.hid (((blo_laid w 25 zP7).alloc (.cells #[.int .i64 ((x0 : Int) + 256 * (x1 : Int)), .int .i64 ((x2 : Int) + 256 * (x3 : Int)), .int .i64 0, .int .i64 0, .int .i64 0, .slice none 0 0, .slice none 0 0] 25)).drew)
  have HT1 := Lib.hid ((blo_laid (w.alloc (.cells #[.int .i64 0, .int .i64 0, .int .i64 0, .int .i64 0, .int .i64 0, .slice none 0 0, .slice none 0 0] 25)) 25 #[.int .i64 ((x0 : Int) + 256 * (x1 : Int)), .int .i64 ((x2 : Int) + 256 * (x3 : Int)), .int .i64 0, .int .i64 0, .int .i64 0, .slice none 0 0, .slice none 0 0]).drew)
  have HB1 := Lib.hid ((m1.trans (m2.mono m1.size)).drew)
  have hPs : (w.alloc (.cells #[.int .i64 0, .int .i64 0, .int .i64 0, .int .i64 0, .int .i64 0, .slice none 0 0, .slice none 0 0] 25)).heap.size = w.heap.size + 1 := by simp
  rw [hPs] at HT1
  rw [← HV0.out, ← HV2.out] at HR1 HT1 HB1
  rw [← HV0.out, ← HV2.out]
  clear m1 m2 hPs a0 a1 a2 a3 b0 b1 b2 b3 HV0 HV2 q0 q1 q2 q3
  have hz1 := HT1.out.lt
  have hPl : w.heap.size < w.heap.size + 1 := by omega
  generalize ((w.alloc (.cells #[.int .i64 0, .int .i64 0, .int .i64 0, .int .i64 0, .int .i64 0, .slice none 0 0, .slice none 0 0] 25)).alloc (.cells #[.int .i64 (v2 l 0 : Nat), .int .i64 (v2 l 2 : Nat), .int .i64 0, .int .i64 0, .int .i64 0, .slice none 0 0, .slice none 0 0] 25)).drew = w1 at *
  generalize w.heap.size + 1 = P at *
  go_wp2_with fail
  go_loopw [6, 7] (fun v t wr => GaR w P (v2 l 0 : Nat) (v2 l 2 : Nat) l v t wr) (fun _ t _ => 8 - (intOf t).toNat)
  case atStart => exact ⟨0, none, 0, by omega, rfl, rfl, ⟨by simp [gat, cellsB], .inl ⟨rfl, rfl⟩⟩, HR1.out, HT1.out, HB1.out, hz1⟩
  case round =>
    clear HR1 HT1 HB1 hz1
    obtain ⟨k, a, cp, hk, rfl, rfl, ho, hr, ht, hb, hz⟩ := hrel
    have HO := Lib.hid ho
    have HR := Lib.hid hr
    have HT := Lib.hid ht
    have HB := Lib.hid hb
    clear ho hr ht hb
    by_cases hlt : k < 8
    · have hcut := fun W => cut_eleven b o cap k hlt HCp.out W
      have HSrc : Hid (Bytes wr (some ⟨b, o + (16 * k + 5), none⟩) ((l.drop (16 * k + 5)).take 11) ∧ 11 = ((l.drop (16 * k + 5)).take 11).length) := by
        have hl := HL.out
        exact ⟨bytes_part (HY.out.below HB.out) (16 * k + 5) 11 (by omega) (by decide), by rw [List.length_take, List.length_drop]; omega⟩
      have HG := Lib.hid (gat_succ l k)
      have HGl := Lib.hid (gat_lt HY.out.1 k)
      have hk8 : (k : Int) < 8 := by omega
      go_wp2_with (at_builtin; refine wp_append_bytes rfl (.tmp 44) (.tmp 52) 30 rfl (P + 1) U8 Try.underlying30 info_u8 (.slice a (11 * k) cp) (11 * k) (gat l k) rfl HO.out HGl.out (some ⟨b, o + (16 * k + 5), none⟩) 11 (cap - (16 * k + 5)) ((l.drop (16 * k + 5)).take 11) rfl HSrc.out.2 HSrc.out.1 (fun h => by cases h) (by omega) hz ?_; intro a5 c5 w8 ho hgr hBy hN; have HO8 := Lib.hid ho; have HG8 := Lib.hid hgr; clear ho hgr hBy hN)
      rw [← HG.out] at HO8
      have HR8 := Lib.hid (HR.out.grown HG8.out (HR.out.row_apart HO.out (by decide)))
      have HT8 := Lib.hid (HT.out.grown HG8.out (HT.out.row_apart HO.out (by decide)))
      have HB8 := Lib.hid (HB.out.grown HG8.out HB.out.size (fun j e => by have := (oblo HO.out e).1; omega))
      have hz8 := HG8.out.size
      go_roundw
      case rel => exact ⟨k + 1, a5, c5, by omega, by simp, rfl, HO8.out, HR8.out, HT8.out, HB8.out, by omega⟩
      case measure => simp [intOf]; omega
    · obtain rfl : 8 = k := by omega
      have HD : Hid (Dr w (gat l 8) (v2 l 0 : Nat) (v2 l 2 : Nat) 0 0 0 P (.slice none 0 0) (.slice none 0 0) (.slice a (11 * 8) cp) wr) := ⟨HR.out, HT.out, HO.out, HB.out, by omega⟩
      have HWl := Lib.hid (gat_lt HY.out.1 8)
      have HW8 := Lib.hid (gat_len HL.out)
      have HYw := Lib.hid (HY.out.below HB.out)
      clear HO HR HT HB
      change Hid (Dr w (gat l 8) _ _ _ _ _ P _ _ (.slice a 88 cp) wr) at HD
      obtain ⟨W, hW⟩ : ∃ W, W = gat l 8 := ⟨_, rfl⟩
      rw [← hW] at HD HWl HW8
      have HWe := Lib.hid hW
      clear hW
      have HBL : Hid (∀ i, at' W i < 256) := fun i => at_lt HWl.out i
      go_wp2_with fail
      refine (HD.out.at_ HWl.out HW8.out 0 (by decide)).mono ?_
      rintro e w2 ⟨rfl, rfl⟩
      have p2 := HD.out.pt.cell 2
      have f2 := HD.out.pt.frozen 2
      simp at p2
      go_wp2_with fail
      have HD2 := Lib.hid (HD.out.put2 (at' W 0 : Nat))
      clear HD p2 f2
      generalize wr.setCell ⟨P, 2, none⟩ (.int .i64 (at' W 0 : Nat)) = w2 at *
      refine (HD2.out.at_ HWl.out HW8.out 1 (by decide)).mono ?_
      rintro e w3 ⟨rfl, rfl⟩
      have p3 := HD2.out.pt.cell 3
      have f3 := HD2.out.pt.frozen 3
      simp at p3
      go_wp2_with fail
      have HD3 := Lib.hid (HD2.out.put3 (at' W 1 : Nat))
      clear HD2 p3 f3
      generalize w2.setCell ⟨P, 3, none⟩ (.int .i64 (at' W 1 : Nat)) = w3 at *
      refine (HD3.out.at_ HWl.out HW8.out 2 (by decide)).mono ?_
      rintro e w4 ⟨rfl, rfl⟩
      go_wp2_with fail
      refine (HD3.out.at_ HWl.out HW8.out 3 (by decide)).mono ?_
      rintro e w4 ⟨rfl, rfl⟩
      have p4 := HD3.out.pt.cell 4
      have f4 := HD3.out.pt.frozen 4
      simp at p4
      have q2 := HBL.out 2
      have q3 := HBL.out 3
      have HX : Hid (((v2 W 2 : Nat) : Int) = (at' W 2 : Nat) + 256 * (at' W 3 : Nat)) := by
        have : v2 W 2 = at' W 2 + 256 * at' W 3 := rfl
        show _ = _; rw [this]; omega
      generalize at' W 2 = y2 at *
      generalize at' W 3 = y3 at *
      go_wp2_with fail
      rw [← HX.out]
      have HD4 := Lib.hid (HD3.out.put4 (v2 W 2 : Nat))
      clear HD3 p4 f4 HX q2 q3
      generalize w3.setCell ⟨P, 4, none⟩ (.int .i64 (v2 W 2 : Nat)) = w4 at *
      have q6 := HBL.out 6
      have q7 := HBL.out 7
      have q8 := HBL.out 8
      have q9 := HBL.out 9
      have HSm : Hid (((sumM W : Nat) : Int) = (at' W 6 : Nat) + 256 * (at' W 7 : Nat) + 65536 * (at' W 8 : Nat) + 16777216 * (at' W 9 : Nat)) := by
        have : sumM W = at' W 6 + 256 * at' W 7 + 65536 * at' W 8 + 16777216 * at' W 9 := rfl
        show _ = _; rw [this]; omega
      have hA6 := HD4.out.at_ HWl.out HW8.out 6 (by decide)
      have hA7 := HD4.out.at_ HWl.out HW8.out 7 (by decide)
      have hA8 := HD4.out.at_ HWl.out HW8.out 8 (by decide)
      have hA9 := HD4.out.at_ HWl.out HW8.out 9 (by decide)
      have HA6 := Lib.hid hA6
      have HA7 := Lib.hid hA7
      have HA8 := Lib.hid hA8
      have HA9 := Lib.hid hA9
      clear hA6 hA7 hA8 hA9
      generalize at' W 6 = y6 at *
      generalize at' W 7 = y7 at *
      generalize at' W 8 = y8 at *
      generalize at' W 9 = y9 at *
      refine HA6.out.mono ?_
      rintro e w5 ⟨rfl, rfl⟩
      go_wp2_with fail
      refine HA7.out.mono ?_
      rintro e w5 ⟨rfl, rfl⟩
      go_wp2_with fail
      refine HA8.out.mono ?_
      rintro e w5 ⟨rfl, rfl⟩
      go_wp2_with fail
      refine HA9.out.mono ?_
      rintro e w5 ⟨rfl, rfl⟩
      go_upto_block 2 with fail
      rw [← HSm.out]
      clear HA6 HA7 HA8 HA9 q6 q7 q8 q9
      have hb4 := HBL.out 4
      have hb5 := HBL.out 5
      have hs9 : sumM W < 4294967296 := by
        have b6 := HBL.out 6
        have b7 := HBL.out 7
        have b8 := HBL.out 8
        have b9 := HBL.out 9
        unfold sumM
        omega
      clear HYw
      refine dec_loop2 HWl.out HW8.out P _ _ _ _ _ a cp (at' W 4) rfl HD4.out _ _ _ _ _ _ _ _ _ _ _ _ _ _ _ _ _ _ _ _ _ _ _ _ _ _ _ _ _ _ _ _ _ _ _ _ _ _ _ _ _ _ _ _ _ _ _ _ _ _ _ _ _ _ _ _ _ _ _ _ _ _ _ _ _ _ _ _ _ _ _ _ _ _ _ _ _ _ _ _ _ _ _ _ _ _ _ _ _ _ _ _ _ _ _ _ _ _ _ _ _ _ _ _ _ _ _ _ _ _ _ _ _ _ _ _ _ _ _ _ _ _ _ _ _ _ _ _ _ _ _ _ _ _ _ _ _ _ _ _ _ _ _ _ _ _ _ _ _ _ _ _ _ _ _ _ _ _ _ _ _ _ _ _ _ _ _ _ _ _ _ _ _ _ _ _ _ _ _ (fun c x q v W' h => by cases q <;> exact h) ?_
      intro u9 u10 u11 u12 u13 u85 u86 u87 u88 u89 u90 u91 u92 u93 u94 u95 u96 u97 u98 u99 u100 u101 u102 u103 u104 u105 u106 u107 u108 u109 u110 u111 u112 u113 u114 u115 u116 u117 u118 u119 u120 u121 u122 u123 u124 u125 u126 u127 u128 u129 u130 u131 u132 u133 u134 u135 u136 u137 u138 u139 u140 u141 u142 u143 u144 u145 u146 wx hcut
      clear HD4
      obtain ⟨k, fa, fc, av, hk, rfl, hpl, hst, hp200, hD, hFo, hSep, hsz⟩ := hcut
      have HP := Lib.hid hD
      have HF := Lib.hid hFo
      have HPl := Lib.hid hpl
      have HSt := Lib.hid hst
      have HSep := Lib.hid hSep
      have hl1 := hD.lo
      have HLt := Lib.hid hFo.lt
      have hwF := hD.lt
      clear hD hFo hpl hst hSep
      go_upto_block 6 with fail
      refine dec_loop4 HWl.out HW8.out P _ _ _ _ _ a cp (.slice fa k fc) k (at' W 4) (at' W 5) rfl av wx.heap.size (posD W k) hp200 hsz hwF HLt.out HP.out HF.out (Nat.le_refl _) _ _ _ _ _ _ _ _ _ _ _ _ _ _ _ _ _ _ _ _ _ _ _ _ _ _ _ _ _ _ _ _ _ _ _ _ _ _ _ _ _ _ _ _ _ _ _ _ _ _ _ _ _ _ _ _ _ _ _ _ _ _ _ _ _ _ _ _ _ _ _ _ _ _ _ _ _ _ _ _ _ _ _ _ _ _ _ _ _ _ _ _ _ _ _ _ _ _ _ _ _ _ _ _ _ _ _ _ _ _ _ _ _ _ _ _ _ _ _ _ _ _ _ _ _ _ _ _ _ _ _ _ _ _ _ _ _ _ _ _ _ _ _ _ _ _ _ _ _ _ _ _ _ _ _ _ _ _ _ _ _ _ _ _ _ _ _ _ _ _ _ _ _ _ _ _ _ _ _ (fun c x q v W' h => by cases q <;> exact h) ?_
      intro u9 u14 u147 u148 u149 u150 u151 u152 u153 u154 u155 u156 u157 u158 u159 u160 u161 u162 u163 u164 u165 u166 wy hcut
      obtain ⟨j, ia, ic, hj, hjp, hjs, hP, hO, hF, hwy⟩ := hcut
      clear HP HF
      have hF2 := hF.congr (l' := filesD W k) (fun i hi => by rw [filesD_get W (by omega), filesD_get W hi])
      have hdp : DocP (gat l 8) k j := by
        rw [← HWe.out]
        exact ⟨hk, HPl.out, HSt.out, hj, hjp, hjs⟩
      have hds := doc_same HY.out.1 HL.out hdp
      have hE : okB l = true → RDo w l (docM l k j) (sumM W) k j av wx.heap.size := fun hok => ⟨hds.2 hok, by rw [HWe.out], by show k = (filesD (gat l 8) k).length; rw [filesD_len], by show j = (inosM (gat l 8) _ j).length; rw [inosM_len], fun i g hi hg => HLt.out.2 i hi g hg, HSep.out, by omega⟩
      rename_i K31 h31
      refine h31 _ _ ?_
      exact dec_tail (m := docM l k j) hE (by rw [HWe.out]; exact hds.1) hs9 (by show k = (filesD (gat l 8) k).length; rw [filesD_len]) (by show j = (inosM (gat l 8) _ j).length; rw [inosM_len]) (by omega)
        (Nat.le_trans (szF_filesD (gat l 8) k) (by omega)) (by omega) (lb_filesD (gat l 8) (by rw [← HWe.out]; exact HBL.out) k) b o cap HL.out HY.out fa fc ia ic
        (by have h := hP; rw [HWe.out] at h; exact h) (by have h := hF2; rw [HWe.out] at h; exact h) (by have h := hO; rw [HWe.out] at h; exact h) _ _ _ _ _ _ _ _ _ _ _ _ _ _ _ _ _ _ _ _ _ _ _ _ _ _ _ _ _ _ _ _ _ _ _ _ _ _ _ _ _ _ _ _ _ _ _ _ _ _ _ _ _ _ _ _ _ _ _ _ _ _ _ _ _ _ _ _ _ _ _ _ _ _ _ _ _ _ _ _ _ _ _ _ _ _ _ _ _ _ _ _ _ _ _ _ _ _ _ _ _ _ _ _ _ _ _ _ _ _ _ _ _ _ _ _ _ _ _ _ _ _ _ _ _ _ _ _ _ _ _ _ _ _ _ _ _ _ _ _ _ _ _ _ _ _ _ _ _ _ _ _ _ _ _ _ _ _ _ _ _ _ _ _ _ _ _ _ _ _ _ _ _ _ _ _ _ _
set_option maxRecDepth 100000 in
set_option maxHeartbeats 4000000 in
theorem rdecode_any {w : World} (a : Option Addr) (n cap : Nat) (l : List Nat) (hn : n = l.length) (hc : n ≤ cap) (hY : Bytes w a l) : Calls Try.prog 22 #[.slice a n cap] w fun e w' => DecO l w e w' := by
  by_cases h : n = 128
  · subst h
    obtain ⟨b, o, rfl, _⟩ := hY.2.2 (fun e => by rw [e] at hn; cases hn)
    exact rdecode_128 b o cap l hn.symm hc hY
  · have h9 : n ≤ 9223372036854775807 := by rw [hn]; exact hY.2.1
    have HO : Hid (okB l = false) := by show _ = _; unfold okB; rw [decide_eq_false (by omega)]; rfl
    have hb := sup_pc w (.cells #[.int .i64 0, .int .i64 0, .int .i64 0, .int .i64 0, .int .i64 0, .slice none 0 0, .slice none 0 0] 25)
    have hres := blo_laid w 25 #[.int .i64 0, .int .i64 0, .int .i64 0, .int .i64 0, .int .i64 0, .slice none 0 0, .slice none 0 0]
    have hi : ((n : Int) != 128) = true := by simp; omega
    have hi2 : ((n : Int) == 128) = false := by simp; omega
    have hi3 : ¬ (n : Int) = 128 := by omega
    have HB := Lib.hid hb
    have HR := Lib.hid hres
    clear hY hc hb hres
    go_enter Try.func22, Try.ntmps22
    go_wp2_with (refine wpList_store_row rfl 25 (.tmp 2) (.tmp 18) rfl w.heap.size (#[.int .i64 0, .int .i64 0, .int .i64 0, .int .i64 0, .int .i64 0, .slice none 0 0, .slice none 0 0]) (by first | rfl | simp [go_sem]) (by first | rfl | simp [go_sem]) 25 _ hres (by kernel_rfl) rfl (by simp [Value.oneCell']) ?_)
    (try simp only [Exit.inBlock, Exit.then])
    refine bodyPost_ret (results_row_tmp2 (p := 2) (u := 3) (v := 4) (ty := 25) rfl _ _ w.heap.size 25 #[.int .i64 0, .int .i64 0, .int .i64 0, .int .i64 0, .int .i64 0, .slice none 0 0, .slice none 0 0] _ (by simp) HR.out Try.underlying25 rfl (by kernel_rfl)) rfl ⟨HB.out, fun _ => rfl, fun h => by rw [HO.out] at h; cases h⟩
end Go.Proofs.Ytkdjfhbdcfjnnaa
