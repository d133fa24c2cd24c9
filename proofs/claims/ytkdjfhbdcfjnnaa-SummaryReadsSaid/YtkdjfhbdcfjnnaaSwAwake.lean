/-
  summary.Decode at any slice; marllaw06.awake.
-/
import Derived.Test.YtkdjfhbdcfjnnaaSwDec
namespace Go.Proofs.Ytkdjfhbdcfjnnaa
open Go.RowKit

theorem decode_any {w : World} (a : Option Addr) (n cap : Nat) (l : List Nat) (hn : n = l.length) (hc : n ≤ cap) (hY : Bytes w a l) : Calls Try.prog 20 #[.slice a n cap] w fun e w' => DecO l w e w' := by
  by_cases h : n = 128
  · subst h
    obtain ⟨b, o, rfl, _⟩ := hY.2.2 (fun e => by rw [e] at hn; cases hn)
    exact decode_128 b o cap l hn.symm hc hY
  · exact decode_short a n cap l hn h (by rw [hn]; exact hY.2.1)
def m0 : Sm := ⟨0, 0, 0, 1, 0, [], []⟩
theorem m0_chk : chkM m0 = 0 := by decide
set_option maxHeartbeats 4000000 in
theorem awake_any (w : World) : Calls Try.prog 9 #[] w fun e w' => e = .returned (.bool true) ∧ Below w.heap.size w w' := by
  obtain ⟨E, hE⟩ : ∃ E, encM m0 7 = E := ⟨_, rfl⟩
  have hbk := enc_back m0 7 (good_of m0_chk) (by decide)
  have hlen := encM_len m0 7 (good_of m0_chk)
  have hok := ok_enc m0 7 m0_chk (by decide)
  have HEn := Lib.hid (fun (W : World) => encode_good (w := W) m0 7 none 0 0 none 0 0 m0_chk (Fis.nil _ _) rfl (Ints.nil _ _) rfl (by decide))
  rw [hE] at hbk hlen hok HEn
  have hp : at' (gat E 8) 1 = 1 := by
    have := congrArg Sm.p hbk.1
    have h2 : ((at' (gat E 8) 1 : Nat) : Int) = 1 := this
    omega
  have HBk := Lib.hid hbk.2.2
  have HLe := Lib.hid hlen
  have HOk := Lib.hid hok
  have HPp := Lib.hid hp
  have HB0 := Lib.hid (sup_pc w (.cells #[.int .i64 0, .int .i64 0, .int .i64 0, .int .i64 1, .int .i64 0, .slice none 0 0, .slice none 0 0] 25))
  have HX0 := Lib.hid (blo_laid w 25 #[.int .i64 0, .int .i64 0, .int .i64 0, .int .i64 1, .int .i64 0, .slice none 0 0, .slice none 0 0])
  clear hbk hlen hok hp
  go_enter Try.func9, Try.ntmps9
  go_wp2_with fail
  refine (HEn.out _).mono ?_
  rintro e w1 ⟨g, rfl, hgl, hfil, hb1⟩
  have hEb : Bytes w1 (some ⟨g, 0, none⟩) E := by
    have := hfil.bytes (by decide)
    rwa [show zpad 128 E = E by unfold zpad; rw [HLe.out]; simp] at this
  have HB1 := Lib.hid (HB0.out.trans (hb1.mono HB0.out.size))
  have HX1 := Lib.hid (HX0.out.later hb1)
  have HD := Lib.hid (decode_128 g 0 128 E HLe.out (by decide) hEb)
  clear hgl hfil hb1 hEb HB0 HX0 HEn
  go_wp2_with fail
  refine HD.out.mono ?_
  rintro e w2 ⟨hb2, -, hok2⟩
  obtain ⟨fa, fc, ia, ic, av, SB, hy⟩ := hok2 HOk.out
  obtain ⟨W, hW⟩ : ∃ W, gat E 8 = W := ⟨_, rfl⟩
  have hyq := hy.eq
  rw [hW] at hyq HPp HBk
  rw [HPp.out, HBk.out] at hyq
  subst hyq
  have HB2 := Lib.hid (HB1.out.trans (hb2.mono HB1.out.size))
  have HX2 := Lib.hid (HX1.out.later hb2)
  have hl2 := HX2.out.lt
  have c0 := HX2.out.cell 0
  have c1 := HX2.out.cell 1
  have c2 := HX2.out.cell 2
  have c3 := HX2.out.cell 3
  have c4 := HX2.out.cell 4
  have c5 := HX2.out.cell 5
  have c6 := HX2.out.cell 6
  simp at c0 c1 c2 c3 c4 c5 c6
  clear hb2 hok2 hy hW HB1 HX1 HD HPp HBk
  go_wp2_with fail
  have hb3 := sup_pc w2 (.cells #[.int .i64 (v2 E 0 : Nat), .int .i64 (v2 E 2 : Nat), .int .i64 (at' W 0 : Nat), .int .i64 1, .int .i64 (v2 W 2 : Nat), .slice fa (at' W 4) fc, .slice ia (at' W 5) ic] 25)
  have HB3 := Lib.hid (HB2.out.trans (hb3.mono HB2.out.size))
  have HX3 := Lib.hid (HX2.out.later hb3)
  have HQ3 := Lib.hid (blo_laid w2 25 #[.int .i64 (v2 E 0 : Nat), .int .i64 (v2 E 2 : Nat), .int .i64 (at' W 0 : Nat), .int .i64 1, .int .i64 (v2 W 2 : Nat), .slice fa (at' W 4) fc, .slice ia (at' W 5) ic])
  refine (size_any 0 0 0 1 0 none 0 0 none 0 0 (Fis.nil _ _) (l := []) rfl (by decide) (by decide)).mono ?_
  rintro e w4 ⟨rfl, hb4⟩
  have HB4 := Lib.hid (HB3.out.trans (hb4.mono HB3.out.size))
  have HX4 := Lib.hid (HX3.out.later hb4)
  have HQ4 := Lib.hid (HQ3.out.later hb4)
  clear hb3 hb4 HB3 HX3 HQ3 HX2 HB2 c0 c1 c2 c3 c4 c5 c6
  have c0 := HX4.out.cell 0
  have c1 := HX4.out.cell 1
  have c2 := HX4.out.cell 2
  have c3 := HX4.out.cell 3
  have c4 := HX4.out.cell 4
  have c5 := HX4.out.cell 5
  have c6 := HX4.out.cell 6
  simp at c0 c1 c2 c3 c4 c5 c6
  have hs0 : szF [] = 0 := rfl
  have hs1 : blF [] = 0 := rfl
  go_wp2_with fail
  refine (sblocks_any 0 0 0 1 0 none 0 0 none 0 0 (Fis.nil _ _) (l := []) rfl (by decide) (by decide)).mono ?_
  rintro e w5 ⟨rfl, hb5⟩
  have HB5 := Lib.hid (HB4.out.trans (hb5.mono HB4.out.size))
  have HQ5 := Lib.hid (HQ4.out.later hb5)
  have q3 := HQ5.out.cell 3
  simp at q3
  clear hb5 HB4 HX4 HQ4 c0 c1 c2 c3 c4 c5 c6
  go_wp2
  go_ret
  exact ⟨rfl, HB5.out⟩
end Go.Proofs.Ytkdjfhbdcfjnnaa
