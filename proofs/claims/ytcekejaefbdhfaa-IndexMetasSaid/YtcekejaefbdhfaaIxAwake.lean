/-
  The walk of the fixed fact: the document's examples.
-/
import Derived.Test.YtcekejaefbdhfaaIxMetas
namespace Go.Proofs.Ytcekejaefbdhfaa
open Go.RowKit

theorem to40 (w : World) : Calls Try.prog 13 #[.int .i64 40] w (ToN w 7 2 [-23, -38] [1, 2]) := by
  have h := to_n 40 w (by decide) (by decide) 2 (by decide)
  rw [show rPtr (fOf 40) = 7 by decide, show metasM (fOf 40) (lvOf 40) = [-23, -38] by decide, show slotsM (fOf 40) (lvOf 40) = [1, 2] by decide] at h
  exact h
theorem to278 (w : World) : Calls Try.prog 13 #[.int .i64 278] w (ToN w 8 3 [-280, -279, -278] [0, 0, 0]) := by
  have h := to_n 278 w (by decide) (by decide) 3 (by decide)
  rw [show rPtr (fOf 278) = 8 by decide, show metasM (fOf 278) (lvOf 278) = [-280, -279, -278] by decide, show slotsM (fOf 278) (lvOf 278) = [0, 0, 0] by decide] at h
  exact h
theorem metas23 (w : World) : Calls Try.prog 20 #[.int .i64 0, .int .i64 23] w (MetasOut w [-6, -23, -22]) := by
  have h := metas_good 0 23 w (by decide) (by decide) (by decide)
  rw [show mtsM 0 23 (23 : Int).toNat = [-6, -23, -22] by decide] at h
  exact h
theorem ints_yes (l : List Int) (a b : Option Addr) (n c d : Nat) (w : World) (hn : n = l.length) (hlt : n < 1000000000) (ha : Ints w a l) (hb : Ints w b l) :
    Calls Try.prog 19 #[.slice a n c, .slice b n d] w fun e w' => e = .returned (.bool true) ∧ Below w.heap.size w w' :=
  (ints_any l l a b n n c d w hn hn hlt ha hb).mono fun e w' ⟨h1, h2⟩ => ⟨by simpa using h1, h2⟩
set_option maxHeartbeats 2000000 in
theorem awake_any (w : World) : Calls Try.prog 10 #[] w fun e w' => e = .returned (.bool true) ∧ Below w.heap.size w w' := by
  have H1 := Lib.hid to40
  have H2 := Lib.hid to278
  have H3 := Lib.hid metas23
  go_enter Try.func10, Try.ntmps10
  go_wp2_with fail
  refine (H1.out _).mono ?_
  rintro e w1 ⟨a1, c1, a2, c2, rfl, hi1, hi2, hc1, hc2, hb1⟩
  have I1 := Lib.hid (hi1.below (sup_below w1 (.cells #[.int .i64 7, .slice a1 2 c1, .slice a2 2 c2] 30)))
  have I2 := Lib.hid (hi2.below (sup_below w1 (.cells #[.int .i64 7, .slice a1 2 c1, .slice a2 2 c2] 30)))
  have G1 := Lib.hid (blo_laid w1 30 #[.int .i64 7, .slice a1 2 c1, .slice a2 2 c2])
  have HB1 : Hid (Below w.heap.size w (w1.alloc (.cells #[.int .i64 7, .slice a1 2 c1, .slice a2 2 c2] 30))) := hb1.alloc hb1.size _
  clear hi1 hi2 hb1 H1
  go_wp2_with fail
  refine (H2.out _).mono ?_
  rintro e w2 ⟨b1, d1, b2, d2, rfl, hj1, hj2, hd1, hd2, hb2⟩
  have I1' := Lib.hid ((I1.out.below hb2).below (sup_below w2 (.cells #[.int .i64 8, .slice b1 3 d1, .slice b2 3 d2] 30)))
  have I2' := Lib.hid ((I2.out.below hb2).below (sup_below w2 (.cells #[.int .i64 8, .slice b1 3 d1, .slice b2 3 d2] 30)))
  have G1' := Lib.hid ((G1.out.later hb2).alloc (.cells #[.int .i64 8, .slice b1 3 d1, .slice b2 3 d2] 30))
  have J1 := Lib.hid (hj1.below (sup_below w2 (.cells #[.int .i64 8, .slice b1 3 d1, .slice b2 3 d2] 30)))
  have G2 := Lib.hid (blo_laid w2 30 #[.int .i64 8, .slice b1 3 d1, .slice b2 3 d2])
  have HB2 : Hid (Below w.heap.size w (w2.alloc (.cells #[.int .i64 8, .slice b1 3 d1, .slice b2 3 d2] 30))) := (HB1.out.trans (hb2.mono HB1.out.size)).alloc (HB1.out.trans (hb2.mono HB1.out.size)).size _
  clear hj1 hj2 hb2 H2 I1 I2 G1 HB1
  go_wp2_with fail
  refine (H3.out _).mono ?_
  rintro e w3 ⟨v, rfl, hv, hb3⟩
  obtain ⟨am, cm, rfl, hcm⟩ := own_slice hv
  have K := Lib.hid (Ints.own hv)
  have I1 := Lib.hid (I1'.out.below hb3)
  have I2 := Lib.hid (I2'.out.below hb3)
  have J := Lib.hid (J1.out.below hb3)
  have G1 := Lib.hid (G1'.out.later hb3)
  have G2' := Lib.hid (G2.out.later hb3)
  have HB3 : Hid (Below w.heap.size w w3) := HB2.out.trans (hb3.mono HB2.out.size)
  clear hv hb3 H3 I1' I2' J1 G1' G2 HB2
  generalize w1.heap.size = g1 at *
  generalize w2.heap.size = g2 at *
  have p0 := G1.out.cell 0
  have p1 := G1.out.cell 1
  simp at p0 p1
  go_wp2_with fail
  refine (ints_yes [-23, -38] _ _ 2 _ _ _ rfl (by decide) (I1.out.below (sup_below _ _)) (Ints.laid _ _ _ _ rfl)).mono ?_
  rintro e w4 ⟨rfl, hb4⟩
  have hx4 := (sup_below w3 _).trans (hb4.mono (by simp))
  have G1' := Lib.hid (G1.out.later hx4)
  have G2 := Lib.hid (G2'.out.later hx4)
  have I2' := Lib.hid (I2.out.below hx4)
  have J' := Lib.hid (J.out.below hx4)
  have K' := Lib.hid (K.out.below hx4)
  have HB4 : Hid (Below w.heap.size w w4) := HB3.out.trans (hx4.mono HB3.out.size)
  clear p0 p1 hb4 hx4 G1 G2' I1 I2 J K HB3
  have p2 := G1'.out.cell 2
  simp at p2
  go_wp2_with fail
  refine (ints_yes [1, 2] _ _ 2 _ _ _ rfl (by decide) (I2'.out.below (sup_below _ _)) (Ints.laid _ _ _ _ rfl)).mono ?_
  rintro e w5 ⟨rfl, hb5⟩
  have hx5 := (sup_below w4 _).trans (hb5.mono (by simp))
  have G2' := Lib.hid (G2.out.later hx5)
  have J := Lib.hid (J'.out.below hx5)
  have K := Lib.hid (K'.out.below hx5)
  have HB5 : Hid (Below w.heap.size w w5) := HB4.out.trans (hx5.mono HB4.out.size)
  clear p2 hb5 hx5 G1' G2 I2' J' K' HB4
  have q1 := G2'.out.cell 1
  simp at q1
  go_wp2_with fail
  refine (ints_yes [-280, -279, -278] _ _ 3 _ _ _ rfl (by decide) (J.out.below (sup_below _ _)) (Ints.laid _ _ _ _ rfl)).mono ?_
  rintro e w6 ⟨rfl, hb6⟩
  have hx6 := (sup_below w5 _).trans (hb6.mono (by simp))
  have K' := Lib.hid (K.out.below hx6)
  have HB6 : Hid (Below w.heap.size w w6) := HB5.out.trans (hx6.mono HB5.out.size)
  clear q1 hb6 hx6 G2' J K HB5
  go_wp2_with fail
  refine (ints_yes [-6, -23, -22] _ _ 3 _ _ _ rfl (by decide) (K'.out.below (sup_below _ _)) (Ints.laid _ _ _ _ rfl)).mono ?_
  rintro e w7 ⟨rfl, hb7⟩
  have hx7 := (sup_below w6 _).trans (hb7.mono (by simp))
  have HB7 : Hid (Below w.heap.size w w7) := HB6.out.trans (hx7.mono HB6.out.size)
  clear hb7 hx7 K' HB6
  go_wp2_with fail
  go_ret
  exact ⟨rfl, HB7.out⟩
end Go.Proofs.Ytcekejaefbdhfaa
