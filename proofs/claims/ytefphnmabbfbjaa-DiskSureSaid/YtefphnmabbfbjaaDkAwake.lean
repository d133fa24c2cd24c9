/-
  The walk of awake.
-/
import Derived.Test.YtefphnmabbfbjaaDkBytes
import Derived.Deep.QuietTactic
namespace Go.Proofs.Ytefphnmabbfbjaa
open Go.RowKit

theorem awake_fact : (crashD (putD (putD (newD 2) 1 (byt [1])) 1 (byt [2])) [true] 1 2).N 1 = L64 (fun j => if 16 ≤ j ∧ j < 32 then 2 else 1) := by
  decide +kernel
set_option maxRecDepth 100000 in
set_option maxHeartbeats 2000000 in
theorem awake_any (w : World) : Calls Try.prog 10 #[] w fun e w' => e = .returned (.bool true) ∧ Below w.heap.size w w' := by
  have hone : ∀ (W : World) (x : Nat), x < 256 → Calls Try.prog 16 #[.slice (some ⟨W.heap.size, 0, none⟩) 1 1] (W.alloc (.cells #[.int .u8 (x : Int)] U8)) (BytO (W.alloc (.cells #[.int .u8 (x : Int)] U8)) (byt [x])) := fun W x hx =>
    bytes_any _ 1 1 [x] _ rfl (by decide) (bytes_one W x hx)
  have HOne := Lib.hid hone
  clear hone
  go_enter Try.func10, Try.ntmps10
  go_wp2_with fail
  refine (new_any 2 w (by decide) (by decide)).mono ?_
  rintro e w1 ⟨L, rfl, hD, hb⟩
  have HD := Lib.hid hD
  have HB := Lib.hid hb
  clear hD hb
  go_wp2_with fail
  refine (HOne.out w1 1 (by decide)).mono ?_
  rintro e w2 ⟨g1, rfl, hk1, hg1, hb2⟩
  have hs1 : Below w1.heap.size w1 w2 := ((Below.refl _ _).alloc (Nat.le_refl _) _).trans (hb2.mono (by simp))
  have HD2 := Lib.hid (HD.out.later hs1)
  have HB2 := Lib.hid (HB.out.trans (hs1.mono HB.out.size))
  have HK1 := Lib.hid hk1
  clear hk1 hg1 hb2 hs1 HD HB
  go_wp2_with fail
  refine (write_yes 1 g1 64 (byt [1]) (by decide) (by decide) (by decide) (by decide) (by decide) HK1.out HD2.out).mono ?_
  intro e w3 hO
  obtain ⟨rfl, L3, e3, hD3, hb3⟩ := hO.use HD2.out HB2.out (Nat.le_refl _) (Nat.le_refl _)
  have HD3 := Lib.hid hD3
  have HB3 := Lib.hid hb3
  rw [← e3]
  clear hO hD3 hb3 HD2 HB2 HK1 e3
  go_wp2_with fail
  refine (HOne.out w3 2 (by decide)).mono ?_
  rintro e w4 ⟨g2, rfl, hk2, hg2, hb4⟩
  have hs2 : Below w3.heap.size w3 w4 := ((Below.refl _ _).alloc (Nat.le_refl _) _).trans (hb4.mono (by simp))
  have HD4 := Lib.hid (HD3.out.later hs2)
  have HB4 := Lib.hid (HB3.out.trans (hs2.mono HB3.out.size))
  have HK2 := Lib.hid hk2
  clear hk2 hg2 hb4 hs2 HD3 HB3 HOne
  go_wp2_with fail
  refine (write_yes (d := putD (newD 2) 1 (byt [1])) 1 g2 64 (byt [2]) (show 1 < 2 by decide) rfl (show (0 : Int) ≤ 0 by decide) (show (0 : Int) + 1 < 1000000 by decide) (show 0 + 1 < 1000000 by decide) HK2.out HD4.out).mono ?_
  intro e w5 hO
  obtain ⟨rfl, L5, e5, hD5, hb5⟩ := hO.use HD4.out HB4.out (Nat.le_refl _) (Nat.le_refl _)
  have HD5 := Lib.hid hD5
  have HB5 := Lib.hid hb5
  rw [← e5]
  clear hO hD5 hb5 HD4 HB4 HK2 e5
  go_wp2_with fail
  have hs5 : Below w5.heap.size w5 (w5.alloc (.cells #[.bool true] 4)) := (Below.refl _ _).alloc (Nat.le_refl _) _
  have HK5 : Hid (Bools (w5.alloc (.cells #[.bool true] 4)) (some ⟨w5.heap.size, 0, none⟩) [true]) := fun _ => ⟨w5.heap.size, 0, rfl, fun i hi => by
    simp at hi; subst hi
    exact (blo_laid w5 4 #[.bool true]).cell 0⟩
  refine (crash_any (HD5.out.later hs5) _ [true] 1 1 rfl (by decide) HK5.out 1 2).mono ?_
  rintro e w6 ⟨Lc, rfl, hDc, hb6⟩
  have HDc := Lib.hid hDc
  have HB6 := Lib.hid (HB5.out.trans ((hs5.trans (hb6.mono (by simp))).mono HB5.out.size))
  clear hDc hb6 hs5 HK5 HD5 HB5
  go_wp2_with fail
  refine (read_yes 1 (show 1 < 2 by decide) HDc.out).mono ?_
  rintro e w7 ⟨gr, rfl, hr, hgr, hb7⟩
  rw [awake_fact] at hr
  have HB7 := Lib.hid (HB6.out.trans (hb7.mono HB6.out.size))
  have c : ∀ j, j < 64 → w7.cell? ⟨gr, j, none⟩ = some (.int .u8 ((if 16 ≤ j ∧ j < 32 then 2 else 1 : Nat) : Int)) := fun j hj => by
    rw [hr.1.cell, List.getElem?_toArray, cellsB_get _ _ (by rw [L64_length]; exact hj), L64_get _ _ hj]
  have c15 := c 15 (by decide)
  have c16 := c 16 (by decide)
  have c31 := c 31 (by decide)
  have c32 := c 32 (by decide)
  simp at c15 c16 c31 c32
  clear c hr hgr hb7 HDc HB6
  go_wp2
  go_ret
  exact ⟨rfl, HB7.out⟩
end Go.Proofs.Ytefphnmabbfbjaa
