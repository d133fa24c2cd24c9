/-
  What the inode map answers of an inode.
-/
import Derived.Test.YtbacfbdeeogkgaaImWhich
namespace Go.Proofs.Ytbacfbdeeogkgaa
open Go.RowKit Go.Maps

section
variable {w w' : World} {bm gs gd n N i : Nat} {A V : Nat → Int} {B : Nat → Bool}
set_option maxHeartbeats 400000 in
theorem known_no (ino : Int) (h : Im w bm gs gd n N A V B) (hi : ino < 2 ∨ (n : Int) < ino) :
    Calls Try.prog 35 #[.pointer (some ⟨bm, 0, none⟩), .int .i64 ino] w fun e w' => e = .returned (.bool false) ∧ w = w' := by
  have t0 := h.top.cell 0
  simp at t0
  clear h
  by_cases h1 : ino < 2
  · have i1 : ¬ (2 : Int) ≤ ino := by omega
    clear hi
    go_enter Try.func35, Try.ntmps35
    go_wp2
    go_ret
    exact ⟨by first | rfl | (simp; done) | (simp; omega), rfl⟩
  · have i1 : (2 : Int) ≤ ino := by omega
    have i2 : ¬ ino ≤ (n : Int) := by omega
    clear hi h1
    go_enter Try.func35, Try.ntmps35
    go_wp2
    go_ret
    exact ⟨by first | rfl | (simp; done) | (simp; omega), rfl⟩
set_option maxHeartbeats 400000 in
theorem get_no (ino : Int) (h : Im w bm gs gd n N A V B) (hi : ino < 2 ∨ (n : Int) < ino) :
    Calls Try.prog 24 #[.pointer (some ⟨bm, 0, none⟩), .int .i64 ino] w fun e w' => e = .returned (.tuple #[.int .i64 0, .int .i64 0, .bool false]) ∧ w = w' := by
  have HK := Lib.hid (known_no ino h hi)
  clear h hi
  go_enter Try.func24, Try.ntmps24
  go_wp2_with fail
  refine HK.out.mono ?_
  rintro e w1 ⟨rfl, rfl⟩
  go_wp2
  go_ret3
  exact ⟨rfl, rfl⟩
set_option maxHeartbeats 1000000 in
theorem get_yes (h : Im w bm gs gd n N A V B) (hi : i < n) (h1 : 1 ≤ i) (hn : n ≤ 200) :
    Calls Try.prog 24 #[.pointer (some ⟨bm, 0, none⟩), .int .i64 ((i : Int) + 1)] w fun e w' => e = .returned (.tuple #[.int .i64 (A i), .int .i64 (V i), .bool (B i)]) ∧ Below w.heap.size w w' := by
  have HK := Lib.hid (known_yes h hi h1 hn)
  have HS := Lib.hid (slot_any h hi hn)
  obtain ⟨c0, c1, c2⟩ := h.cell hi
  clear h
  generalize A i = ai at *
  generalize V i = vi at *
  generalize B i = bi at *
  go_enter Try.func24, Try.ntmps24
  go_wp2_with fail
  refine HK.out.mono ?_
  rintro e w1 ⟨rfl, rfl⟩
  go_wp2_with fail
  refine HS.out.mono ?_
  rintro e w1 ⟨rfl, rfl⟩
  go_wp2_with fail
  go_region
  go_wp2_with fail
  go_ret3
  exact ⟨rfl, (Below.refl _ _).drew⟩
end
end Go.Proofs.Ytbacfbdeeogkgaa
