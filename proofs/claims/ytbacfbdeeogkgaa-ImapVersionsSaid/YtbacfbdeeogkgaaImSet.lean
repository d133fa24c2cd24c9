/-
  The inode map's walks: Set, and Free, at any number from 1 on.
-/
import Derived.Test.YtbacfbdeeogkgaaImLast
namespace Go.Proofs.Ytbacfbdeeogkgaa
open Go.RowKit Go.Maps

theorem upd_self {α : Type} (f : Nat → α) (i : Nat) : upd f i (f i) = f := by
  funext j
  unfold upd
  split
  · next e => rw [e]
  · rfl
section
variable {w w' : World} {bm gs gd n N i C : Nat} {A V : Nat → Int} {B : Nat → Bool}
set_option maxHeartbeats 400000 in
theorem known_one (h : Im w bm gs gd n N A V B) (hn : n ≤ 200) :
    Calls Try.prog 35 #[.pointer (some ⟨bm, 0, none⟩), .int .i64 1] w fun e w' => e = .returned (.bool false) ∧ w = w' := by
  clear h
  go_enter Try.func35, Try.ntmps35
  go_wp2
  go_ret
  exact ⟨rfl, rfl⟩
set_option maxHeartbeats 400000 in
theorem set_one (a : Int) (h : Im w bm gs gd n N A V B) (hn : n ≤ 200) :
    Calls Try.prog 14 #[.pointer (some ⟨bm, 0, none⟩), .int .i64 1, .int .i64 a] w fun e w' => e = .returned (.int .i64 22) ∧ w = w' := by
  have HK := Lib.hid (known_one h hn)
  clear h
  go_enter Try.func14, Try.ntmps14
  go_wp2_with fail
  refine HK.out.mono ?_
  rintro e w1 ⟨rfl, rfl⟩
  go_wp2
  go_ret
  exact ⟨rfl, rfl⟩
set_option maxHeartbeats 400000 in
theorem free_one (h : Im w bm gs gd n N A V B) (hn : n ≤ 200) :
    Calls Try.prog 15 #[.pointer (some ⟨bm, 0, none⟩), .int .i64 1] w fun e w' => e = .returned (.int .i64 22) ∧ w = w' := by
  have HK := Lib.hid (known_one h hn)
  clear h
  go_enter Try.func15, Try.ntmps15
  go_wp2_with fail
  refine HK.out.mono ?_
  rintro e w1 ⟨rfl, rfl⟩
  go_wp2
  go_ret
  exact ⟨rfl, rfl⟩
set_option maxHeartbeats 1000000 in
theorem set_no (a : Int) (h : Im w bm gs gd n N A V B) (hi : i < n) (h1 : 1 ≤ i) (hn : n ≤ 200) (ha : 0 ≤ a ∧ a < 4096) (hb : B i = false) :
    Calls Try.prog 14 #[.pointer (some ⟨bm, 0, none⟩), .int .i64 ((i : Int) + 1), .int .i64 a] w fun e w' => e = .returned (.int .i64 2) ∧ w = w' := by
  have HK := Lib.hid (known_yes h hi h1 hn)
  have HA := Lib.hid (fun W => badAddr_no a W ha.1 ha.2)
  have HB := Lib.hid (isBusy_any h hi hn)
  rw [hb] at HB
  clear h hb
  go_enter Try.func14, Try.ntmps14
  go_wp2_with fail
  refine HK.out.mono ?_
  rintro e w1 ⟨rfl, rfl⟩
  go_wp2_with fail
  refine (HA.out _).mono ?_
  rintro e w1 ⟨rfl, rfl⟩
  go_wp2_with fail
  refine HB.out.mono ?_
  rintro e w1 ⟨rfl, rfl⟩
  go_wp2
  go_ret
  exact ⟨rfl, rfl⟩
set_option maxHeartbeats 1000000 in
theorem set_yes (a : Int) (h : Im w bm gs gd n N A V B) (hi : i < n) (h1 : 1 ≤ i) (hn : n ≤ 200) (hC : C ≤ gs) (hC2 : C ≤ gd) (hN : N ≤ 1000000) (ha : 0 ≤ a ∧ a < 4096) (hb : B i = true) :
    Calls Try.prog 14 #[.pointer (some ⟨bm, 0, none⟩), .int .i64 ((i : Int) + 1), .int .i64 a] w (CallO C w bm gs gd n N (upd A i a) V B 0) := by
  have HK := Lib.hid (known_yes h hi h1 hn)
  have HA := Lib.hid (fun W => badAddr_no a W ha.1 ha.2)
  have HB := Lib.hid (isBusy_any h hi hn)
  have HS := Lib.hid (slot_any h hi hn)
  have c1 := (h.cell hi).2.1
  have hp := put_any (C := C) a (V i) true h hi hn hC hC2 hN
  have HU : Hid (upd V i (V i) = V ∧ upd B i true = B) := ⟨upd_self V i, by rw [← hb]; exact upd_self B i⟩
  have HP := Lib.hid hp
  rw [hb] at HB
  clear h hb hp
  generalize hv : V i = v at *
  clear hv
  go_enter Try.func14, Try.ntmps14
  go_wp2_with fail
  refine HK.out.mono ?_
  rintro e w1 ⟨rfl, rfl⟩
  go_wp2_with fail
  refine (HA.out _).mono ?_
  rintro e w1 ⟨rfl, rfl⟩
  go_wp2_with fail
  refine HB.out.mono ?_
  rintro e w1 ⟨rfl, rfl⟩
  go_wp2_with fail
  refine HS.out.mono ?_
  rintro e w1 ⟨rfl, rfl⟩
  go_wp2_with fail
  refine HP.out.mono ?_
  rintro e w1 ⟨rfl, hI, hbl, hf⟩
  rw [HU.out.1, HU.out.2] at hI
  have HI := Lib.hid hI
  have HBl := Lib.hid hbl
  have HF := Lib.hid hf
  clear hI hbl hf HP c1
  go_wp2
  go_ret
  exact ⟨rfl, HI.out, HBl.out, HF.out⟩
end
end Go.Proofs.Ytbacfbdeeogkgaa
