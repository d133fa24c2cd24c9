/-
  The walk of the fixed fact: the document's example of an inode map.
-/
import Derived.Test.YtbacfbdeeogkgaaImPut
namespace Go.Proofs.Ytbacfbdeeogkgaa
open Go.RowKit Go.Maps

section
variable {w w' : World} {bm gs gd n N i C : Nat} {A V : Nat → Int} {B : Nat → Bool}
def AlN (C : Nat) (w : World) (bm gs gd n N : Nat) (A V : Nat → Int) (B : Nat → Bool) (ino v : Int) (e : Ending) (w' : World) : Prop :=
  e = .returned (.tuple #[.int .i64 ino, .int .i64 v, .int .i64 0]) ∧ Im w' bm gs gd n N A V B ∧ Below C w w'
theorem alloc_n (i : Nat) (ino v : Int) (B' : Nat → Bool) (h : Im w bm gs gd n N A V B) (hi : i < n) (h1 : 1 ≤ i) (hn : n ≤ 200) (hC : C ≤ gs) (hc : canB V B i = true) (hpre : ∀ j, 1 ≤ j → j < i → canB V B j = false) (he : (i : Int) + 1 = ino) (hv : V i = v) (hB : upd B i true = B') :
    Calls Try.prog 12 #[.pointer (some ⟨bm, 0, none⟩)] w (AlN C w bm gs gd n N A V B' ino v) := by
  subst he hv hB
  exact (alloc_yes (C := C) h hi h1 hn hC hc hpre).mono fun e w' ⟨a, b, c, _⟩ => ⟨a, b, c⟩
end
set_option maxHeartbeats 1000000 in
theorem awake_any (w : World) : Calls Try.prog 7 #[] w fun e w' => e = .returned (.bool true) ∧ Below w.heap.size w w' := by
  have HN : Hid (∀ W : World, Calls Try.prog 11 #[.int .i64 4] W (NewI W 4)) := fun W => newI_any 4 W (by decide) (by decide)
  go_enter Try.func7, Try.ntmps7
  go_wp2_with fail
  refine (HN.out _).mono ?_
  rintro e w1 ⟨bm, gs, gd, rfl, hI, ⟨l1, l2, l3⟩, hb⟩
  have HI1 := Lib.hid hI
  have HB1 := Lib.hid hb
  clear hI hb HN
  go_wp2_with fail
  refine (alloc_n (C := w.heap.size) 1 2 0 _ HI1.out (by decide) (by decide) (by decide) l2 rfl (fun j h1 h2 => by omega) rfl rfl rfl).mono ?_
  rintro e w2 ⟨rfl, hI, hb⟩
  have HI2 := Lib.hid hI
  have HB2 := Lib.hid (HB1.out.trans hb)
  clear hI hb HI1 HB1
  go_wp2_with fail
  refine (alloc_n (C := w.heap.size) 2 3 0 _ HI2.out (by decide) (by decide) (by decide) l2 rfl (fun j h1 h2 => by obtain rfl : j = 1 := (by omega); rfl) rfl rfl rfl).mono ?_
  rintro e w3 ⟨rfl, hI, hb⟩
  have HI3 := Lib.hid hI
  have HB3 := Lib.hid (HB2.out.trans hb)
  clear hI hb HI2 HB2
  have HF : Hid (Calls Try.prog 15 #[.pointer (some ⟨bm, 0, none⟩), .int .i64 2] w3 (CallO w.heap.size w3 bm gs gd 4 0 (upd (fun _ => 0) 1 0) (upd (fun _ => 0) 1 1) (upd (upd (upd (fun _ => false) 1 true) 2 true) 1 false) 0)) :=
    free_yes (C := w.heap.size) (i := 1) HI3.out (by decide) (by decide) (by decide) l2 l3 (by decide) rfl ⟨by decide, by decide⟩
  go_wp2_with fail
  refine HF.out.mono ?_
  rintro e w4 ⟨rfl, ⟨N', hN', hI⟩, hb, _⟩
  have HI4 := Lib.hid hI
  have HB4 := Lib.hid (HB3.out.trans hb)
  clear hI hb HI3 HB3 HF
  go_wp2_with fail
  refine (alloc_n (C := w.heap.size) 1 2 1 _ HI4.out (by decide) (by decide) (by decide) l2 rfl (fun j h1 h2 => by omega) rfl rfl rfl).mono ?_
  rintro e w5 ⟨rfl, hI, hb⟩
  have HI5 := Lib.hid hI
  have HB5 := Lib.hid (HB4.out.trans hb)
  clear hI hb HI4 HB4
  go_wp2_with fail
  refine (alloc_n (C := w.heap.size) 3 4 0 _ HI5.out (by decide) (by decide) (by decide) l2 rfl (fun j h1 h2 => by rcases (show j = 1 ∨ j = 2 by omega) with rfl | rfl <;> rfl) rfl rfl rfl).mono ?_
  rintro e w6 ⟨rfl, hI, hb⟩
  have HI6 := Lib.hid hI
  have HB6 := Lib.hid (HB5.out.trans hb)
  clear hI hb HI5 HB5
  go_wp2_with fail
  refine (alloc_no HI6.out (by decide) (by decide) (fun j h1 h2 => by rcases (show j = 1 ∨ j = 2 ∨ j = 3 by omega) with rfl | rfl | rfl <;> rfl)).mono ?_
  rintro e w7 ⟨rfl, rfl⟩
  go_wp2
  go_ret
  exact ⟨by first | rfl | simp, HB6.out⟩
end Go.Proofs.Ytbacfbdeeogkgaa
