/-
  The inode map's walks: New, slot, known, isBusy, canGive, Alloc.
-/
import Derived.Test.YtbacfbdeeogkgaaImMem
import Derived.Deep.QuietTactic
import Derived.BigQuiet
import Derived.StillTailTactics
namespace Go.Proofs.Ytbacfbdeeogkgaa
open Go.RowKit Go.Maps

theorem im_drewN {B : Nat} {a w : World} (h : Below B a w) (n : Nat) : Below B a (w.drewN n) := ⟨h.os, h.tape, h.output, h.size, h.block⟩
def NewI (w : World) (n : Nat) (e : Ending) (w' : World) : Prop :=
  ∃ bm gs gd, e = .returned (.tuple #[.pointer (some ⟨bm, 0, none⟩), .int .i64 0]) ∧ Im w' bm gs gd n 0 (fun _ => 0) (fun _ => 0) (fun _ => false) ∧ (w.heap.size ≤ bm ∧ w.heap.size ≤ gs ∧ w.heap.size ≤ gd) ∧ Below w.heap.size w w'
set_option maxHeartbeats 400000 in
theorem bad_no (n : Nat) (w : World) (h1 : 4 ≤ n) (h2 : n ≤ 200) :
    Calls Try.prog 31 #[.int .i64 n] w fun e w' => e = .returned (.bool false) ∧ w = w' := by
  go_enter Try.func31, Try.ntmps31
  go_wp2
  go_ret
  exact ⟨by simp; omega, rfl⟩
set_option maxHeartbeats 1000000 in
theorem newI_any (n : Nat) (w : World) (h1 : 4 ≤ n) (h2 : n ≤ 200) :
    Calls Try.prog 11 #[.int .i64 n] w (NewI w n) := by
  obtain ⟨cs, hmk, hcs⟩ := run_make_sl w n (by omega)
  have HC := Lib.hid hcs
  have HB := Lib.hid (fun W => bad_no n W h1 h2)
  have hmm := @run_makeMap Try.prog
  clear hcs
  go_enter Try.func11, Try.ntmps11
  go_wp2_with fail
  refine (HB.out _).mono ?_
  rintro e w1 ⟨rfl, rfl⟩
  go_wp2
  go_ret2
  refine ⟨w.heap.size + 1 + 1, w.heap.size, w.heap.size + 1, rfl, ⟨?_, ⟨cs, ?_, HC.out⟩, ⟨.map [], ?_⟩, by omega⟩, ⟨by omega, by omega, by omega⟩, ?_⟩
  · have := blo_laid ((w.alloc (.cells cs SL)).alloc (.map #[] 0)) MP #[.slice (some ⟨w.heap.size, 0, none⟩) n n, .map (some (w.heap.size + 1))]
    simpa using this
  · exact ((blo_laid w SL cs).alloc _).alloc _
  · have := own_uLater (World.ownsMap_made (w.alloc (.cells cs SL)) Try.prog 3 (unitElem (H := Nat))) (sup_im _ (.cells #[.slice (some ⟨w.heap.size, 0, none⟩) n n, .map (some (w.heap.size + 1))] MP))
    simpa using this
  · exact (((Below.refl _ _).alloc (Nat.le_refl _) _).alloc (by simp) _).alloc (by simp; omega) _
section
variable {w w' : World} {bm gs gd n N i : Nat} {A V : Nat → Int} {B : Nat → Bool}
set_option maxHeartbeats 400000 in
theorem slot_any (h : Im w bm gs gd n N A V B) (hi : i < n) (hn : n ≤ 200) :
    Calls Try.prog 33 #[.pointer (some ⟨bm, 0, none⟩), .int .i64 ((i : Int) + 1)] w fun e w' => e = .returned (.pointer (some ⟨gs, i * 3, none⟩)) ∧ w = w' := by
  have t0 := h.top.cell 0
  simp at t0
  have i1 : (0 : Int) ≤ (i : Int) := by omega
  have i2 : (i : Int) < (n : Int) := by omega
  clear h
  go_enter Try.func33, Try.ntmps33
  go_wp2
  go_ret
  exact ⟨by simp, rfl⟩
set_option maxHeartbeats 400000 in
theorem known_yes (h : Im w bm gs gd n N A V B) (hi : i < n) (h1 : 1 ≤ i) (hn : n ≤ 200) :
    Calls Try.prog 35 #[.pointer (some ⟨bm, 0, none⟩), .int .i64 ((i : Int) + 1)] w fun e w' => e = .returned (.bool true) ∧ w = w' := by
  have t0 := h.top.cell 0
  simp at t0
  have i1 : (1 : Int) ≤ (i : Int) := by omega
  have i2 : (i : Int) < (n : Int) := by omega
  clear h
  go_enter Try.func35, Try.ntmps35
  go_wp2
  go_ret
  exact ⟨by simp; omega, rfl⟩
set_option maxHeartbeats 400000 in
theorem isBusy_any (h : Im w bm gs gd n N A V B) (hi : i < n) (hn : n ≤ 200) :
    Calls Try.prog 37 #[.pointer (some ⟨bm, 0, none⟩), .int .i64 ((i : Int) + 1)] w fun e w' => e = .returned (.bool (B i)) ∧ w = w' := by
  have HS := Lib.hid (slot_any h hi hn)
  have c2 := (h.cell hi).2.2
  clear h
  go_enter Try.func37, Try.ntmps37
  go_wp2_with fail
  refine HS.out.mono ?_
  rintro e w' ⟨rfl, rfl⟩
  go_wp2
  go_ret
  exact ⟨rfl, rfl⟩
/-- Can this place be given? -/
def canB (V : Nat → Int) (B : Nat → Bool) (i : Nat) : Bool := !B i && decide (V i < 65535)
set_option maxHeartbeats 400000 in
theorem canGive_any (h : Im w bm gs gd n N A V B) (hi : i < n) (hn : n ≤ 200) :
    Calls Try.prog 32 #[.pointer (some ⟨bm, 0, none⟩), .int .i64 ((i : Int) + 1)] w fun e w' => e = .returned (.bool (canB V B i)) ∧ w = w' := by
  have HS := Lib.hid (slot_any h hi hn)
  obtain ⟨_, c1, c2⟩ := h.cell hi
  have HB : Hid (canB V B i = (!B i && decide (V i < 65535))) := rfl
  clear h
  generalize V i = v at *
  cases hb : B i with
  | true =>
    rw [hb] at c2 HB
    clear hb
    go_enter Try.func32, Try.ntmps32
    go_wp2_with fail
    refine HS.out.mono ?_
    rintro e w' ⟨rfl, rfl⟩
    go_wp2
    go_ret
    exact ⟨by rw [HB.out]; rfl, rfl⟩
  | false =>
    rw [hb] at c2 HB
    clear hb
    go_enter Try.func32, Try.ntmps32
    go_wp2_with fail
    refine HS.out.mono ?_
    rintro e w' ⟨rfl, rfl⟩
    go_wp2
    go_ret
    exact ⟨by rw [HB.out]; simp, rfl⟩
def AlO (C : Nat) (w : World) (bm gs gd n N : Nat) (A V : Nat → Int) (B : Nat → Bool) (i : Nat) (e : Ending) (w' : World) : Prop :=
  e = .returned (.tuple #[.int .i64 ((i : Int) + 1), .int .i64 (V i), .int .i64 0]) ∧ Im w' bm gs gd n N A V (upd B i true) ∧ Below C w w' ∧ Fr1 gs w w'
set_option maxHeartbeats 1000000 in
theorem alloc_yes {C : Nat} (h : Im w bm gs gd n N A V B) (hi : i < n) (h1 : 1 ≤ i) (hn : n ≤ 200) (hC : C ≤ gs) (hc : canB V B i = true) (hpre : ∀ j, 1 ≤ j → j < i → canB V B j = false) :
    Calls Try.prog 12 #[.pointer (some ⟨bm, 0, none⟩)] w (AlO C w bm gs gd n N A V B i) := by
  have H := Lib.hid h
  have HC := Lib.hid hc
  have HP := Lib.hid hpre
  have t0 := h.top.cell 0
  simp at t0
  clear h hc hpre
  go_enter Try.func12, Try.ntmps12
  go_wp2_with fail
  go_loop [5] (fun t => ∃ m : Nat, 1 ≤ m ∧ m ≤ i ∧ t = .int .i64 ((m : Int) + 1)) (fun t => n + 1 - (intOf t).toNat)
  case atStart => exact ⟨1, Nat.le_refl _, h1, rfl⟩
  case round =>
    obtain ⟨m, hm1, hm, rfl⟩ := hrel
    have i1 : (0 : Int) ≤ (m : Int) := by omega
    have i2 : (m : Int) < (n : Int) := by omega
    by_cases hlt : m < i
    · have HG := Lib.hid (canGive_any (i := m) H.out (by omega) hn)
      have hf := HP.out m hm1 hlt
      rw [hf] at HG
      clear hf
      go_wp2_with fail
      refine HG.out.mono ?_
      rintro e w' ⟨rfl, rfl⟩
      go_wp2_with fail
      go_round
      case rel => exact ⟨m + 1, by omega, by omega, by simp⟩
      case measure => simp [intOf]; omega
    · obtain rfl : m = i := by omega
      have HG := Lib.hid (canGive_any (i := m) H.out (by omega) hn)
      rw [HC.out] at HG
      have HS := Lib.hid (slot_any (i := m) H.out (by omega) hn)
      have c2 := (H.out.cell hi).2.2
      have f2 := H.out.frozen (m * 3 + 2)
      have HN := Lib.hid (H.out.busy hi true)
      have HBl : Hid (Below C w (w.setCell ⟨gs, m * 3 + 2, none⟩ (.bool true))) := (Below.refl _ _).setCell (p := ⟨gs, m * 3 + 2, none⟩) hC _
      have HFr : Hid (Fr1 gs w (w.setCell ⟨gs, m * 3 + 2, none⟩ (.bool true))) := fun b t cs hb hx => hx.far hb _
      clear hlt HC HP
      go_wp2_with fail
      refine HG.out.mono ?_
      rintro e w' ⟨rfl, rfl⟩
      go_wp2_with fail
      refine HS.out.mono ?_
      rintro e w' ⟨rfl, rfl⟩
      go_wp2_with fail
      clear t0 c2 f2 H HG HS
      generalize w.setCell ⟨gs, m * 3 + 2, none⟩ (.bool true) = w2 at *
      have v1 := (HN.out.cell hi).2.1
      go_quiet (fail)
      go_wp2
      go_ret3
      exact ⟨rfl, HN.out.later (im_drewN (Below.refl _ _) nq), im_drewN HBl.out nq, HFr.out.trans (fr1_below (im_drewN (Below.refl _ _) nq))⟩
set_option maxHeartbeats 1000000 in
theorem alloc_no (h : Im w bm gs gd n N A V B) (h4 : 1 ≤ n) (hn : n ≤ 200) (hpre : ∀ j, 1 ≤ j → j < n → canB V B j = false) :
    Calls Try.prog 12 #[.pointer (some ⟨bm, 0, none⟩)] w fun e w' => e = .returned (.tuple #[.int .i64 0, .int .i64 0, .int .i64 23]) ∧ w = w' := by
  have H := Lib.hid h
  have HP := Lib.hid hpre
  have t0 := h.top.cell 0
  simp at t0
  clear h hpre
  go_enter Try.func12, Try.ntmps12
  go_wp2_with fail
  go_loop [5] (fun t => ∃ m : Nat, 1 ≤ m ∧ m ≤ n ∧ t = .int .i64 ((m : Int) + 1)) (fun t => n + 1 - (intOf t).toNat)
  case atStart => exact ⟨1, Nat.le_refl _, h4, rfl⟩
  case round =>
    obtain ⟨m, hm1, hm, rfl⟩ := hrel
    have i1 : (0 : Int) ≤ (m : Int) := by omega
    by_cases hlt : m < n
    · have i2 : (m : Int) < (n : Int) := by omega
      have HG := Lib.hid (canGive_any (i := m) H.out (by omega) hn)
      have hf := HP.out m hm1 hlt
      rw [hf] at HG
      clear hf
      go_wp2_with fail
      refine HG.out.mono ?_
      rintro e w' ⟨rfl, rfl⟩
      go_wp2_with fail
      go_round
      case rel => exact ⟨m + 1, by omega, by omega, by simp⟩
      case measure => simp [intOf]; omega
    · obtain rfl : m = n := by omega
      clear hlt
      go_wp2
      go_ret3
      exact ⟨rfl, rfl⟩
end
end Go.Proofs.Ytbacfbdeeogkgaa
