/-
  The walks of a file's blocks: which pointer leads to them, how wide they are, which number is whose; Level.
-/
import Derived.Test.YtkdjfhbdcfjnnaaRows
import Derived.WalkKit
import Derived.WalkSpells
import Derived.WalkLawsBesides
import Derived.IntWalk
import Derived.Lib.Hide
import Derived.Below
import Derived.Deep.QuietTactic
import Derived.BigQuiet
import Derived.Deep.RegionHeld
import Derived.Deep.RegionWith
import Derived.StillTailTactics
namespace Go.Proofs.Ytkdjfhbdcfjnnaa
open Go.RowKit

theorem flip_sameI {P : Program} {f : FuncId} {args : Array Value} {w : World} {v : Value} (h : Calls P f args w fun e w' => e = .returned v ∧ w = w') : Calls P f args w fun e w' => e = .returned v ∧ w' = w :=
  h.mono fun _ _ ⟨h1, h2⟩ => ⟨h1, h2.symm⟩
theorem below_drewN {B : Nat} {a w : World} (h : Below B a w) (n : Nat) : Below B a (w.drewN n) := ⟨h.os, h.tape, h.output, h.size, h.block⟩
theorem sup_below (w : World) (o : Obj) : Below w.heap.size w (w.alloc o) := (Below.refl _ _).alloc (Nat.le_refl _) o
/-- The inode's pointer above a data block, the level of what it leads to, and the first data that this covers. -/
def rPtr (d : Int) : Int := if d < 6 then d else if d < 22 then 6 else if d < 278 then 7 else 8
def rLev (d : Int) : Int := if d < 6 then 0 else if d < 22 then 1 else if d < 278 then 2 else 3
def rFst (d : Int) : Int := if d < 6 then d else if d < 22 then 6 else if d < 278 then 22 else 278
theorem rLev_bd (d : Int) : 0 ≤ rLev d ∧ rLev d ≤ 3 := by unfold rLev; split <;> (try split) <;> (try split) <;> omega
theorem rFst_bd (d : Int) (h : 0 ≤ d) : 0 ≤ rFst d ∧ rFst d ≤ d := by unfold rFst; split <;> (try split) <;> (try split) <;> omega
theorem rPtr_bd (d : Int) (h : 0 ≤ d) : 0 ≤ rPtr d ∧ rPtr d ≤ 8 := by unfold rPtr; split <;> (try split) <;> (try split) <;> omega
set_option maxHeartbeats 400000 in
theorem root_any (d : Int) (w : World) :
    Calls Try.prog 50 #[.int .i64 d] w fun e w' => e = .returned (.tuple #[.int .i64 (rPtr d), .int .i64 (rLev d), .int .i64 (rFst d)]) ∧ w = w' := by
  by_cases h1 : d < 6
  · have e : rPtr d = d ∧ rLev d = 0 ∧ rFst d = d := by simp [rPtr, rLev, rFst, h1]
    rw [e.1, e.2.1, e.2.2]
    clear e
    go_enter Try.func50, Try.ntmps50
    go_wp2
    go_ret3
    exact ⟨rfl, rfl⟩
  · by_cases h2 : d < 22
    · have e : rPtr d = 6 ∧ rLev d = 1 ∧ rFst d = 6 := by simp [rPtr, rLev, rFst, h1, h2]
      rw [e.1, e.2.1, e.2.2]
      clear e
      go_enter Try.func50, Try.ntmps50
      go_wp2
      go_ret3
      exact ⟨rfl, rfl⟩
    · by_cases h3 : d < 278
      · have e : rPtr d = 7 ∧ rLev d = 2 ∧ rFst d = 22 := by simp [rPtr, rLev, rFst, h1, h2, h3]
        rw [e.1, e.2.1, e.2.2]
        clear e
        go_enter Try.func50, Try.ntmps50
        go_wp2
        go_ret3
        exact ⟨rfl, rfl⟩
      · have e : rPtr d = 8 ∧ rLev d = 3 ∧ rFst d = 278 := by simp [rPtr, rLev, rFst, h1, h2, h3]
        rw [e.1, e.2.1, e.2.2]
        clear e
        go_enter Try.func50, Try.ntmps50
        go_wp2
        go_ret3
        exact ⟨rfl, rfl⟩
/-- How much data a whole block of a level covers. -/
def spanM (lv : Int) : Int := if lv ≤ 0 then 1 else if lv ≤ 1 then 16 else if lv ≤ 2 then 256 else 4096
theorem spanM_bd (lv : Int) : 1 ≤ spanM lv ∧ spanM lv ≤ 4096 := by unfold spanM; split <;> (try split) <;> (try split) <;> omega
set_option maxHeartbeats 400000 in
theorem span_any (lv : Int) (w : World) (h0 : 0 ≤ lv) (h3 : lv ≤ 3) :
    Calls Try.prog 51 #[.int .i64 lv] w fun e w' => e = .returned (.int .i64 (spanM lv)) ∧ w = w' := by
  have h : lv = 0 ∨ lv = 1 ∨ lv = 2 ∨ lv = 3 := by omega
  clear h0 h3
  rcases h with rfl | rfl | rfl | rfl
  · go_enter Try.func51, Try.ntmps51
    go_wp2
    refine wp_loop_rounds 1 ?_
    rw [rounds_succ]
    go_wp2
    go_ret
    exact ⟨rfl, rfl⟩
  · go_enter Try.func51, Try.ntmps51
    go_wp2
    refine wp_loop_rounds 2 ?_
    rw [rounds_succ]
    go_wp2
    rw [rounds_succ]
    go_wp2
    go_ret
    exact ⟨rfl, rfl⟩
  · go_enter Try.func51, Try.ntmps51
    go_wp2
    refine wp_loop_rounds 3 ?_
    rw [rounds_succ]
    go_wp2
    rw [rounds_succ]
    go_wp2
    rw [rounds_succ]
    go_wp2
    go_ret
    exact ⟨rfl, rfl⟩
  · go_enter Try.func51, Try.ntmps51
    go_wp2
    refine wp_loop_rounds 4 ?_
    rw [rounds_succ]
    go_wp2
    rw [rounds_succ]
    go_wp2
    rw [rounds_succ]
    go_wp2
    rw [rounds_succ]
    go_wp2
    go_ret
    exact ⟨rfl, rfl⟩
/-- A block's number. -/
def startsB (f lv : Int) : Bool := decide (0 ≤ f ∧ f < 600 ∧ lv ≤ rLev f ∧ (f - rFst f) % spanM lv = 0)
set_option maxHeartbeats 400000 in
theorem starts_out (f lv : Int) (w : World) (h : f < 0 ∨ 600 ≤ f) :
    Calls Try.prog 49 #[.agg #[.int .i64 f, .int .i64 lv]] w fun e w' => e = .returned (.bool false) ∧ Below w.heap.size w w' := by
  have HB := Lib.hid (sup_below w)
  by_cases h0 : f < 0
  · clear h
    go_enter Try.func49, Try.ntmps49
    go_wp2
    go_ret
    exact ⟨rfl, HB.out _⟩
  · have h6 : 600 ≤ f := by omega
    clear h
    go_enter Try.func49, Try.ntmps49
    go_wp2
    go_ret
    exact ⟨rfl, HB.out _⟩
set_option maxHeartbeats 400000 in
theorem starts_deep (f lv : Int) (w : World) (h0 : 0 ≤ f) (h6 : f < 600) (h : ¬ lv ≤ rLev f) :
    Calls Try.prog 49 #[.agg #[.int .i64 f, .int .i64 lv]] w fun e w' => e = .returned (.bool false) ∧ Below w.heap.size w w' := by
  have HB := Lib.hid (sup_below w)
  have hr := rLev_bd f
  have hf := rFst_bd f h0
  go_enter Try.func49, Try.ntmps49
  go_wp2_with fail
  refine (root_any f _).mono ?_
  rintro e w1 ⟨rfl, rfl⟩
  generalize rLev f = L at *
  generalize rFst f = F at *
  generalize rPtr f = R at *
  have hd : decide (lv ≤ L) = false := by simpa using h
  go_wp2_with fail
  go_quiet (fail)
  go_wp2
  go_ret
  exact ⟨rfl, below_drewN (HB.out _) _⟩
set_option maxHeartbeats 400000 in
theorem starts_in (f lv : Int) (w : World) (h0 : 0 ≤ f) (h6 : f < 600) (h1 : 1 ≤ lv) (h : lv ≤ rLev f) :
    Calls Try.prog 49 #[.agg #[.int .i64 f, .int .i64 lv]] w fun e w' => e = .returned (.bool ((f - rFst f) % spanM lv == 0)) ∧ Below w.heap.size w w' := by
  have HB := Lib.hid (sup_below w)
  have hr := rLev_bd f
  have hf := rFst_bd f h0
  have hs := spanM_bd lv
  have h3 : lv ≤ 3 := by omega
  have HS : Hid (∀ W, Calls Try.prog 51 #[.int .i64 lv] W fun e w' => e = .returned (.int .i64 (spanM lv)) ∧ W = w') := fun W => span_any lv W (by omega) h3
  have HR : Hid (∀ W, Calls Try.prog 50 #[.int .i64 f] W fun e w' => e = .returned (.tuple #[.int .i64 (rPtr f), .int .i64 (rLev f), .int .i64 (rFst f)]) ∧ W = w') := fun W => root_any f W
  generalize rLev f = L at *
  generalize rFst f = F at *
  generalize rPtr f = R at *
  generalize spanM lv = S at *
  go_enter Try.func49, Try.ntmps49
  go_wp2_with fail
  refine (HR.out _).mono ?_
  rintro e w1 ⟨rfl, rfl⟩
  clear HR
  have hd : decide (lv ≤ L) = true := by simpa using h
  have hz : (S == 0) = false := by simpa using (by omega : ¬ S = 0)
  go_wp2_with fail
  go_quiet ((go_at_call 51; exact Calls.quiet_of_same (flip_sameI (HS.out _))))
  go_wp2
  go_ret
  exact ⟨rfl, below_drewN (HB.out _) _⟩
theorem starts_any (f lv : Int) (w : World) (h1 : 1 ≤ lv) :
    Calls Try.prog 49 #[.agg #[.int .i64 f, .int .i64 lv]] w fun e w' => e = .returned (.bool (startsB f lv)) ∧ Below w.heap.size w w' := by
  by_cases h0 : 0 ≤ f
  · by_cases h6 : f < 600
    · by_cases h : lv ≤ rLev f
      · have e : startsB f lv = ((f - rFst f) % spanM lv == 0) := by simp [startsB, h0, h6, h]; rfl
        rw [e]
        exact starts_in f lv w h0 h6 h1 h
      · have e : startsB f lv = false := by simp [startsB, h]
        rw [e]
        exact starts_deep f lv w h0 h6 h
    · have e : startsB f lv = false := by simp [startsB, h6]
      rw [e]
      exact starts_out f lv w (by omega)
  · have e : startsB f lv = false := by simp [startsB, h0]
    rw [e]
    exact starts_out f lv w (by omega)
/-- Is a number a block's; its level; the first data that it covers. -/
def isB (n : Int) : Bool := if 0 ≤ n then decide (n < 600) else startsB (-n) 1 || startsB (-n - 1) 2 || startsB (-n - 2) 3
def lvOf (n : Int) : Int := if 0 ≤ n then 0 else if startsB (-n) 1 then 1 else if startsB (-n - 1) 2 then 2 else 3
def fOf (n : Int) : Int := if 0 ≤ n then n else if startsB (-n) 1 then -n else if startsB (-n - 1) 2 then -n - 1 else -n - 2
def FoundNo (w : World) (e : Ending) (w' : World) : Prop := ∃ f l : Int, e = .returned (.tuple #[.agg #[.int .i64 f, .int .i64 l], .bool false]) ∧ Below w.heap.size w w'
set_option maxHeartbeats 400000 in
theorem find_data (n : Int) (w : World) (h : 0 ≤ n) :
    Calls Try.prog 48 #[.int .i64 n] w fun e w' => e = .returned (.tuple #[.agg #[.int .i64 n, .int .i64 0], .bool (decide (n < 600))]) ∧ Below w.heap.size w w' := by
  have HB := Lib.hid (sup_below w)
  go_enter Try.func48, Try.ntmps48
  go_wp2
  refine bodyPost_ret (v := .tuple #[.agg #[.int .i64 n, .int .i64 0], .bool (decide (n < 600))]) (by simp [results, Try.results48, go_sem]) rfl ⟨rfl, HB.out _⟩
/-- A block of two cells that may be written. -/
structure Two (w : World) (g : Nat) (x y : Value) : Prop where
  c0 : w.cell? ⟨g, 0, none⟩ = some x
  c1 : w.cell? ⟨g, 1, none⟩ = some y
  f0 : w.frozen? ⟨g, 0, none⟩ = false
  f1 : w.frozen? ⟨g, 1, none⟩ = false
theorem Two.below {w w' : World} {g B : Nat} {x y : Value} (h : Two w g x y) (hb : Below B w w') (hg : g < B) : Two w' g x y :=
  ⟨(hb.cell (p := ⟨g, 0, none⟩) hg).trans h.c0, (hb.cell (p := ⟨g, 1, none⟩) hg).trans h.c1, (hb.frozen (p := ⟨g, 0, none⟩) hg).trans h.f0, (hb.frozen (p := ⟨g, 1, none⟩) hg).trans h.f1⟩
theorem two_laid (w : World) (x y : Value) (t : TypeId) : Two (w.alloc (.cells #[x, y] t)) w.heap.size x y := ⟨by simp, by simp, by simp, by simp⟩
theorem wrap_min : wrap64 (wrap64 9223372036854775808) = -9223372036854775808 := by simp [wrap64]
theorem wrap_min1 : wrap64 (wrap64 9223372036854775808 - 1) = 9223372036854775807 := by simp [wrap64]
theorem wrap_min2 : wrap64 (wrap64 9223372036854775808 - 2) = 9223372036854775806 := by simp [wrap64]
set_option maxHeartbeats 800000 in
theorem find_min (w : World) : Calls Try.prog 48 #[.int .i64 (-9223372036854775808)] w (FoundNo w) := by
  have HB := Lib.hid (sup_below w)
  go_enter Try.func48, Try.ntmps48
  go_wp2
  refine wp_loop_rounds 4 ?_
  rw [rounds_succ]
  go_wp2_with fail
  have T0 : Hid (Two ((w.alloc (.cells #[.int .i64 0, .int .i64 0] 86)).alloc (.cells #[.int .i64 (wrap64 (wrap64 9223372036854775808)), .int .i64 1] 86)) w.heap.size (.int .i64 0) (.int .i64 0)) := (two_laid w _ _ _).below (sup_below _ _) (by simp)
  refine (starts_out _ 1 _ (.inl (by rw [wrap_min]; decide))).mono ?_
  rintro e w1 ⟨rfl, hb1⟩
  have HB1 : Hid (Below w.heap.size w w1) := ((HB.out _).alloc (by simp) _).trans (hb1.mono (by simp; omega))
  have hz1 : w.heap.size < w1.heap.size := by have := hb1.size; simp at this; omega
  have U0 := Lib.hid (T0.out.below hb1 (by simp; omega))
  clear hb1 T0
  go_wp2_with fail
  rw [rounds_succ]
  go_wp2_with fail
  refine (starts_out _ 2 _ (.inr (by rw [wrap_min1]; decide))).mono ?_
  rintro e w2 ⟨rfl, hb2⟩
  have HB2 : Hid (Below w.heap.size w w2) := ((HB1.out).alloc HB1.out.size _).trans (hb2.mono (by have := HB1.out.size; simp; omega))
  have hz2 : w.heap.size < w2.heap.size := by have := hb2.size; simp at this; omega
  have V0 := Lib.hid ((U0.out.below (sup_below w1 _) hz1).below hb2 (by simp; omega))
  clear hb2 U0
  go_wp2_with fail
  rw [rounds_succ]
  go_wp2_with fail
  refine (starts_out _ 3 _ (.inr (by rw [wrap_min2]; decide))).mono ?_
  rintro e w3 ⟨rfl, hb3⟩
  have HB3 : Hid (Below w.heap.size w w3) := ((HB2.out).alloc HB2.out.size _).trans (hb3.mono (by have := HB2.out.size; simp; omega))
  obtain ⟨c0, c1, c2, c3⟩ := (V0.out.below (sup_below w2 _) hz2).below hb3 (by simp; omega)
  clear hb3 V0
  go_wp2_with fail
  rw [rounds_succ]
  go_wp2_with fail
  refine bodyPost_ret (v := .tuple #[.agg #[.int .i64 0, .int .i64 0], .bool false]) (by simp [results, Try.results48, go_sem, c0, c1]) rfl ⟨0, 0, rfl, ?_⟩
  exact (HB3.out.setCell (p := ⟨w.heap.size, 0, none⟩) (Nat.le_refl _) _).setCell (p := ⟨w.heap.size, 1, none⟩) (Nat.le_refl _) _
set_option maxHeartbeats 800000 in
theorem find_meta (n : Int) (w : World) (h : n < 0) (h1 : -9223372036854775808 < n) :
    Calls Try.prog 48 #[.int .i64 n] w fun e w' => (isB n = true → e = .returned (.tuple #[.agg #[.int .i64 (fOf n), .int .i64 (lvOf n)], .bool true]) ∧ Below w.heap.size w w') ∧ (isB n = false → FoundNo w e w') := by
  have HB := Lib.hid (sup_below w)
  have H1 : Hid (∀ W, Calls Try.prog 49 #[.agg #[.int .i64 (-n), .int .i64 1]] W fun e w' => e = .returned (.bool (startsB (-n) 1)) ∧ Below W.heap.size W w') := fun W => starts_any (-n) 1 W (by omega)
  have H2 : Hid (∀ W, Calls Try.prog 49 #[.agg #[.int .i64 (-n - 1), .int .i64 2]] W fun e w' => e = .returned (.bool (startsB (-n - 1) 2)) ∧ Below W.heap.size W w') := fun W => starts_any (-n - 1) 2 W (by omega)
  have H3 : Hid (∀ W, Calls Try.prog 49 #[.agg #[.int .i64 (-n - 2), .int .i64 3]] W fun e w' => e = .returned (.bool (startsB (-n - 2) 3)) ∧ Below W.heap.size W w') := fun W => starts_any (-n - 2) 3 W (by omega)
  have HF : Hid (isB n = (startsB (-n) 1 || startsB (-n - 1) 2 || startsB (-n - 2) 3)) := by show _ = _; simp [isB, show ¬ 0 ≤ n by omega]
  have HG : Hid (fOf n = if startsB (-n) 1 then -n else if startsB (-n - 1) 2 then -n - 1 else -n - 2) := by show _ = _; simp [fOf, show ¬ 0 ≤ n by omega]
  have HL : Hid (lvOf n = if startsB (-n) 1 then 1 else if startsB (-n - 1) 2 then 2 else 3) := by show _ = _; simp [lvOf, show ¬ 0 ≤ n by omega]
  generalize startsB (-n) 1 = s1 at *
  generalize startsB (-n - 1) 2 = s2 at *
  generalize startsB (-n - 2) 3 = s3 at *
  go_enter Try.func48, Try.ntmps48
  go_wp2
  refine wp_loop_rounds 4 ?_
  rw [rounds_succ]
  go_wp2_with fail
  have T0 : Hid (Two ((w.alloc (.cells #[.int .i64 0, .int .i64 0] 86)).alloc (.cells #[.int .i64 (-n), .int .i64 1] 86)) w.heap.size (.int .i64 0) (.int .i64 0)) := (two_laid w _ _ _).below (sup_below _ _) (by simp)
  have T1 : Hid (Two ((w.alloc (.cells #[.int .i64 0, .int .i64 0] 86)).alloc (.cells #[.int .i64 (-n), .int .i64 1] 86)) (w.heap.size + 1) (.int .i64 (-n)) (.int .i64 1)) := by
    have := two_laid (w.alloc (.cells #[.int .i64 0, .int .i64 0] 86)) (.int .i64 (-n)) (.int .i64 1) 86
    simp at this
    exact this
  refine (H1.out _).mono ?_
  rintro e w1 ⟨rfl, hb1⟩
  have HB1 : Hid (Below w.heap.size w w1) := ((HB.out _).alloc (by simp) _).trans (hb1.mono (by simp; omega))
  have U0 := Lib.hid (T0.out.below hb1 (by simp; omega))
  have U1 := Lib.hid (T1.out.below hb1 (by simp))
  have hz1 : w.heap.size < w1.heap.size := by have := hb1.size; simp at this; omega
  clear hb1 T0 T1
  cases s1
  · clear U1
    go_wp2_with fail
    rw [rounds_succ]
    go_wp2_with fail
    refine (H2.out _).mono ?_
    rintro e w2 ⟨rfl, hb2⟩
    have HB2 : Hid (Below w.heap.size w w2) := ((HB1.out).alloc HB1.out.size _).trans (hb2.mono (by have := HB1.out.size; simp; omega))
    have V1 := Lib.hid ((two_laid w1 (.int .i64 (-n - 1)) (.int .i64 2) 86).below hb2 (by simp))
    have V0 := Lib.hid ((U0.out.below (sup_below w1 (.cells #[.int .i64 (-n - 1), .int .i64 2] 86)) hz1).below hb2 (by simp; omega))
    have hz2 : w.heap.size < w2.heap.size := by have := hb2.size; simp at this; omega
    clear hb2 U0
    cases s2
    · clear V1
      go_wp2_with fail
      rw [rounds_succ]
      go_wp2_with fail
      refine (H3.out _).mono ?_
      rintro e w3 ⟨rfl, hb3⟩
      have HB3 : Hid (Below w.heap.size w w3) := ((HB2.out).alloc HB2.out.size _).trans (hb3.mono (by have := HB2.out.size; simp; omega))
      have W1 := Lib.hid ((two_laid w2 (.int .i64 (-n - 2)) (.int .i64 3) 86).below hb3 (by simp))
      have W0 := Lib.hid ((V0.out.below (sup_below w2 (.cells #[.int .i64 (-n - 2), .int .i64 3] 86)) hz2).below hb3 (by simp; omega))
      clear hb3 V0
      obtain ⟨c0, c1, c2, c3⟩ := W0.out
      cases s3
      · go_wp2_with fail
        rw [rounds_succ]
        go_wp2_with fail
        refine bodyPost_ret (v := .tuple #[.agg #[.int .i64 0, .int .i64 0], .bool false]) (by simp [results, Try.results48, go_sem, c0, c1]) rfl ⟨fun e => ?_, fun _ => ⟨0, 0, rfl, ?_⟩⟩
        · rw [HF.out] at e; cases e
        · exact (HB3.out.setCell (p := ⟨w.heap.size, 0, none⟩) (Nat.le_refl _) _).setCell (p := ⟨w.heap.size, 1, none⟩) (Nat.le_refl _) _
      · obtain ⟨d0, d1, d2, d3⟩ := W1.out
        go_wp2_with fail
        refine bodyPost_ret (v := .tuple #[.agg #[.int .i64 (-n - 2), .int .i64 3], .bool true]) (by simp [results, Try.results48, go_sem, c0, c1, d0, d1]) rfl ⟨fun _ => ⟨?_, ?_⟩, fun e => ?_⟩
        · rw [HG.out, HL.out]; rfl
        · exact (HB3.out.setCell (p := ⟨w.heap.size, 0, none⟩) (Nat.le_refl _) _).setCell (p := ⟨w.heap.size, 1, none⟩) (Nat.le_refl _) _
        · rw [HF.out] at e; cases e
    · obtain ⟨c0, c1, c2, c3⟩ := V0.out
      obtain ⟨d0, d1, d2, d3⟩ := V1.out
      go_wp2_with fail
      refine bodyPost_ret (v := .tuple #[.agg #[.int .i64 (-n - 1), .int .i64 2], .bool true]) (by simp [results, Try.results48, go_sem, c0, c1, d0, d1]) rfl ⟨fun _ => ⟨?_, ?_⟩, fun e => ?_⟩
      · rw [HG.out, HL.out]; rfl
      · exact (HB2.out.setCell (p := ⟨w.heap.size, 0, none⟩) (Nat.le_refl _) _).setCell (p := ⟨w.heap.size, 1, none⟩) (Nat.le_refl _) _
      · rw [HF.out] at e; cases e
  · obtain ⟨c0, c1, c2, c3⟩ := U0.out
    obtain ⟨d0, d1, d2, d3⟩ := U1.out
    clear U0 U1
    go_wp2_with fail
    refine bodyPost_ret (v := .tuple #[.agg #[.int .i64 (-n), .int .i64 1], .bool true]) (by simp [results, Try.results48, go_sem, c0, c1, d0, d1]) rfl ⟨fun _ => ⟨?_, ?_⟩, fun e => ?_⟩
    · rw [HG.out, HL.out]; rfl
    · exact (HB1.out.setCell (p := ⟨w.heap.size, 0, none⟩) (Nat.le_refl _) _).setCell (p := ⟨w.heap.size, 1, none⟩) (Nat.le_refl _) _
    · rw [HF.out] at e; cases e
theorem find_yes (n : Int) (w : World) (hn : -9223372036854775808 ≤ n) (h : isB n = true) :
    Calls Try.prog 48 #[.int .i64 n] w fun e w' => e = .returned (.tuple #[.agg #[.int .i64 (fOf n), .int .i64 (lvOf n)], .bool true]) ∧ Below w.heap.size w w' := by
  by_cases h0 : 0 ≤ n
  · have e : decide (n < 600) = true := by simpa [isB, h0] using h
    have := find_data n w h0
    rw [e] at this
    simpa [fOf, lvOf, h0] using this
  · by_cases h1 : n = -9223372036854775808
    · subst h1
      exact absurd h (by decide)
    · exact (find_meta n w (by omega) (by omega)).mono fun e w' hh => hh.1 h
theorem find_no (n : Int) (w : World) (hn : -9223372036854775808 ≤ n) (h : isB n = false) : Calls Try.prog 48 #[.int .i64 n] w (FoundNo w) := by
  by_cases h0 : 0 ≤ n
  · have e : decide (n < 600) = false := by simpa [isB, h0] using h
    have := find_data n w h0
    rw [e] at this
    exact this.mono fun e w' hh => ⟨n, 0, hh.1, hh.2⟩
  · by_cases h1 : n = -9223372036854775808
    · subst h1
      exact find_min w
    · exact (find_meta n w (by omega) (by omega)).mono fun e w' hh => hh.2 h
set_option maxHeartbeats 400000 in
theorem level_yes (n : Int) (w : World) (hn : -9223372036854775808 ≤ n) (h : isB n = true) :
    Calls Try.prog 46 #[.int .i64 n] w fun e w' => e = .returned (.tuple #[.int .i64 (lvOf n), .int .i64 0]) ∧ Below w.heap.size w w' := by
  have HF : Hid (∀ W, Calls Try.prog 48 #[.int .i64 n] W fun e w' => e = .returned (.tuple #[.agg #[.int .i64 (fOf n), .int .i64 (lvOf n)], .bool true]) ∧ Below W.heap.size W w') := fun W => find_yes n W hn h
  clear hn h
  generalize lvOf n = L at *
  generalize fOf n = F at *
  go_enter Try.func46, Try.ntmps46
  go_wp2_with fail
  refine (HF.out _).mono ?_
  rintro e w1 ⟨rfl, hb1⟩
  have HB1 := Lib.hid hb1
  clear hb1
  go_wp2
  go_ret2
  exact ⟨rfl, HB1.out.alloc HB1.out.size _⟩
set_option maxHeartbeats 400000 in
theorem level_no (n : Int) (w : World) (hn : -9223372036854775808 ≤ n) (h : isB n = false) :
    Calls Try.prog 46 #[.int .i64 n] w fun e w' => e = .returned (.tuple #[.int .i64 0, .int .i64 22]) ∧ Below w.heap.size w w' := by
  have HF : Hid (∀ W, Calls Try.prog 48 #[.int .i64 n] W (FoundNo W)) := fun W => find_no n W hn h
  clear hn h
  go_enter Try.func46, Try.ntmps46
  go_wp2_with fail
  refine (HF.out _).mono ?_
  rintro e w1 ⟨f, l, rfl, hb1⟩
  have HB1 := Lib.hid hb1
  clear hb1
  go_wp2
  go_ret2
  exact ⟨rfl, HB1.out.alloc HB1.out.size _⟩
end Go.Proofs.Ytkdjfhbdcfjnnaa
