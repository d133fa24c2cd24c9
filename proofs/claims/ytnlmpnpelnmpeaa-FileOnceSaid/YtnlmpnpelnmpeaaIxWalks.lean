/-
  The walks of a file's blocks: Covers.
-/
import Derived.Test.YtnlmpnpelnmpeaaIxLev
namespace Go.Proofs.Ytnlmpnpelnmpeaa
open Go.RowKit
def numM (f lv : Int) : Int := if lv = 0 then f else -f - (lv - 1)
set_option maxHeartbeats 400000 in
theorem number_any (f lv : Int) (w : World) (h0 : 0 ≤ f) (h1 : f < 1000) (h2 : 0 ≤ lv) (h3 : lv ≤ 3) :
    Calls Try.prog 50 #[.agg #[.int .i64 f, .int .i64 lv]] w fun e w' => e = .returned (.int .i64 (numM f lv)) ∧ Below w.heap.size w w' := by
  have HB := Lib.hid (sup_below w)
  by_cases h : lv = 0
  · have e : numM f lv = f := by simp [numM, h]
    rw [e]
    clear e
    subst h
    go_enter Try.func50, Try.ntmps50
    go_wp2
    go_ret
    exact ⟨rfl, HB.out _⟩
  · have e : numM f lv = -f - (lv - 1) := by simp [numM, h]
    rw [e]
    clear e
    have hb : (lv == 0) = false := by simpa using h
    clear h
    go_enter Try.func50, Try.ntmps50
    go_wp2
    go_ret
    exact ⟨rfl, HB.out _⟩
def manyM (f lv : Int) : Int := if f + spanM lv > 600 then 600 - f else spanM lv
theorem fOf_bd (n : Int) (h : isB n = true) : 0 ≤ fOf n ∧ fOf n < 600 := by
  unfold isB at h
  unfold fOf
  by_cases h0 : 0 ≤ n
  · simp [h0] at h ⊢; omega
  · simp only [h0, if_false] at h ⊢
    have key : ∀ f l, startsB f l = true → 0 ≤ f ∧ f < 600 := by intro f l e; simp [startsB] at e; omega
    by_cases h1 : startsB (-n) 1 = true
    · simp only [h1, if_true]; exact key _ _ h1
    · by_cases h2 : startsB (-n - 1) 2 = true
      · have := key _ _ h2
        simp only [h1, h2, if_true]; simp; omega
      · have h1' : startsB (-n) 1 = false := by simpa using h1
        have h2' : startsB (-n - 1) 2 = false := by simpa using h2
        rw [h1', h2'] at h ⊢
        simp at h ⊢
        have := key _ _ h
        omega
theorem lvOf_bd (n : Int) : 0 ≤ lvOf n ∧ lvOf n ≤ 3 := by unfold lvOf; split <;> (try split) <;> (try split) <;> omega
set_option maxHeartbeats 400000 in
theorem covers_yes (n : Int) (w : World) (hn : -9223372036854775808 ≤ n) (h : isB n = true) :
    Calls Try.prog 54 #[.int .i64 n] w fun e w' => e = .returned (.tuple #[.int .i64 (fOf n), .int .i64 (manyM (fOf n) (lvOf n)), .int .i64 0]) ∧ Below w.heap.size w w' := by
  have HF : Hid (∀ W, Calls Try.prog 45 #[.int .i64 n] W fun e w' => e = .returned (.tuple #[.agg #[.int .i64 (fOf n), .int .i64 (lvOf n)], .bool true]) ∧ Below W.heap.size W w') := fun W => find_yes n W hn h
  have hl := lvOf_bd n
  have hf := fOf_bd n h
  have hs := spanM_bd (lvOf n)
  have HS : Hid (∀ W, Calls Try.prog 49 #[.int .i64 (lvOf n)] W fun e w' => e = .returned (.int .i64 (spanM (lvOf n))) ∧ W = w') := fun W => span_any (lvOf n) W hl.1 hl.2
  have HM : Hid (manyM (fOf n) (lvOf n) = if fOf n + spanM (lvOf n) > 600 then 600 - fOf n else spanM (lvOf n)) := rfl
  clear hn h
  generalize manyM (fOf n) (lvOf n) = M at *
  generalize spanM (lvOf n) = S at *
  generalize lvOf n = L at *
  generalize fOf n = F at *
  go_enter Try.func54, Try.ntmps54
  go_wp2_with fail
  refine (HF.out _).mono ?_
  rintro e w1 ⟨rfl, hb1⟩
  have HB1 := Lib.hid hb1
  clear hb1
  go_wp2_with fail
  have T := Lib.hid (two_laid w1 (.int .i64 F) (.int .i64 L) 108)
  have HB2 : Hid (Below w.heap.size w (w1.alloc (.cells #[.int .i64 F, .int .i64 L] 108))) := HB1.out.alloc HB1.out.size _
  generalize w1.alloc (.cells #[.int .i64 F, .int .i64 L] 108) = w2 at *
  generalize w1.heap.size = g at *
  obtain ⟨c0, c1, c2, c3⟩ := T.out
  have e0 : IntKind.i64.wrap (600 - F) = 600 - F := IntWalk.i64_in _ (by omega)
  go_region_held (fun W => W.cell? ⟨g, 0, none⟩ = some (.int .i64 F) ∧ W.cell? ⟨g, 1, none⟩ = some (.int .i64 L)) (go_keep) ((go_at_call 49; refine (HS.out _).mono ?_; rintro e wx ⟨rfl, rfl⟩))
  clear e0
  have hm : (if 600 - F < S then 600 - F else S) = M := by rw [HM.out]; split <;> split <;> omega
  rw [hm]
  clear hm HM
  go_wp2
  go_ret3
  exact ⟨rfl, HB2.out.drew⟩
set_option maxHeartbeats 400000 in
theorem covers_no (n : Int) (w : World) (hn : -9223372036854775808 ≤ n) (h : isB n = false) :
    Calls Try.prog 54 #[.int .i64 n] w fun e w' => e = .returned (.tuple #[.int .i64 0, .int .i64 0, .int .i64 22]) ∧ Below w.heap.size w w' := by
  have HF : Hid (∀ W, Calls Try.prog 45 #[.int .i64 n] W (FoundNo W)) := fun W => find_no n W hn h
  clear hn h
  go_enter Try.func54, Try.ntmps54
  go_wp2_with fail
  refine (HF.out _).mono ?_
  rintro e w1 ⟨f, l, rfl, hb1⟩
  have HB1 := Lib.hid hb1
  clear hb1
  go_wp2
  go_ret3
  exact ⟨rfl, HB1.out.alloc HB1.out.size _⟩
end Go.Proofs.Ytnlmpnpelnmpeaa
