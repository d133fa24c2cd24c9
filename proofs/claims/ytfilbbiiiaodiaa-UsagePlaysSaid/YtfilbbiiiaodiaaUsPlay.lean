/-
  'play' of UsageSweeps, told by the numbers alone.
-/
import Derived.Test.YtfilbbiiiaodiaaUsCall
namespace Go.Proofs.Ytfilbbiiiaodiaa
open Go.RowKit

noncomputable def playS (n : Nat) (hand : Int) (F : List Int) (K x v : Int) : Int × List Int :=
  if K = 1 then (hand, (addS n 8 F x v).2) else if K = 2 then (hand, (touchS n F x v).2) else if K = 3 then ((takeS n hand F).2.2.1, (takeS n hand F).2.2.2)
  else if K = 4 then (hand, (useS n F x).2) else if K = 5 then (hand, (relS n F x).2) else if K = 7 then ((seizS n hand F x).2.1, (seizS n hand F x).2.2) else (hand, F)
section
variable {w wr w' : World} {bt g n B : Nat} {size hand : Int} {F : List Int}
set_option maxHeartbeats 1000000 in
theorem play_add (x v : Int) (h : USt bt g n 8 hand F w) (h1 : 1 ≤ n) (hn : n ≤ 512) (hB : B ≤ g) (hB' : B ≤ bt) :
    Calls Try.prog 21 #[.pointer (some ⟨bt, 0, none⟩), .agg #[.int .i64 1, .int .i64 x, .int .i64 v]] w (CO B w bt g n 8 (.tuple #[]) hand (addS n 8 F x v).2) := by
  have hbl : B ≤ w.heap.size := by have := h.lt; omega
  have hb0 : Below w.heap.size w (w.alloc (.cells #[.int .i64 1, .int .i64 x, .int .i64 v] 36)) := (Below.refl _ _).alloc (Nat.le_refl _) _
  have HB0 := Lib.hid hb0
  have HU := Lib.hid (h.later hb0)
  clear h hb0
  go_enter Try.func21, Try.ntmps21
  go_wp2_with fail
  refine (add_c (B := B) x v HU.out hn ⟨by decide, by decide⟩ hB).mono ?_
  rintro e w' ⟨rfl, hu, hb, hf⟩
  have HV := Lib.hid hu
  have HB : Hid (Below B w w') := (HB0.out.mono hbl).trans hb
  have HF : Hid (Fr2 bt g w w') := (fr2_of_below HB0.out).trans hf
  clear hu hb hf
  go_wp2
  go_end0
  exact ⟨rfl, HV.out, HB.out, HF.out⟩
set_option maxHeartbeats 1000000 in
theorem play_touch (x v : Int) (h : USt bt g n 8 hand F w) (h1 : 1 ≤ n) (hn : n ≤ 512) (hB : B ≤ g) (hB' : B ≤ bt) :
    Calls Try.prog 21 #[.pointer (some ⟨bt, 0, none⟩), .agg #[.int .i64 2, .int .i64 x, .int .i64 v]] w (CO B w bt g n 8 (.tuple #[]) hand (touchS n F x v).2) := by
  have hbl : B ≤ w.heap.size := by have := h.lt; omega
  have hb0 : Below w.heap.size w (w.alloc (.cells #[.int .i64 2, .int .i64 x, .int .i64 v] 36)) := (Below.refl _ _).alloc (Nat.le_refl _) _
  have HB0 := Lib.hid hb0
  have HU := Lib.hid (h.later hb0)
  clear h hb0
  go_enter Try.func21, Try.ntmps21
  go_wp2_with fail
  refine (touch_c (B := B) x v HU.out hn hB).mono ?_
  rintro e w' ⟨rfl, hu, hb, hf⟩
  have HV := Lib.hid hu
  have HB : Hid (Below B w w') := (HB0.out.mono hbl).trans hb
  have HF : Hid (Fr2 bt g w w') := (fr2_of_below HB0.out).trans hf
  clear hu hb hf
  go_wp2
  go_end0
  exact ⟨rfl, HV.out, HB.out, HF.out⟩
set_option maxHeartbeats 1000000 in
theorem play_take (x v : Int) (h : USt bt g n 8 hand F w) (h1 : 1 ≤ n) (hn : n ≤ 512) (hB : B ≤ g) (hB' : B ≤ bt) :
    Calls Try.prog 21 #[.pointer (some ⟨bt, 0, none⟩), .agg #[.int .i64 3, .int .i64 x, .int .i64 v]] w (CO B w bt g n 8 (.tuple #[]) (takeS n hand F).2.2.1 (takeS n hand F).2.2.2) := by
  have hbl : B ≤ w.heap.size := by have := h.lt; omega
  have hb0 : Below w.heap.size w (w.alloc (.cells #[.int .i64 3, .int .i64 x, .int .i64 v] 36)) := (Below.refl _ _).alloc (Nat.le_refl _) _
  have HB0 := Lib.hid hb0
  have HU := Lib.hid (h.later hb0)
  clear h hb0
  go_enter Try.func21, Try.ntmps21
  go_wp2_with fail
  refine (take_c (B := B) HU.out h1 hn hB hB').mono ?_
  rintro e w' ⟨rfl, hu, hb, hf⟩
  have HV := Lib.hid hu
  have HB : Hid (Below B w w') := (HB0.out.mono hbl).trans hb
  have HF : Hid (Fr2 bt g w w') := (fr2_of_below HB0.out).trans hf
  clear hu hb hf
  go_wp2
  go_end0
  exact ⟨rfl, HV.out, HB.out, HF.out⟩
set_option maxHeartbeats 1000000 in
theorem play_use (x v : Int) (h : USt bt g n 8 hand F w) (h1 : 1 ≤ n) (hn : n ≤ 512) (hB : B ≤ g) (hB' : B ≤ bt) :
    Calls Try.prog 21 #[.pointer (some ⟨bt, 0, none⟩), .agg #[.int .i64 4, .int .i64 x, .int .i64 v]] w (CO B w bt g n 8 (.tuple #[]) hand (useS n F x).2) := by
  have hbl : B ≤ w.heap.size := by have := h.lt; omega
  have hb0 : Below w.heap.size w (w.alloc (.cells #[.int .i64 4, .int .i64 x, .int .i64 v] 36)) := (Below.refl _ _).alloc (Nat.le_refl _) _
  have HB0 := Lib.hid hb0
  have HU := Lib.hid (h.later hb0)
  clear h hb0
  go_enter Try.func21, Try.ntmps21
  go_wp2_with fail
  refine (use_c (B := B) x HU.out hn hB).mono ?_
  rintro e w' ⟨rfl, hu, hb, hf⟩
  have HV := Lib.hid hu
  have HB : Hid (Below B w w') := (HB0.out.mono hbl).trans hb
  have HF : Hid (Fr2 bt g w w') := (fr2_of_below HB0.out).trans hf
  clear hu hb hf
  go_wp2
  go_end0
  exact ⟨rfl, HV.out, HB.out, HF.out⟩
set_option maxHeartbeats 1000000 in
theorem play_rel (x v : Int) (h : USt bt g n 8 hand F w) (h1 : 1 ≤ n) (hn : n ≤ 512) (hB : B ≤ g) (hB' : B ≤ bt) :
    Calls Try.prog 21 #[.pointer (some ⟨bt, 0, none⟩), .agg #[.int .i64 5, .int .i64 x, .int .i64 v]] w (CO B w bt g n 8 (.tuple #[]) hand (relS n F x).2) := by
  have hbl : B ≤ w.heap.size := by have := h.lt; omega
  have hb0 : Below w.heap.size w (w.alloc (.cells #[.int .i64 5, .int .i64 x, .int .i64 v] 36)) := (Below.refl _ _).alloc (Nat.le_refl _) _
  have HB0 := Lib.hid hb0
  have HU := Lib.hid (h.later hb0)
  clear h hb0
  go_enter Try.func21, Try.ntmps21
  go_wp2_with fail
  refine (rel_c (B := B) x HU.out hn hB).mono ?_
  rintro e w' ⟨rfl, hu, hb, hf⟩
  have HV := Lib.hid hu
  have HB : Hid (Below B w w') := (HB0.out.mono hbl).trans hb
  have HF : Hid (Fr2 bt g w w') := (fr2_of_below HB0.out).trans hf
  clear hu hb hf
  go_wp2
  go_end0
  exact ⟨rfl, HV.out, HB.out, HF.out⟩
set_option maxHeartbeats 1000000 in
theorem play_seize (x v : Int) (h : USt bt g n 8 hand F w) (h1 : 1 ≤ n) (hn : n ≤ 512) (hB : B ≤ g) (hB' : B ≤ bt) :
    Calls Try.prog 21 #[.pointer (some ⟨bt, 0, none⟩), .agg #[.int .i64 7, .int .i64 x, .int .i64 v]] w (CO B w bt g n 8 (.tuple #[]) (seizS n hand F x).2.1 (seizS n hand F x).2.2) := by
  have hbl : B ≤ w.heap.size := by have := h.lt; omega
  have hb0 : Below w.heap.size w (w.alloc (.cells #[.int .i64 7, .int .i64 x, .int .i64 v] 36)) := (Below.refl _ _).alloc (Nat.le_refl _) _
  have HB0 := Lib.hid hb0
  have HU := Lib.hid (h.later hb0)
  clear h hb0
  go_enter Try.func21, Try.ntmps21
  go_wp2_with fail
  refine (seize_c (B := B) x HU.out hn hB hB').mono ?_
  rintro e w' ⟨rfl, hu, hb, hf⟩
  have HV := Lib.hid hu
  have HB : Hid (Below B w w') := (HB0.out.mono hbl).trans hb
  have HF : Hid (Fr2 bt g w w') := (fr2_of_below HB0.out).trans hf
  clear hu hb hf
  go_wp2
  go_end0
  exact ⟨rfl, HV.out, HB.out, HF.out⟩
set_option maxHeartbeats 1000000 in
theorem play_other (K x v : Int) (h : USt bt g n 8 hand F w) (hB : B ≤ g) (n1 : K ≠ 1) (n2 : K ≠ 2) (n3 : K ≠ 3) (n4 : K ≠ 4) (n5 : K ≠ 5) (n7 : K ≠ 7) :
    Calls Try.prog 21 #[.pointer (some ⟨bt, 0, none⟩), .agg #[.int .i64 K, .int .i64 x, .int .i64 v]] w (CO B w bt g n 8 (.tuple #[]) hand F) := by
  have hbl : B ≤ w.heap.size := by have := h.lt; omega
  have hb0 : Below w.heap.size w (w.alloc (.cells #[.int .i64 K, .int .i64 x, .int .i64 v] 36)) := (Below.refl _ _).alloc (Nat.le_refl _) _
  have HB0 := Lib.hid hb0
  have HU := Lib.hid (h.later hb0)
  have m1 : (K == 1) = false := by rw [beq_eq_false_iff_ne]; exact n1
  have m2 : (K == 2) = false := by rw [beq_eq_false_iff_ne]; exact n2
  have m3 : (K == 3) = false := by rw [beq_eq_false_iff_ne]; exact n3
  have m4 : (K == 4) = false := by rw [beq_eq_false_iff_ne]; exact n4
  have m5 : (K == 5) = false := by rw [beq_eq_false_iff_ne]; exact n5
  have m7 : (K == 7) = false := by rw [beq_eq_false_iff_ne]; exact n7
  clear h hb0 n1 n2 n3 n4 n5 n7
  go_enter Try.func21, Try.ntmps21
  go_wp2
  go_end0
  exact ⟨rfl, HU.out, HB0.out.mono hbl, fr2_of_below HB0.out⟩
theorem play_c (K x v : Int) (h : USt bt g n 8 hand F w) (h1 : 1 ≤ n) (hn : n ≤ 512) (hB : B ≤ g) (hB' : B ≤ bt) :
    Calls Try.prog 21 #[.pointer (some ⟨bt, 0, none⟩), .agg #[.int .i64 K, .int .i64 x, .int .i64 v]] w (CO B w bt g n 8 (.tuple #[]) (playS n hand F K x v).1 (playS n hand F K x v).2) := by
  by_cases k1 : K = 1
  · subst k1
    have e : playS n hand F 1 x v = (hand, (addS n 8 F x v).2) := by
      unfold playS
      rw [if_pos rfl]
    rw [e]
    exact play_add x v h h1 hn hB hB'
  by_cases k2 : K = 2
  · subst k2
    have e : playS n hand F 2 x v = (hand, (touchS n F x v).2) := by
      unfold playS
      rw [if_neg (by decide)]; rw [if_pos rfl]
    rw [e]
    exact play_touch x v h h1 hn hB hB'
  by_cases k3 : K = 3
  · subst k3
    have e : playS n hand F 3 x v = ((takeS n hand F).2.2.1, (takeS n hand F).2.2.2) := by
      unfold playS
      rw [if_neg (by decide)]; rw [if_neg (by decide)]; rw [if_pos rfl]
    rw [e]
    exact play_take x v h h1 hn hB hB'
  by_cases k4 : K = 4
  · subst k4
    have e : playS n hand F 4 x v = (hand, (useS n F x).2) := by
      unfold playS
      rw [if_neg (by decide)]; rw [if_neg (by decide)]; rw [if_neg (by decide)]; rw [if_pos rfl]
    rw [e]
    exact play_use x v h h1 hn hB hB'
  by_cases k5 : K = 5
  · subst k5
    have e : playS n hand F 5 x v = (hand, (relS n F x).2) := by
      unfold playS
      rw [if_neg (by decide)]; rw [if_neg (by decide)]; rw [if_neg (by decide)]; rw [if_neg (by decide)]; rw [if_pos rfl]
    rw [e]
    exact play_rel x v h h1 hn hB hB'
  by_cases k7 : K = 7
  · subst k7
    have e : playS n hand F 7 x v = ((seizS n hand F x).2.1, (seizS n hand F x).2.2) := by
      unfold playS
      rw [if_neg (by decide)]; rw [if_neg (by decide)]; rw [if_neg (by decide)]; rw [if_neg (by decide)]; rw [if_neg (by decide)]; rw [if_pos rfl]
    rw [e]
    exact play_seize x v h h1 hn hB hB'
  have e : playS n hand F K x v = (hand, F) := by
    unfold playS
    rw [if_neg k1, if_neg k2, if_neg k3, if_neg k4, if_neg k5, if_neg k7]
  rw [e]
  exact play_other K x v h hB k1 k2 k3 k4 k5 k7
end
end Go.Proofs.Ytfilbbiiiaodiaa
