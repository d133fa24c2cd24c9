/-
  The walk of IndexFalls: what a block of pointers covers lies within what its parent covers; the children's order.
-/
import Derived.Test.YtcekejaefbdhfaaIxMath
import Derived.Test.YtcekejaefbdhfaaIxAwake
import Derived.OpenShut
namespace Go.Proofs.Ytcekejaefbdhfaa
open Go.RowKit

set_option maxHeartbeats 1000000 in
theorem falls_no (a b : Int) (w : World) (ha : -9223372036854775808 ≤ a) (hb : -9223372036854775808 ≤ b) (h : isB a = false ∨ (isB a = true ∧ isB b = false)) :
    Calls Try.prog 8 #[.int .i64 a, .int .i64 b] w fun e w' => e = .returned (.bool true) ∧ Below w.heap.size w w' := by
  have HAw := Lib.hid awake_any
  rcases h with h | ⟨h, h'⟩
  · have HA := Lib.hid (fun W => parent_no a W ha h)
    by_cases h2 : isB b = true
    · have HBy := Lib.hid (fun W => parent_yes b W hb h2)
      clear ha hb h h2
      go_enter Try.func8, Try.ntmps8
      go_wp2_with fail
      refine (HAw.out _).mono ?_
      rintro e w1 ⟨rfl, hb1⟩
      have HB1 := Lib.hid hb1
      clear hb1
      go_wp2_with fail
      refine (HA.out _).mono ?_
      rintro e w2 ⟨rfl, hb2⟩
      have HB2 : Hid (Below w.heap.size w w2) := HB1.out.trans (hb2.mono HB1.out.size)
      clear hb2 HB1
      go_wp2_with fail
      refine (HBy.out _).mono ?_
      rintro e w3 ⟨rfl, hb3⟩
      have HB3 : Hid (Below w.heap.size w w3) := HB2.out.trans (hb3.mono HB2.out.size)
      clear hb3 HB2
      go_wp2_with fail
      go_ret
      exact ⟨rfl, HB3.out⟩
    · have HBn := Lib.hid (fun W => parent_no b W hb (by simpa using h2))
      clear ha hb h h2
      go_enter Try.func8, Try.ntmps8
      go_wp2_with fail
      refine (HAw.out _).mono ?_
      rintro e w1 ⟨rfl, hb1⟩
      have HB1 := Lib.hid hb1
      clear hb1
      go_wp2_with fail
      refine (HA.out _).mono ?_
      rintro e w2 ⟨rfl, hb2⟩
      have HB2 : Hid (Below w.heap.size w w2) := HB1.out.trans (hb2.mono HB1.out.size)
      clear hb2 HB1
      go_wp2_with fail
      refine (HBn.out _).mono ?_
      rintro e w3 ⟨rfl, hb3⟩
      have HB3 : Hid (Below w.heap.size w w3) := HB2.out.trans (hb3.mono HB2.out.size)
      clear hb3 HB2
      go_wp2_with fail
      go_ret
      exact ⟨rfl, HB3.out⟩
  · have HA := Lib.hid (fun W => parent_yes a W ha h)
    have HBn := Lib.hid (fun W => parent_no b W hb h')
    clear ha hb h h'
    go_enter Try.func8, Try.ntmps8
    go_wp2_with fail
    refine (HAw.out _).mono ?_
    rintro e w1 ⟨rfl, hb1⟩
    have HB1 := Lib.hid hb1
    clear hb1
    go_wp2_with fail
    refine (HA.out _).mono ?_
    rintro e w2 ⟨rfl, hb2⟩
    have HB2 : Hid (Below w.heap.size w w2) := HB1.out.trans (hb2.mono HB1.out.size)
    clear hb2 HB1
    go_wp2_with fail
    refine (HBn.out _).mono ?_
    rintro e w3 ⟨rfl, hb3⟩
    have HB3 : Hid (Below w.heap.size w w3) := HB2.out.trans (hb3.mono HB2.out.size)
    clear hb3 HB2
    go_wp2_with fail
    go_ret
    exact ⟨rfl, HB3.out⟩
set_option maxHeartbeats 2000000 in
theorem falls_yes (a b : Int) (w : World) (ha : isB a = true) (hb : isB b = true) :
    Calls Try.prog 8 #[.int .i64 a, .int .i64 b] w fun e w' => e = .returned (.bool true) ∧ Below w.heap.size w w' := by
  have HAw := Lib.hid awake_any
  have ra := isB_range a ha
  have rb := isB_range b hb
  have fa := facts a ha
  have fb := facts b hb
  have HA := Lib.hid (fun W => parent_yes a W (by omega) ha)
  have HBy := Lib.hid (fun W => parent_yes b W (by omega) hb)
  have CA := Lib.hid (fun W => covers_yes a W (by omega) ha)
  have CB := Lib.hid (fun W => covers_yes b W (by omega) hb)
  have b1 := fOf_bd a ha
  have b2 := fOf_bd b hb
  clear ha hb
  generalize parM (fOf a) (lvOf a) = p at *
  generalize parM (fOf b) (lvOf b) = q at *
  generalize slotM (fOf a) (lvOf a) = i at *
  generalize slotM (fOf b) (lvOf b) = j at *
  generalize manyM (fOf a) (lvOf a) = ma at *
  generalize manyM (fOf b) (lvOf b) = mb at *
  generalize lvOf a = la at *
  generalize lvOf b = lb at *
  generalize fOf a = x at *
  generalize fOf b = y at *
  have i0 := fa.i0
  have i15 := fa.i15
  have j0 := fb.i0
  have j15 := fb.i15
  have FA := Lib.hid fa
  have FB := Lib.hid fb
  clear fa fb
  go_enter Try.func8, Try.ntmps8
  go_wp2_with fail
  refine (HAw.out _).mono ?_
  rintro e w1 ⟨rfl, hb1⟩
  have HB1 := Lib.hid hb1
  clear hb1
  go_wp2_with fail
  refine (HA.out _).mono ?_
  rintro e w2 ⟨rfl, hb2⟩
  have HB2 : Hid (Below w.heap.size w w2) := HB1.out.trans (hb2.mono HB1.out.size)
  clear hb2 HB1
  go_wp2_with fail
  refine (HBy.out _).mono ?_
  rintro e w3 ⟨rfl, hb3⟩
  have HB3 : Hid (Below w.heap.size w w3) := HB2.out.trans (hb3.mono HB2.out.size)
  clear hb3 HB2
  go_wp2_with fail
  refine (CA.out _).mono ?_
  rintro e w4 ⟨rfl, hb4⟩
  have HB4 : Hid (Below w.heap.size w w4) := HB3.out.trans (hb4.mono HB3.out.size)
  clear hb4 HB3
  go_wp2_with fail
  refine (CB.out _).mono ?_
  rintro e w5 ⟨rfl, hb5⟩
  have HB5 : Hid (Below w.heap.size w w5) := HB4.out.trans (hb5.mono HB4.out.size)
  clear hb5 HB4 HA HBy CA CB HAw
  have fin : ∀ v : Bool, v = true → ∀ W, Below w.heap.size w W → Ending.returned (.bool v) = .returned (.bool true) ∧ Below w.heap.size w W := fun v hv W hW => ⟨by rw [hv], hW⟩
  have FIN := Lib.hid fin
  clear fin
  by_cases hp : p = 600
  · subst hp
    by_cases hpq : 600 = q
    · subst hpq
      obtain ⟨k1, k2⟩ := falls_facts a b 600 i j x y la lb ma mb FA.out FB.out
      have e1 : (decide (i < j) == decide (x < y)) = true := by simp [k1]
      have e2 : ((i == j) == (a == b)) = true := by
        by_cases h : a = b
        · have := k2.2 h; simp [h, this]
        · have h3 : (i == j) = false := by simpa using fun e => h (k2.1 e)
          have h4 : (a == b) = false := by simpa using h
          rw [h3, h4]; rfl
      clear k1 k2
      go_wp2_with fail
      go_ret
      exact ⟨rfl, HB5.out⟩
    · have e0 : ((600 : Int) != q) = true := by simpa using hpq
      go_wp2_with fail
      go_ret
      exact ⟨rfl, HB5.out⟩
  · have hpb : (p != 600) = true := by simpa using hp
    have hpar : isB p = true ∧ p ≠ 600 ∧ 1 ≤ lvOf p ∧ fOf p ≤ x ∧ x + ma ≤ fOf p + manyM (fOf p) (lvOf p) := by
      rcases FA.out.par with h | h
      · exact absurd h.1 hp
      · exact h
    obtain ⟨hB, _, _, hx1, hx2⟩ := hpar
    have CP := Lib.hid (fun W => covers_yes p W (by have := FA.out.p0; omega) hB)
    have b3 := fOf_bd p hB
    have hm3 : 0 ≤ manyM (fOf p) (lvOf p) ∧ manyM (fOf p) (lvOf p) ≤ 4096 := by
      have := spanM_bd (lvOf p)
      unfold manyM
      split <;> omega
    have hm1 := FA.out.m1
    clear hB
    generalize manyM (fOf p) (lvOf p) = mp at *
    generalize fOf p = z at *
    have hnx : ¬ x < z := by omega
    have hnm : ¬ z + mp < x + ma := by omega
    go_wp2_with fail
    refine (CP.out _).mono ?_
    rintro e w6 ⟨rfl, hb6⟩
    have HB6 : Hid (Below w.heap.size w w6) := HB5.out.trans (hb6.mono HB5.out.size)
    clear hb6 HB5 CP
    by_cases hpq : p = q
    · subst hpq
      obtain ⟨k1, k2⟩ := falls_facts a b p i j x y la lb ma mb FA.out FB.out
      have e0 : (p != p) = false := by simp
      have e1 : (decide (i < j) == decide (x < y)) = true := by simp [k1]
      have e2 : ((i == j) == (a == b)) = true := by
        by_cases h : a = b
        · have := k2.2 h; simp [h, this]
        · have h3 : (i == j) = false := by simpa using fun e => h (k2.1 e)
          have h4 : (a == b) = false := by simpa using h
          rw [h3, h4]; rfl
      clear k1 k2
      go_wp2_with fail
      go_ret
      exact ⟨rfl, HB6.out⟩
    · have e0 : (p != q) = true := by simpa using hpq
      go_wp2_with fail
      go_ret
      exact ⟨rfl, HB6.out⟩
theorem indexFalls_walk (a b : Int) (w : World) (ha : (Lit.int .i64 a).wf = true) (hb : (Lit.int .i64 b).wf = true) :
    Calls Try.prog 8 #[.int .i64 a, .int .i64 b] w fun e w' => e = .returned (.bool true) ∧ Below w.heap.size w w' := by
  have h1 := Go.bounds_i64 ha
  have h2 := Go.bounds_i64 hb
  by_cases h : isB a = true
  · by_cases h' : isB b = true
    · exact falls_yes a b w h h'
    · exact falls_no a b w (by omega) (by omega) (.inr ⟨h, by simpa using h'⟩)
  · exact falls_no a b w (by omega) (by omega) (.inl (by simpa using h))
end Go.Proofs.Ytcekejaefbdhfaa
