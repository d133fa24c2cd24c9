/-
  A summary's Check.
-/
import Derived.Test.YtkdjfhbdcfjnnaaFis
import Derived.Test.YtkdjfhbdcfjnnaaIxLev
namespace Go.Proofs.Ytkdjfhbdcfjnnaa
open Go.RowKit

def outB (v a b : Int) : Bool := decide (v < a) || decide (b < v)
theorem outside_any (v a b : Int) (w : World) : Calls Try.prog 27 #[.int .i64 v, .int .i64 a, .int .i64 b] w fun e w' => e = .returned (.bool (outB v a b)) ∧ w = w' := by
  unfold outB
  by_cases h : v < a
  · rw [decide_eq_true h]
    go_enter Try.func27, Try.ntmps27
    go_wp2
    go_ret
    exact ⟨rfl, rfl⟩
  · rw [decide_eq_false h]
    go_enter Try.func27, Try.ntmps27
    go_wp2
    go_ret
    exact ⟨by simp, rfl⟩
theorem wrongIno_any (v : Int) (w : World) : Calls Try.prog 31 #[.int .i64 v] w fun e w' => e = .returned (.bool (outB v 1 200)) ∧ Below w.heap.size w w' := by
  have HO := Lib.hid (outside_any v 1 200 w)
  go_enter Try.func31, Try.ntmps31
  go_wp2_with fail
  refine HO.out.mono ?_
  rintro e w1 ⟨rfl, rfl⟩
  go_wp2
  go_ret
  exact ⟨rfl, Below.refl _ _⟩
theorem wrongLbn_any (v : Int) (w : World) (hv : -9223372036854775808 ≤ v) : Calls Try.prog 42 #[.int .i64 v] w fun e w' => e = .returned (.bool (!isB v)) ∧ Below w.heap.size w w' := by
  cases h : isB v with
  | true =>
    have HL := Lib.hid (level_yes v w hv h)
    go_enter Try.func42, Try.ntmps42
    go_wp2_with fail
    refine HL.out.mono ?_
    rintro e w1 ⟨rfl, hb⟩
    have HB := Lib.hid hb
    clear hb HL
    go_wp2
    go_ret
    exact ⟨rfl, HB.out⟩
  | false =>
    have HL := Lib.hid (level_no v w hv h)
    go_enter Try.func42, Try.ntmps42
    go_wp2_with fail
    refine HL.out.mono ?_
    rintro e w1 ⟨rfl, hb⟩
    have HB := Lib.hid hb
    clear hb HL
    go_wp2
    go_ret
    exact ⟨rfl, HB.out⟩
/-! slices.IndexFunc, slices.ContainsFunc. -/
section
variable {w : World} {F : FuncId} (hF : ∀ (args : Array Value) (W : World), (callFunc F args).run Try.prog W = .ok (.enter F args) W)
include hF
set_option maxHeartbeats 2000000 in
theorem indexI_any (P : Int → Bool) (a : Option Addr) (n c : Nat) (l : List Int) (hn : n = l.length) (hn9 : n ≤ 9223372036854775807) (hI : Ints w a l)
    (hP : ∀ x ∈ l, ∀ W, Calls Try.prog F #[.int .i64 x] W fun e W' => e = .returned (.bool (P x)) ∧ Below W.heap.size W W') :
    Calls Try.prog 43 #[.slice a n c, .func (.func F) #[] #[]] w fun e w' => (∃ i : Int, e = .returned (.int .i64 i) ∧ (decide (0 ≤ i) = l.any P)) ∧ Below w.heap.size w w' := by
  have HP := Lib.hid hP
  have HN := Lib.hid hn
  have HI := Lib.hid hI
  clear hP hn hI
  go_enter Try.func43, Try.ntmps43
  go_wp2_with fail
  go_loopw [8] (fun t wr => ∃ k : Nat, k ≤ n ∧ t = .int .i64 k ∧ (l.take k).any P = false ∧ Below w.heap.size w wr) (fun t _ => n - (intOf t).toNat)
  case atStart => exact ⟨0, Nat.zero_le _, rfl, rfl, Below.refl _ _⟩
  case round =>
    obtain ⟨k, hk, rfl, hno, hB⟩ := hrel
    have HNo := Lib.hid hno
    have HB := Lib.hid hB
    clear hno hB
    by_cases hlt : k < n
    · have hkl : k < l.length := by rw [← HN.out]; exact hlt
      obtain ⟨b, o, rfl, hc⟩ := HI.out (fun e => by rw [e] at hkl; cases hkl)
      have c0 := cell_later HB.out (hc k hkl)
      have htk := take_snocF l 0 k hkl
      have hmem : l.getD k 0 ∈ l := by rw [List.getD_eq_getElem?_getD, List.getElem?_eq_getElem hkl]; exact List.getElem_mem _
      have HPx := Lib.hid (HP.out _ hmem)
      have hdr : l = l.take k ++ l.getD k 0 :: l.drop (k + 1) := by
        conv => lhs; rw [← List.take_append_drop (k + 1) l, htk, List.append_assoc]
        rfl
      obtain ⟨x, hx⟩ : ∃ x, l.getD k 0 = x := ⟨_, rfl⟩
      rw [hx] at c0 htk HPx hdr
      have HTk := Lib.hid htk
      have HDr := Lib.hid hdr
      have k0 : (0 : Int) ≤ (k : Int) := by omega
      have k1 : (k : Int) < (n : Int) := by omega
      have hcf := hF
      clear hkl hc htk hmem hx hdr
      cases hpx : P x with
      | true =>
        rw [hpx] at HPx
        have HA : Hid (l.any P = true) := by
          show _ = _
          rw [HDr.out, List.any_append, List.any_cons, hpx]; simp
        clear hpx HTk HDr HNo
        go_wp2_with fail
        refine (HPx.out _).mono ?_
        rintro e w1 ⟨rfl, hb⟩
        have HB1 := Lib.hid (HB.out.trans (hb.mono HB.out.size))
        clear hb HPx c0 HB
        go_wp2
        go_ret
        exact ⟨⟨k, rfl, by rw [HA.out]; exact decide_eq_true (by omega)⟩, HB1.out⟩
      | false =>
        rw [hpx] at HPx
        have HA : Hid ((l.take (k + 1)).any P = false) := by
          show _ = _
          rw [HTk.out, List.any_append, HNo.out, List.any_cons, hpx]; rfl
        clear hpx HTk HDr HNo
        go_wp2_with fail
        refine (HPx.out _).mono ?_
        rintro e w1 ⟨rfl, hb⟩
        have HB1 := Lib.hid (HB.out.trans (hb.mono HB.out.size))
        clear hb HPx c0 HB
        go_wp2_with fail
        go_roundw
        case rel => exact ⟨k + 1, by omega, by simp, HA.out, HB1.out⟩
        case measure => simp [intOf]; omega
    · have hkn : l.take k = l := by rw [List.take_of_length_le]; have := HN.out; omega
      rw [hkn] at HNo
      have k1 : ¬ (k : Int) < (n : Int) := by omega
      clear hkn
      go_wp2
      go_ret
      exact ⟨⟨-1, rfl, by rw [HNo.out]; rfl⟩, HB.out⟩
theorem containsI_any (P : Int → Bool) (a : Option Addr) (n c : Nat) (l : List Int) (hn : n = l.length) (hn9 : n ≤ 9223372036854775807) (hI : Ints w a l)
    (hP : ∀ x ∈ l, ∀ W, Calls Try.prog F #[.int .i64 x] W fun e W' => e = .returned (.bool (P x)) ∧ Below W.heap.size W W') :
    Calls Try.prog 30 #[.slice a n c, .func (.func F) #[] #[]] w fun e w' => e = .returned (.bool (l.any P)) ∧ Below w.heap.size w w' := by
  have HC := Lib.hid (indexI_any hF P a n c l hn hn9 hI hP)
  clear hP hn hI
  go_enter Try.func30, Try.ntmps30
  go_wp2_with fail
  refine HC.out.mono ?_
  rintro e w1 ⟨⟨i, rfl, hi⟩, hb⟩
  have HI := Lib.hid hi
  have HB := Lib.hid hb
  clear hi hb HC
  go_wp2
  go_ret
  exact ⟨by rw [← HI.out]; rfl, HB.out⟩
set_option maxHeartbeats 2000000 in
theorem indexF_any (P : Fi → Bool) (a : Option Addr) (n c : Nat) (l : List Fi) (hn : n = l.length) (hn9 : n ≤ 9223372036854775807) (hI : Fis w a l)
    (hP : ∀ x ∈ l, ∀ (W : World) (b : Option Addr) (cp : Nat), Below w.heap.size w W → Ints W b x.lb → Calls Try.prog F #[.agg #[.int .i64 x.ino, .int .i64 x.ver, .slice b x.lb.length cp]] W fun e W' => e = .returned (.bool (P x)) ∧ Below W.heap.size W W') :
    Calls Try.prog 41 #[.slice a n c, .func (.func F) #[] #[]] w fun e w' => (∃ i : Int, e = .returned (.int .i64 i) ∧ (decide (0 ≤ i) = l.any P)) ∧ Below w.heap.size w w' := by
  have HP := Lib.hid hP
  have HN := Lib.hid hn
  have HI := Lib.hid hI
  clear hP hn hI
  go_enter Try.func41, Try.ntmps41
  go_wp2_with fail
  go_loopw [8] (fun t wr => ∃ k : Nat, k ≤ n ∧ t = .int .i64 k ∧ (l.take k).any P = false ∧ Below w.heap.size w wr) (fun t _ => n - (intOf t).toNat)
  case atStart => exact ⟨0, Nat.zero_le _, rfl, rfl, Below.refl _ _⟩
  case round =>
    obtain ⟨k, hk, rfl, hno, hB⟩ := hrel
    have HNo := Lib.hid hno
    have HB := Lib.hid hB
    clear hno hB
    by_cases hlt : k < n
    · have hkl : k < l.length := by rw [← HN.out]; exact hlt
      obtain ⟨b, o, cc, cp, rfl, d1, d2, d3, d4⟩ := HI.out.at hkl
      have d1 := cell_later HB.out d1
      have d2 := cell_later HB.out d2
      have d3 := cell_later HB.out d3
      have d4 := d4.below HB.out
      have htk := take_snocF l fi0 k hkl
      have hmem : l.getD k fi0 ∈ l := by rw [List.getD_eq_getElem?_getD, List.getElem?_eq_getElem hkl]; exact List.getElem_mem _
      have HPx := Lib.hid (HP.out _ hmem wr cc cp HB.out d4)
      have hdr : l = l.take k ++ l.getD k fi0 :: l.drop (k + 1) := by
        conv => lhs; rw [← List.take_append_drop (k + 1) l, htk, List.append_assoc]
        rfl
      obtain ⟨x, hx⟩ : ∃ x, l.getD k fi0 = x := ⟨_, rfl⟩
      rw [hx] at d1 d2 d3 htk HPx hdr
      have HTk := Lib.hid htk
      have HDr := Lib.hid hdr
      have k0 : (0 : Int) ≤ (k : Int) := by omega
      have k1 : (k : Int) < (n : Int) := by omega
      have hcf := hF
      clear hkl d4 htk hmem hx hdr
      cases hpx : P x with
      | true =>
        rw [hpx] at HPx
        have HA : Hid (l.any P = true) := by
          show _ = _
          rw [HDr.out, List.any_append, List.any_cons, hpx]; simp
        clear hpx HTk HDr HNo
        go_wp2_with fail
        refine HPx.out.mono ?_
        rintro e w1 ⟨rfl, hb⟩
        have HB1 := Lib.hid (HB.out.trans (hb.mono HB.out.size))
        clear hb HPx d1 d2 d3 HB
        go_wp2
        go_ret
        exact ⟨⟨k, rfl, by rw [HA.out]; exact decide_eq_true (by omega)⟩, HB1.out⟩
      | false =>
        rw [hpx] at HPx
        have HA : Hid ((l.take (k + 1)).any P = false) := by
          show _ = _
          rw [HTk.out, List.any_append, HNo.out, List.any_cons, hpx]; rfl
        clear hpx HTk HDr HNo
        go_wp2_with fail
        refine HPx.out.mono ?_
        rintro e w1 ⟨rfl, hb⟩
        have HB1 := Lib.hid (HB.out.trans (hb.mono HB.out.size))
        clear hb HPx d1 d2 d3 HB
        go_wp2_with fail
        go_roundw
        case rel => exact ⟨k + 1, by omega, by simp, HA.out, HB1.out⟩
        case measure => simp [intOf]; omega
    · have hkn : l.take k = l := by rw [List.take_of_length_le]; have := HN.out; omega
      rw [hkn] at HNo
      have k1 : ¬ (k : Int) < (n : Int) := by omega
      clear hkn
      go_wp2
      go_ret
      exact ⟨⟨-1, rfl, by rw [HNo.out]; rfl⟩, HB.out⟩
theorem containsF_any (P : Fi → Bool) (a : Option Addr) (n c : Nat) (l : List Fi) (hn : n = l.length) (hn9 : n ≤ 9223372036854775807) (hI : Fis w a l)
    (hP : ∀ x ∈ l, ∀ (W : World) (b : Option Addr) (cp : Nat), Below w.heap.size w W → Ints W b x.lb → Calls Try.prog F #[.agg #[.int .i64 x.ino, .int .i64 x.ver, .slice b x.lb.length cp]] W fun e W' => e = .returned (.bool (P x)) ∧ Below W.heap.size W W') :
    Calls Try.prog 28 #[.slice a n c, .func (.func F) #[] #[]] w fun e w' => e = .returned (.bool (l.any P)) ∧ Below w.heap.size w w' := by
  have HC := Lib.hid (indexF_any hF P a n c l hn hn9 hI hP)
  clear hP hn hI
  go_enter Try.func28, Try.ntmps28
  go_wp2_with fail
  refine HC.out.mono ?_
  rintro e w1 ⟨⟨i, rfl, hi⟩, hb⟩
  have HI := Lib.hid hi
  have HB := Lib.hid hb
  clear hi hb HC
  go_wp2
  go_ret
  exact ⟨by rw [← HI.out]; rfl, HB.out⟩
end
end Go.Proofs.Ytkdjfhbdcfjnnaa
