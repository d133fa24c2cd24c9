/-
  The walks of a table's Take and Count.
-/
import Derived.Test.YtfilbbiiiaodiaaUsWalks
namespace Go.Proofs.Ytfilbbiiiaodiaa
open Go.RowKit

section
variable {w : World} {bt g n seg B : Nat} {size hand : Int} {F : List Int}
def TOut (B : Nat) (w : World) (bt g n : Nat) (size : Int) (F : List Int) (seg : Nat) (e : Ending) (w' : World) : Prop :=
  e = .returned (.tuple #[.int .i64 seg, .int .i64 0]) ∧ (Tb w' bt g TB IN n size seg (seiz F n seg) ∧ Below B w w' ∧ Fr2 bt g w w')
set_option maxHeartbeats 1000000 in
/-- Take where the segment behind the hand is clean. -/
theorem take_first (h : Tb w bt g TB IN n size hand F) (hn : n ≤ 512) (hB : B ≤ g) (hB' : B ≤ bt) (hh : -1 ≤ hand ∧ hand ≤ 1000) (hq : (hand + 1) % (n : Int) = (seg : Int)) (hs : seg < n) (h0 : F.getD (seg * 3 + 1) 0 = 0) :
    Calls Try.prog 14 #[.pointer (some ⟨bt, 0, none⟩)] w (TOut B w bt g n size F seg) := by
  have H := Lib.hid h
  have HS := Lib.hid (seize_any (seg := seg) h hs hn hB hB')
  have t0 := h.top.cell 0
  have t2 := h.top.cell 2
  have c1 := h.cell (seg * 3 + 1) (by omega)
  rw [h0] at c1
  simp at t0 t2
  have i1 : (0 : Int) ≤ (seg : Int) := by omega
  have i2 : (seg : Int) < (n : Int) := by omega
  have i3 : 0 < (n : Int) := by omega
  have hq' : (hand + 1 + 0) % (n : Int) = (seg : Int) := by rw [Int.add_zero]; exact hq
  clear h h0
  go_enter Try.func14, Try.ntmps14
  go_wp2_with fail
  refine wp_loop_rounds 1 ?_
  rw [rounds_succ]
  go_wp2_with fail
  refine HS.out.mono ?_
  rintro e w' ⟨rfl, ht, hb⟩
  have HT := Lib.hid ht
  have HB := Lib.hid hb
  clear ht hb HS
  go_wp2
  go_ret2
  exact ⟨rfl, HT.out, HB.out⟩
set_option maxHeartbeats 1000000 in
/-- Take where no segment is clean. -/
theorem take_full (h : Tb w bt g TB IN n size hand F) (h1 : 1 ≤ n) (hn : n ≤ 512) (hh : -1 ≤ hand ∧ hand ≤ 1000) (hall : ∀ i, i < n → F.getD (i * 3 + 1) 0 ≠ 0) :
    Calls Try.prog 14 #[.pointer (some ⟨bt, 0, none⟩)] w fun e w' => e = .returned (.tuple #[.int .i64 0, .int .i64 28]) ∧ w = w' := by
  have H := Lib.hid h
  have HA := Lib.hid hall
  have t0 := h.top.cell 0
  have t2 := h.top.cell 2
  simp at t0 t2
  have i3 : 0 < (n : Int) := by omega
  clear h hall
  go_enter Try.func14, Try.ntmps14
  go_wp2_with fail
  go_loop [13] (fun i => ∃ k : Nat, k ≤ n ∧ i = .int .i64 k) (fun i => n - (intOf i).toNat)
  case atStart => exact ⟨0, by omega, rfl⟩
  case round =>
    obtain ⟨k, hk, rfl⟩ := hrel
    by_cases hlt : k < n
    · obtain ⟨q, hq⟩ : ∃ q : Nat, (hand + 1 + (k : Int)) % (n : Int) = (q : Int) := ⟨((hand + 1 + (k : Int)) % (n : Int)).toNat, by have := Int.emod_nonneg (hand + 1 + (k : Int)) (show (n : Int) ≠ 0 by omega); omega⟩
      have hqn : q < n := by have := Int.emod_lt_of_pos (hand + 1 + (k : Int)) i3; omega
      have c1 := H.out.cell (q * 3 + 1) (by omega)
      have hx : (F.getD (q * 3 + 1) 0 == 0) = false := by simpa using HA.out q hqn
      have i1 : (0 : Int) ≤ (q : Int) := by omega
      have i2 : (q : Int) < (n : Int) := by omega
      generalize F.getD (q * 3 + 1) 0 = x at *
      go_wp2_with fail
      go_round
      case rel => exact ⟨k + 1, by omega, by simp⟩
      case measure => simp [intOf]; omega
    · obtain rfl : k = n := by omega
      go_wp2
      go_ret2
      exact ⟨rfl, rfl⟩
set_option maxHeartbeats 1000000 in
theorem count_any (st : Int) (h : Tb w bt g TB IN n size hand F) (hn : n ≤ 512) :
    Calls Try.prog 15 #[.pointer (some ⟨bt, 0, none⟩), .int .i64 st] w fun e w' => e = .returned (.int .i64 (cnt F st n : Nat)) ∧ Below w.heap.size w w' := by
  have H := Lib.hid h
  have t0 := h.top.cell 0
  simp at t0
  clear h
  go_enter Try.func15, Try.ntmps15
  go_wp2_with fail
  clear t0
  go_loopw [5, 13] (fun c i wr => ∃ k : Nat, k ≤ n ∧ i = .int .i64 k ∧ c = .int .i64 (cnt F st k : Nat) ∧ Below w.heap.size w wr) (fun _ i _ => n - (intOf i).toNat)
  case atStart => exact ⟨0, by omega, rfl, rfl, Below.refl _ _⟩
  case round =>
    obtain ⟨k, hk, rfl, rfl, hb⟩ := hrel
    have HT := Lib.hid (H.out.later hb)
    have HB := Lib.hid hb
    have hle := cnt_le F st k
    clear hb
    by_cases hlt : k < n
    · have c0 := HT.out.cell (k * 3) (by omega)
      have c1 := HT.out.cell (k * 3 + 1) (by omega)
      have c2 := HT.out.cell (k * 3 + 2) (by omega)
      have i1 : (0 : Int) ≤ (k : Int) := by omega
      have i2 : (k : Int) < (n : Int) := by omega
      by_cases h2 : F.getD (k * 3 + 1) 0 = st
      · have HN := Lib.hid (cnt_yes F st k h2)
        rw [h2] at c1
        clear h2
        go_wp2_with fail
        go_roundw
        case rel => exact ⟨k + 1, by omega, by simp, by rw [HN.out]; simp, HB.out.alloc HB.out.size _⟩
        case measure => simp [intOf]; omega
      · have HN := Lib.hid (cnt_no F st k h2)
        have h3 : (F.getD (k * 3 + 1) 0 == st) = false := by simpa using h2
        clear h2
        generalize F.getD (k * 3 + 1) 0 = x at *
        go_wp2_with fail
        go_roundw
        case rel => exact ⟨k + 1, by omega, by simp, by rw [HN.out], HB.out.alloc HB.out.size _⟩
        case measure => simp [intOf]; omega
    · obtain rfl : k = n := by omega
      clear hlt
      go_wp2
      go_ret
      exact ⟨rfl, HB.out⟩
end
end Go.Proofs.Ytfilbbiiiaodiaa
