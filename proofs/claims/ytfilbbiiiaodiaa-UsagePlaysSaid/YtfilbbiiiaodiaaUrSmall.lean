/-
  The document's New, Count and Total of a table.
-/
import Derived.Test.YtfilbbiiiaodiaaUrUse
import Derived.Test.YtfilbbiiiaodiaaUsGet
namespace Go.Proofs.Ytfilbbiiiaodiaa
open Go.RowKit

section
variable {w : World} {g n cap s : Nat} {size hand : Int} {F : List Int}
set_option maxHeartbeats 1000000 in
theorem rnew_any (n : Nat) (size : Int) (w : World) (h1 : 1 ≤ n) (h2 : n ≤ 512) (h3 : 1 ≤ size) (h4 : size ≤ 64) :
    Calls Try.prog 10 #[.int .i64 n, .int .i64 size] w fun e w' => ∃ g', e = .returned (.tuple #[rv g' n n size ((n : Int) - 1), .int .i64 0]) ∧ w.heap.size ≤ g' ∧ RT w' g' n (List.replicate (3 * n) 0) ∧ Below w.heap.size w w' := by
  have hmk := fun W => run_make3 (P := Try.prog) 28 69 24 Try.underlying28 info_rin W n n rfl (by omega) (by decide)
  go_enter Try.func10, Try.ntmps10
  go_wp2_with fail
  refine bodyPost_ret (v := .tuple #[rv (w.heap.size + 1) n n size ((n : Int) - 1), .int .i64 0]) (by simp [results, Try.results10, go_sem]) rfl ⟨w.heap.size + 1, rfl, by omega, ?_, ?_⟩
  · have q := (two_laid w RTB RIN #[.slice (some ⟨w.heap.size + 1, 0, none⟩) n n, .int .i64 size, .int .i64 ((n : Int) - 1)] (cellsI (List.replicate (3 * n) 0)).toArray).2
    exact ⟨⟨_, q, fun j hj => by simpa using cellsI_get (List.replicate (3 * n) 0) j (by simp; omega)⟩, by simp⟩
  · exact below2 w _ _ RTB RIN
def RCnt (F : List Int) (stt : Int) (n : Nat) (v i : Value) : Prop := ∃ k : Nat, k ≤ n ∧ i = .int .i64 k ∧ v = .int .i64 (cnt F stt k : Nat)
set_option maxHeartbeats 1000000 in
theorem rcount_any (stt : Int) (h : RT w g n F) (hn : n ≤ 512) :
    Calls Try.prog 32 #[rv g n cap size hand, .int .i64 stt] w fun e w' => e = .returned (.int .i64 (cnt F stt n : Nat)) ∧ Below w.heap.size w w' := by
  have hb1 : Below w.heap.size w (w.alloc (.cells #[.slice (some ⟨g, 0, none⟩) n cap, .int .i64 size, .int .i64 hand] RTB)) := (Below.refl _ _).alloc (Nat.le_refl _) _
  have HB1 := Lib.hid hb1
  have HR1 := Lib.hid (h.later hb1)
  clear hb1 h
  go_enter Try.func32, Try.ntmps32
  go_wp2_with fail
  go_loop [5, 10] (fun v i => RCnt F stt n v i) (fun _ i => n - (intOf i).toNat)
  case atStart => exact ⟨0, Nat.zero_le _, rfl, rfl⟩
  case round =>
    obtain ⟨k, hk, rfl, rfl⟩ := hrel
    have hcl := cnt_le F stt k
    by_cases hlt : k < n
    · have x1 := HR1.out.cell (k * 3 + 1) (by omega)
      have i1 : (0 : Int) ≤ (k : Int) := by omega
      have i2 : (k : Int) < (n : Int) := by omega
      by_cases he : F.getD (k * 3 + 1) 0 = stt
      · have HC := Lib.hid (cnt_yes F stt k he)
        rw [he] at x1
        clear he
        go_wp2_with fail
        go_round
        case rel => exact ⟨k + 1, by omega, by simp, by rw [HC.out]; simp⟩
        case measure => simp [intOf]; omega
      · have HC := Lib.hid (cnt_no F stt k he)
        have he2 : (F.getD (k * 3 + 1) 0 == stt) = false := by rw [beq_eq_false_iff_ne]; exact he
        generalize F.getD (k * 3 + 1) 0 = S at *
        clear he
        go_wp2_with fail
        go_round
        case rel => exact ⟨k + 1, by omega, by simp, by rw [HC.out]⟩
        case measure => simp [intOf]; omega
    · obtain rfl : k = n := by omega
      clear hlt
      go_wp2
      go_ret
      exact ⟨rfl, HB1.out⟩
def RSum (F : List Int) (n : Nat) (v i : Value) : Prop := ∃ k : Nat, k ≤ n ∧ i = .int .i64 k ∧ v = .int .i64 (sumL F k)
set_option maxHeartbeats 1000000 in
theorem rtotal_any (h : RT w g n F) (hn : n ≤ 512) (hS : ∀ k, k ≤ n → 0 ≤ sumL F k ∧ sumL F k ≤ 40000) :
    Calls Try.prog 33 #[rv g n cap size hand] w fun e w' => e = .returned (.int .i64 (sumL F n)) ∧ Below w.heap.size w w' := by
  have hb1 : Below w.heap.size w (w.alloc (.cells #[.slice (some ⟨g, 0, none⟩) n cap, .int .i64 size, .int .i64 hand] RTB)) := (Below.refl _ _).alloc (Nat.le_refl _) _
  have HB1 := Lib.hid hb1
  have HR1 := Lib.hid (h.later hb1)
  have HS := Lib.hid hS
  clear hb1 h hS
  go_enter Try.func33, Try.ntmps33
  go_wp2_with fail
  go_loop [3, 8] (fun v i => RSum F n v i) (fun _ i => n - (intOf i).toNat)
  case atStart => exact ⟨0, Nat.zero_le _, rfl, rfl⟩
  case round =>
    obtain ⟨k, hk, rfl, rfl⟩ := hrel
    have s1 := HS.out k hk
    by_cases hlt : k < n
    · have x1 := HR1.out.cell (k * 3) (by omega)
      have s2 := HS.out (k + 1) (by omega)
      have HC : Hid (sumL F (k + 1) = sumL F k + F.getD (k * 3) 0) := rfl
      rw [HC.out] at s2
      have i1 : (0 : Int) ≤ (k : Int) := by omega
      have i2 : (k : Int) < (n : Int) := by omega
      generalize F.getD (k * 3) 0 = L at *
      go_wp2_with fail
      go_round
      case rel => exact ⟨k + 1, by omega, by simp, by rw [HC.out]⟩
      case measure => simp [intOf]; omega
    · obtain rfl : k = n := by omega
      clear hlt
      go_wp2
      go_ret
      exact ⟨rfl, HB1.out⟩
end
end Go.Proofs.Ytfilbbiiiaodiaa
