/-
  The walk of UsageRounds: segments that are released as soon as another one is taken are given in turn, for ever.
-/
import Derived.Test.YtfilbbiiiaodiaaUsAwake
import Derived.Test.YtfilbbiiiaodiaaUsRMath
import Derived.Test.YtfilbbiiiaodiaaKit
namespace Go.Proofs.Ytfilbbiiiaodiaa
open Go.RowKit

theorem cut30 (x : Int) : ∃ k : Nat, k < 30 ∧ wrap64 ((IntKind.u64.wrap x).tmod 30) = (k : Int) := by
  obtain ⟨k, hk, e⟩ := cut_mod x 29 (by decide)
  exact ⟨k, by omega, e⟩
theorem cut100 (x : Int) : ∃ k : Nat, k < 100 ∧ wrap64 ((IntKind.u64.wrap x).tmod 100) = (k : Int) := by
  obtain ⟨k, hk, e⟩ := cut_mod x 99 (by decide)
  exact ⟨k, by omega, e⟩
def RRel (w : World) (bt g n r : Nat) (i : Value) (wr : World) : Prop :=
  ∃ k : Nat, i = .int .i64 k ∧ k ≤ r ∧ Below w.heap.size w wr ∧ ((k = 0 ∧ Tb wr bt g TB IN n 8 (-1) (zer n)) ∨ (0 < k ∧ Tb wr bt g TB IN n 8 (((k - 1) % n : Nat) : Int) (act n ((k - 1) % n))))
theorem turn_mod (k n : Nat) (hk : 0 < k) (hn : 2 ≤ n) : (k - 1) % n < n ∧ k % n < n ∧ (k - 1) % n ≠ k % n ∧ ((((k - 1) % n : Nat) : Int) + 1) % (n : Int) = ((k % n : Nat) : Int) := by
  have h1 : (k - 1) % n < n := Nat.mod_lt _ (by omega)
  have h2 : k % n = ((k - 1) % n + 1) % n := by
    conv => lhs; rw [show k = (k - 1) + 1 by omega]
    rw [Nat.add_mod, Nat.mod_eq_of_lt (show 1 < n by omega)]
  refine ⟨h1, Nat.mod_lt _ (by omega), ?_, ?_⟩
  · rw [h2]
    rcases Nat.lt_or_ge ((k - 1) % n + 1) n with h | h
    · rw [Nat.mod_eq_of_lt h]; omega
    · rw [show (k - 1) % n + 1 = n by omega, Nat.mod_self]; omega
  · rw [h2]; rfl
theorem count_act {w : World} {bt g n s : Nat} {size hand : Int} (h : Tb w bt g TB IN n size hand (act n s)) (hn : n ≤ 512) (hs : s < n) :
    Calls Try.prog 15 #[.pointer (some ⟨bt, 0, none⟩), .int .i64 0] w fun e w' => e = .returned (.int .i64 ((n : Int) - 1)) ∧ Below w.heap.size w w' := by
  have h1 := count_any 0 h hn
  rw [cnt_all n s hs, show ((n - 1 : Nat) : Int) = (n : Int) - 1 by omega] at h1
  exact h1
set_option maxHeartbeats 2000000 in
theorem usageRounds_any (a b : Int) (w : World) :
    Calls Try.prog 6 #[.int .i64 a, .int .i64 b] w fun e w' => e = .returned (.bool true) ∧ Below w.heap.size w w' := by
  obtain ⟨m, hm, hme⟩ := cut30 a
  obtain ⟨r, hr, hre⟩ := cut100 b
  have HAw := Lib.hid (awake_any w)
  have HNew := Lib.hid (fun W => new_any (m + 2) 8 W (by omega) (by omega) (by decide) (by decide))
  have hn2 : 2 ≤ m + 2 := by omega
  have hn3 : m + 2 ≤ 512 := by omega
  have e2 : Hid ((m : Int) + 2 = ((m + 2 : Nat) : Int)) := by show _ = _; omega
  go_enter Try.func6, Try.ntmps6
  go_wp2_with fail
  refine HAw.out.mono ?_
  rintro e w1 ⟨rfl, hb1⟩
  have HB1 := Lib.hid hb1
  clear hb1 HAw
  go_wp2_with fail
  rw [e2.out]
  try rw [hre]
  clear hme hre e2
  generalize m + 2 = n at *
  refine (HNew.out _).mono ?_
  rintro e w2 ⟨bt, g, rfl, ht, hbt, hbg, hb⟩
  have HT := Lib.hid ht
  have HB2 : Hid (Below w.heap.size w w2) := HB1.out.trans (hb.mono HB1.out.size)
  have hbt' : w.heap.size ≤ bt := Nat.le_trans HB1.out.size hbt
  have hbg' : w.heap.size ≤ g := Nat.le_trans HB1.out.size hbg
  clear ht hb HNew hbt hbg
  go_wp2_with fail
  go_loopw [7] (fun i wr => RRel w bt g n r i wr) (fun i _ => r - (intOf i).toNat)
  case atStart => exact ⟨0, rfl, Nat.zero_le _, HB2.out, .inl ⟨rfl, HT.out⟩⟩
  case round =>
    obtain ⟨k, rfl, hk, hb, hcase⟩ := hrel
    have HB := Lib.hid hb
    clear hb
    by_cases hlt : k < r
    · rcases hcase with ⟨rfl, ht⟩ | ⟨hpos, ht⟩
      · have HTk := Lib.hid ht
        clear ht
        simp only [show ((0 : Nat) : Int) = (0 : Int) from rfl]
        have hn0 : (0 : Int) < (n : Int) := by omega
        have hz : (0 : Int) % (n : Int) = 0 := Int.zero_emod _
        go_wp2_with fail
        refine (take_first (seg := 0) (B := w.heap.size) HTk.out hn3 hbg' hbt' (by decide) (by simp) (by omega) (zer_state n 0 (by omega))).mono ?_
        rintro e w3 ⟨rfl, ht, hb⟩
        rw [seiz_zer] at ht
        have HT3 := Lib.hid ht
        have HB3 : Hid (Below w.heap.size w w3) := HB.out.trans hb
        clear ht hb
        go_wp2_with fail
        refine (rel_busy (seg := 0) HT3.out (by omega) hn3 (by rw [act_state n 0 0 (by omega)]; rfl)).mono ?_
        rintro e w4 ⟨rfl, rfl⟩
        go_wp2_with fail
        refine (count_act HT3.out hn3 (by omega)).mono ?_
        rintro e w5 ⟨rfl, hb⟩
        have HT5 := Lib.hid (HT3.out.later hb)
        have HB5 : Hid (Below w.heap.size w w5) := HB3.out.trans (hb.mono HB3.out.size)
        clear hb
        go_wp2_with fail
        go_roundw
        case rel => exact ⟨1, rfl, by omega, HB5.out, .inr ⟨by decide, by rw [show (1 - 1) % n = 0 from Nat.zero_mod n]; exact HT5.out⟩⟩
        case measure => simp [intOf]; omega
      · have HTk := Lib.hid ht
        obtain ⟨hp, hs, hne, hps⟩ := turn_mod k n hpos hn2
        have hks : (k : Int) % (n : Int) = ((k % n : Nat) : Int) := rfl
        have hkp : ((k : Int) - 1) % (n : Int) = (((k - 1) % n : Nat) : Int) := by
          rw [show (k : Int) - 1 = ((k - 1 : Nat) : Int) by omega]
          rfl
        have hse : Hid ((k + 1 - 1) % n = k % n) := by show _ = _; rw [Nat.add_sub_cancel]
        clear ht
        generalize (k - 1) % n = q at *
        generalize k % n = v at *
        have hn0 : (0 : Int) < (n : Int) := by omega
        have hk1 : (1 : Int) ≤ (k : Int) := by omega
        have hk2 : (0 : Int) ≤ (k : Int) - 1 := by omega
        have HPS := Lib.hid hps
        clear hps
        go_wp2_with fail
        refine (take_first (seg := v) (B := w.heap.size) HTk.out hn3 hbg' hbt' (by omega) HPS.out hs (by rw [act_state n q v hs, if_neg hne])).mono ?_
        rintro e w3 ⟨rfl, ht, hb⟩
        have HT3 := Lib.hid ht
        have HB3 : Hid (Below w.heap.size w w3) := HB.out.trans hb
        clear ht hb
        go_wp2_with fail
        refine (rel_yes (seg := q) (B := w.heap.size) HT3.out hp hn3 (mid_state n q v hp hne) (mid_live n q v hp) hbg').mono ?_
        rintro e w4 ⟨rfl, ht, hb⟩
        rw [rel_mid n q v hp hne] at ht
        have HT4 := Lib.hid ht
        have HB4 : Hid (Below w.heap.size w w4) := HB3.out.trans hb
        clear ht hb
        go_wp2_with fail
        refine (rel_busy (seg := v) HT4.out hs hn3 (by rw [act_state n v v hs, if_pos rfl])).mono ?_
        rintro e w5 ⟨rfl, rfl⟩
        go_wp2_with fail
        refine (count_act HT4.out hn3 hs).mono ?_
        rintro e w6 ⟨rfl, hb⟩
        have HT6 := Lib.hid (HT4.out.later hb)
        have HB6 : Hid (Below w.heap.size w w6) := HB4.out.trans (hb.mono HB4.out.size)
        clear hb
        go_wp2_with fail
        go_roundw
        case rel => exact ⟨k + 1, by simp, by omega, HB6.out, .inr ⟨by omega, by rw [hse.out]; exact HT6.out⟩⟩
        case measure => simp [intOf]; omega
    · clear hcase
      go_wp2
      go_ret
      exact ⟨rfl, HB.out⟩
theorem usageRounds_walk (a b : Int) (w : World) (_ : (Lit.int .i64 a).wf = true) (_ : (Lit.int .i64 b).wf = true) :
    Calls Try.prog 6 #[.int .i64 a, .int .i64 b] w fun e w' => e = .returned (.bool true) ∧ Below w.heap.size w w' := usageRounds_any a b w
end Go.Proofs.Ytfilbbiiiaodiaa
