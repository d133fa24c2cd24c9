/-
  NameRoot.
-/
import Derived.Test.YtkgkjjkefifpaaaNaMathB
namespace Go.Proofs.Ytkgkjjkefifpaaa
open Go.RowKit

def slN (k : Nat) : ByteArray := ba (List.replicate k 47)
theorem slN_size (k : Nat) : (slN k).size = k := by unfold slN; rw [ba_size, List.length_replicate]
theorem slN_snoc (k : Nat) : slN k ++ ⟨#[47]⟩ = slN (k + 1) := by
  refine str_ext ?_
  unfold slN
  rw [ba_data, List.replicate_succ']
  simp
theorem toks_sl : ∀ k, toks [] (List.replicate k 47) = []
  | 0 => rfl
  | k + 1 => by rw [List.replicate_succ, toks_slash, toks_sl k]
theorem slN_nml (k : Nat) : nml (slN k) = [] := by unfold nml slN; rw [ba_data, toks_sl]; rfl
theorem slN_get (k j : Nat) (h : j < k) : (slN k).get! j = 47 := by
  have h1 := byte_at (slN k) j (by rw [slN_size]; exact h)
  rw [show (slN k).data.toList = List.replicate k 47 from ba_data _, List.getElem?_replicate, if_pos h] at h1
  exact (Option.some.inj h1).symm
theorem slN_long {k : Nat} (h : 255 < k) : spE (slN k) = 36 ∧ paE (slN k) = 36 := by
  have h1 : spE (slN k) = 36 := spE_long (by rw [slN_size]; exact h)
  exact ⟨h1, by rw [paE_sp (by rw [h1]; decide), h1]⟩
theorem slN_ok {k : Nat} (h : ¬ 255 < k) (h0 : k ≠ 0) : spE (slN k) = 0 ∧ spL (slN k) = [] ∧ spD (slN k) = true ∧ paE (slN k) = 22 := by
  have h1 : spE (slN k) = 0 := by
    rw [spE_chk (by rw [slN_size]; exact h) (fun hx => hx.elim (by rw [slN_size]; exact h0) (fun h6 => h6 (slN_get k 0 (by omega)))), slN_nml]; rfl
  have h2 : spL (slN k) = [] := by rw [spL_ok h1, slN_nml]
  refine ⟨h1, h2, ?_, paE_none h1 h2⟩
  rw [spD_ok h1]
  unfold dirB
  rw [slN_size, slN_get k (k - 1) (by omega)]
  rfl
theorem mod300 (i : Int) : ∃ n : Nat, n < 300 ∧ ((IntKind.u64.wrap i).tmod 300) = (n : Int) := by
  have h0 : 0 ≤ IntKind.u64.wrap i := by simp [IntKind.wrap, IntKind.signed, IntKind.bits]; omega
  refine ⟨((IntKind.u64.wrap i).tmod 300).toNat, ?_, ?_⟩
  · rw [Int.tmod_eq_emod_of_nonneg h0]; omega
  · rw [Int.tmod_eq_emod_of_nonneg h0]; omega
def RoR (w : World) (n : Nat) (v3 v4 : Value) (W : World) : Prop := ∃ k : Nat, k ≤ n ∧ v4 = .int .i64 k ∧ v3 = .string (slN k) ∧ Below w.heap.size w W
set_option maxRecDepth 100000 in
set_option maxHeartbeats 8000000 in
theorem nameRoot_walk (i : Int) (w : World) (hi : (Lit.int .i64 i).wf = true) : Calls Try.prog 7 #[.int .i64 i] w fun e w' => e = .returned (.bool true) ∧ Below w.heap.size w w' := by
  obtain ⟨n0, hn0, hin⟩ := mod300 i
  go_enter Try.func7, Try.ntmps7
  go_wp2_with fail
  refine (awake_any _).mono ?_
  rintro e w1 ⟨rfl, hb1⟩
  have HB1 := Lib.hid hb1
  clear hb1
  go_upto_region 5 with fail
  clear hin hi
  obtain ⟨n, hn⟩ : ∃ n : Nat, n = n0 + 1 := ⟨_, rfl⟩
  have e1 : (n0 : Int) + 1 = (n : Int) := by omega
  rw [e1]
  have HNn : Hid (n ≤ 300 ∧ n ≠ 0) := by show _ ∧ _; omega
  clear e1 hn hn0
  go_wp2_with fail
  go_loopw [3, 4] (fun v3 v4 wr => RoR w n v3 v4 wr) (fun _ v4 _ => n - (intOf v4).toNat)
  case atStart => exact ⟨0, Nat.zero_le _, rfl, rfl, HB1.out⟩
  case round =>
    obtain ⟨k, hk, rfl, rfl, hbw⟩ := hrel
    have HW := Lib.hid hbw
    clear hbw
    by_cases hlt : k < n
    · have z1 : (k : Int) < (n : Int) := by omega
      have z2 : (k : Int) < 300 := by have := HNn.out; omega
      have hs := slN_snoc k
      have hsz : (slN k).size + 1 ≤ 9223372036854775807 := by rw [slN_size]; have := HNn.out; omega
      have HKn : Hid (k < n) := hlt
      clear hlt hk
      generalize hq : slN (k + 1) = q at *
      have HQ := Lib.hid hq
      clear hq
      go_wp2_with fail
      exact ⟨⟨k + 1, HKn.out, by go_num, by rw [HQ.out], HW.out⟩, by simp [intOf]; have := HKn.out; omega⟩
    · obtain rfl : k = n := by omega
      by_cases hlong : 255 < k
      · obtain ⟨q1, q2⟩ := slN_long hlong
        have HS := Lib.hid (split_any (slN k))
        have HP := Lib.hid (parent_any (slN k))
        unfold SpO at HS
        unfold PaO at HP
        rw [q1] at HS
        rw [q2] at HP
        have z3 : (255 : Int) < (k : Int) := by omega
        clear q1 q2 hlong hk hlt
        generalize slN k = sk at *
        generalize spD sk = d at *
        generalize paN sk = pn at *
        go_wp2_with fail
        refine (HS.out _).mono ?_
        rintro e w2 ⟨a2, n2, c2, rfl, -, -, -, -, hb2⟩
        have HB2 := Lib.hid (HW.out.trans (hb2.mono HW.out.size))
        clear hb2 HW
        go_wp2_with fail
        refine (HP.out _).mono ?_
        rintro e w3 ⟨a3, n3, c3, rfl, -, -, -, -, hb3⟩
        have HB3 := Lib.hid (HB2.out.trans (hb3.mono HB2.out.size))
        clear hb3 HB2
        go_wp2_with fail
        go_ret
        exact ⟨rfl, HB3.out⟩
      · obtain ⟨q1, q2, q3, q4⟩ := slN_ok hlong HNn.out.2
        have HS := Lib.hid (split_any (slN k))
        have HP := Lib.hid (parent_any (slN k))
        unfold SpO at HS
        unfold PaO at HP
        rw [q1, q2, q3] at HS
        rw [q4] at HP
        have z3 : ¬ (255 : Int) < (k : Int) := by omega
        clear q1 q2 q3 q4 hlong hk hlt
        generalize slN k = sk at *
        generalize paN sk = pn at *
        go_wp2_with fail
        refine (HS.out _).mono ?_
        rintro e w2 ⟨a2, n2, c2, rfl, hn2, -, -, -, hb2⟩
        obtain rfl : n2 = 0 := hn2
        have HB2 := Lib.hid (HW.out.trans (hb2.mono HW.out.size))
        clear hb2 HW
        go_wp2_with fail
        refine (HP.out _).mono ?_
        rintro e w3 ⟨a3, n3, c3, rfl, -, -, -, -, hb3⟩
        have HB3 := Lib.hid (HB2.out.trans (hb3.mono HB2.out.size))
        clear hb3 HB2
        go_wp2_with fail
        go_ret
        exact ⟨rfl, HB3.out⟩
end Go.Proofs.Ytkgkjjkefifpaaa
