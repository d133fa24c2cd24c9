/-
  Name, of the program and of the document, at any text.
-/
import Derived.Test.YtagigeacjendiaaNmAny
namespace Go.Proofs.Ytagigeacjendiaa
open Go.RowKit

/-- What is wrong with a name. -/
def nmE (s : ByteArray) : Int := if 14 < s.size then 36 else if s = ⟨#[]⟩ ∨ s = ⟨#[46]⟩ ∨ s = ⟨#[46, 46]⟩ then 22 else if badB s = true then 22 else 0
theorem nmE_long {s : ByteArray} (h : 14 < s.size) : nmE s = 36 := by unfold nmE; rw [if_pos h]
theorem nmE_dots {s : ByteArray} (h : ¬ 14 < s.size) (h1 : s = ⟨#[]⟩ ∨ s = ⟨#[46]⟩ ∨ s = ⟨#[46, 46]⟩) : nmE s = 22 := by unfold nmE; rw [if_neg h, if_pos h1]
theorem nmE_bad {s : ByteArray} (h : ¬ 14 < s.size) (h2 : badB s = true) : nmE s = 22 := by unfold nmE; rw [if_neg h]; split <;> simp [h2]
theorem nmE_ok {s : ByteArray} (h : ¬ 14 < s.size) (h1 : ¬ (s = ⟨#[]⟩ ∨ s = ⟨#[46]⟩ ∨ s = ⟨#[46, 46]⟩)) (h2 : badB s = false) : nmE s = 0 := by unfold nmE; rw [if_neg h, if_neg h1, h2]; rfl
theorem bne_of {s : ByteArray} {l : List UInt8} (h : ¬ s = ⟨l.toArray⟩) : (s.toList == l) = false := by
  refine beq_eq_false_iff_ne.2 fun e => h ?_
  rw [Lib.toList_data] at e
  cases s with
  | mk d => cases d with
    | mk q => simp at e; rw [e]
set_option maxHeartbeats 4000000 in
theorem name_any (s : ByteArray) (w : World) : Calls Try.prog 20 #[.string s] w fun e w' => e = .returned (.int .i64 (nmE s)) ∧ Below w.heap.size w w' := by
  have HB := Lib.hid (Below.refl w.heap.size w)
  by_cases h1 : 14 < s.size
  · rw [nmE_long h1]
    have hl : (14 : Int) < (s.size : Int) := by omega
    go_enter Try.func20, Try.ntmps20
    go_wp2
    go_ret
    exact ⟨rfl, HB.out⟩
  · by_cases h2 : s = ⟨#[]⟩ ∨ s = ⟨#[46]⟩ ∨ s = ⟨#[46, 46]⟩
    · rw [nmE_dots h1 h2]
      rcases h2 with rfl | rfl | rfl
      all_goals
        go_enter Try.func20, Try.ntmps20
        go_wp2
        go_ret
        exact ⟨rfl, HB.out⟩
    · have hl : ¬ (14 : Int) < (s.size : Int) := by omega
      have HC := Lib.hid (containsAny_nul s w (by omega))
      have n0 : ¬ s = ⟨#[]⟩ := fun e => h2 (.inl e)
      have n1 : ¬ s = ⟨#[46]⟩ := fun e => h2 (.inr (.inl e))
      have n2 : ¬ s = ⟨#[46, 46]⟩ := fun e => h2 (.inr (.inr e))
      have m0 : ¬ s.toList = [] := fun e => absurd (bne_of (l := []) n0) (by rw [e]; decide)
      have m0' : s.toList.isEmpty = false := by cases h : s.toList with | nil => exact absurd h m0 | cons _ _ => rfl
      have m1 := bne_of (l := [46]) n1
      have m2 := bne_of (l := [46, 46]) n2
      have HE : Hid (nmE s = if badB s = true then 22 else 0) := by
        show nmE s = _
        unfold nmE; rw [if_neg h1, if_neg h2]
      clear h1 h2 n0 n1 n2
      cases hb : badB s
      · rw [hb] at HE HC
        have e := HE.out
        rw [if_neg (by decide)] at e
        rw [e]
        clear e HE hb
        go_enter Try.func20, Try.ntmps20
        go_wp2_with (go_at_call 31; refine HC.out.mono ?_; rintro e w' ⟨rfl, hw⟩)
        go_ret
        exact ⟨rfl, hw⟩
      · rw [hb] at HE HC
        have e := HE.out
        rw [if_pos rfl] at e
        rw [e]
        clear e HE hb
        go_enter Try.func20, Try.ntmps20
        go_wp2_with (go_at_call 31; refine HC.out.mono ?_; rintro e w' ⟨rfl, hw⟩)
        go_ret
        exact ⟨rfl, hw⟩
/-! The document's. -/
theorem badB_no {s : ByteArray} (h : Lib.NoAny s.data.toList [0, 47] s.data.toList.length) : badB s = false := by
  unfold badB Lib.containsAny; rw [Lib.indexAny_none h]; rfl
theorem badB_hit {s : ByteArray} {i : Nat} {x : UInt8} (h : Lib.NoAny s.data.toList [0, 47] i) (hx : s.data.toList[i]? = some x) (hc : ([0, 47] : List UInt8).contains x = true) : badB s = true := by
  unfold badB Lib.containsAny; rw [Lib.indexAny_hit h hx hc]; simp
set_option maxHeartbeats 4000000 in
theorem refName_any (s : ByteArray) (w : World) : Calls Try.prog 21 #[.string s] w fun e w' => e = .returned (.int .i64 (nmE s)) ∧ w = w' := by
  by_cases h1 : 14 < s.size
  · rw [nmE_long h1]
    have hl : (14 : Int) < (s.size : Int) := by omega
    go_enter Try.func21, Try.ntmps21
    go_wp2
    go_ret
    exact ⟨rfl, rfl⟩
  · by_cases h2 : s = ⟨#[]⟩ ∨ s = ⟨#[46]⟩ ∨ s = ⟨#[46, 46]⟩
    · rw [nmE_dots h1 h2]
      rcases h2 with rfl | rfl | rfl
      all_goals
        go_enter Try.func21, Try.ntmps21
        go_wp2
        go_ret
        exact ⟨rfl, rfl⟩
    · have hl : ¬ (14 : Int) < (s.size : Int) := by omega
      have hsz : s.size ≤ 14 := by omega
      have n0 : ¬ s = ⟨#[]⟩ := fun e => h2 (.inl e)
      have n1 : ¬ s = ⟨#[46]⟩ := fun e => h2 (.inr (.inl e))
      have n2 : ¬ s = ⟨#[46, 46]⟩ := fun e => h2 (.inr (.inr e))
      have m0 : ¬ s.toList = [] := fun e => absurd (bne_of (l := []) n0) (by rw [e]; decide)
      have m0' : s.toList.isEmpty = false := by cases h : s.toList with | nil => exact absurd h m0 | cons _ _ => rfl
      have m1 := bne_of (l := [46]) n1
      have m2 := bne_of (l := [46, 46]) n2
      have HY : Hid (badB s = true → nmE s = 22) := fun h => nmE_bad h1 h
      have HN : Hid (badB s = false → nmE s = 0) := fun h => nmE_ok h1 h2 h
      clear h1 h2 n0 n1 n2
      generalize nmE s = ans at *
      go_enter Try.func21, Try.ntmps21
      go_wp2
      go_loop [3] (fun i => ∃ k : Nat, k ≤ s.size ∧ i = .int .i64 k ∧ Lib.NoAny s.data.toList [0, 47] k) (fun i => s.size - (intOf i).toNat)
      case atStart => exact ⟨0, Nat.zero_le _, rfl, Lib.NoAny.zero _ _⟩
      case round =>
        obtain ⟨k, hk, rfl, hno⟩ := hrel
        have HNo := Lib.hid hno
        clear hno
        by_cases hlt : k < s.size
        · have HX := Lib.hid (byte_at s k hlt)
          have hg : s[k] = s.get! k := by
            simp [ByteArray.get!, getElem!_pos, hlt]
            rfl
          by_cases z0 : s.get! k = 0
          · have HA : Hid (ans = 22) := HY.out (badB_hit HNo.out HX.out (by rw [z0]; decide))
            have hv : s[k].toNat = 0 := by rw [hg, z0]; rfl
            clear hg z0 HX
            go_wp2
            go_ret
            exact ⟨by rw [HA.out]; rfl, rfl⟩
          · by_cases z1 : s.get! k = 47
            · have HA : Hid (ans = 22) := HY.out (badB_hit HNo.out HX.out (by rw [z1]; decide))
              have hv : s[k].toNat = 47 := by rw [hg, z1]; rfl
              clear hg z0 z1 HX
              go_wp2
              go_ret
              exact ⟨by rw [HA.out]; rfl, rfl⟩
            · have HN2 := Lib.hid (HNo.out.succ HX.out (by simp [z0, z1]))
              have hv0 : ((s[k].toNat : Int) == 0) = false := beq_eq_false_iff_ne.2 fun e => z0 (by rw [← hg]; exact UInt8.toNat_inj.1 (by simpa using e))
              have hv1 : ((s[k].toNat : Int) == 47) = false := beq_eq_false_iff_ne.2 fun e => z1 (by rw [← hg]; exact UInt8.toNat_inj.1 (by show _ = 47; omega))
              clear hg z0 z1 HX
              go_wp2
              go_round
              case rel => exact ⟨k + 1, hlt, by go_num, HN2.out⟩
              case measure => simp [intOf]; omega
        · obtain rfl : k = s.size := by omega
          have HA : Hid (ans = 0) := HN.out (badB_no (by rw [← Lib.size_eq]; exact HNo.out))
          go_wp2
          go_ret
          exact ⟨by rw [HA.out]; rfl, rfl⟩
end Go.Proofs.Ytagigeacjendiaa
