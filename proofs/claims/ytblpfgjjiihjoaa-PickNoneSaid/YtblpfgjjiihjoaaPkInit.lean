/-
  Init of a heap of candidates.
-/
import Derived.Test.YtblpfgjjiihjoaaPkPop
namespace Go.Proofs.Ytblpfgjjiihjoaa
open Go.RowKit
/-- From h0 on, all places from k on have gone down among the first n. -/
inductive Ini (n : Nat) (h0 : Nat → Rk) : (Nat → Rk) → Nat → Prop
  | here : Ini n h0 h0 (n / 2)
  | step {h h' : Nat → Rk} {k i' : Nat} : Ini n h0 h (k + 1) → Dn n h k h' i' → Still n h' i' → Ini n h0 h' k
section
variable {w w' : World} {po gr m cap i j C n : Nat} {t : TypeId} {h : Nat → Rk}
def II (C : Nat) (w : World) (po gr m cap : Nat) (t : TypeId) (h0 : Nat → Rk) (v : Value) (wr : World) : Prop :=
  ∃ (h : Nat → Rk) (k : Nat), v = .int .i64 ((k : Int) - 1) ∧ k ≤ m / 2 ∧ Ini m h0 h k ∧ Hp wr po gr m cap t h ∧ Below C w wr ∧ FrG gr w wr
set_option maxHeartbeats 4000000 in
theorem init_any (hH : Hp w po gr m cap t h) (hm : m ≤ 512) (hC : C ≤ gr) :
    Calls Try.prog 29 #[.iface 47 (.pointer (some ⟨po, 0, none⟩))] w fun e w' => ∃ h', e = .returned (.tuple #[]) ∧ Ini m h h' 0 ∧ Hp w' po gr m cap t h' ∧ Below C w w' ∧ FrG gr w w' := by
  have hln : (method 178 47 (.pointer (some ⟨po, 0, none⟩)) "Len").run Try.prog w = .ok (27, .slice (some ⟨gr, 0, none⟩) m cap) w := (method_len _ _).trans (load_order hH.cell)
  have HS0 : Hid (II C w po gr m cap t h (.int .i64 (((m / 2 : Nat) : Int) - 1)) w) := ⟨h, m / 2, rfl, Nat.le_refl _, .here, hH, Below.refl _ _, fun _ _ _ _ hx => hx⟩
  clear hH
  go_enter Try.func29, Try.ntmps29
  go_wp2_with fail
  refine (len_any _ _ _ _).mono ?_
  rintro e w1 ⟨rfl, rfl⟩
  go_wp2_with fail
  go_loopw [3] (fun v wr => II C w po gr m cap t h v wr) (fun v _ => (intOf v + 1).toNat)
  case atStart => exact HS0.out
  case round =>
    clear HS0
    obtain ⟨h1, k, rfl, hk, hI, hH, hb, hf⟩ := hrel
    have HH := Lib.hid hH
    have HI := Lib.hid hI
    have HB := Lib.hid hb
    have HF := Lib.hid hf
    clear hI hH hb hf
    by_cases hk0 : k = 0
    · subst hk0
      go_wp2_with fail
      go_end0
      exact ⟨h1, rfl, HI.out, HH.out, HB.out, HF.out⟩
    · obtain ⟨q, rfl⟩ : ∃ q, k = q + 1 := ⟨k - 1, by omega⟩
      have q0 : (0 : Int) ≤ (q : Int) := by omega
      have q1 : ((q + 1 : Nat) : Int) - 1 = (q : Int) := by omega
      go_wp2_with fail
      refine (down_any (i := q) (n := m) (C := C) HH.out (by omega) (Nat.le_refl _) hm hC).mono ?_
      rintro e w3 ⟨h', i', rfl, hD, hS, hH3, hb3, hf3⟩
      have HH3 := Lib.hid hH3
      have HB3 := Lib.hid (HB.out.trans hb3)
      have HF3 : Hid (FrG gr w w3) := fun b t cs h1 hx => hf3 b t cs h1 (HF.out b t cs h1 hx)
      have HI3 := Lib.hid (HI.out.step hD hS)
      clear hH3 hb3 hf3 hD hS
      go_wp2_with fail
      go_roundw
      case rel => exact ⟨h', q, by simp, by omega, HI3.out, HH3.out, HB3.out, HF3.out⟩
      case measure => simp [intOf]
end
end Go.Proofs.Ytblpfgjjiihjoaa
