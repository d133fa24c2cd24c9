/-
  Pack: take, next, current, each by one contract.
-/
import Derived.Test.YtonlhkhjdnaojaaPcTake
namespace Go.Proofs.Ytonlhkhjdnaojaa
open Go.RowKit

def takeB (lf bl wd : Int) (op : Bool) (c : Int) : Bool := op && !decide (lf < bl + 1) && !decide (88 < wd + c)
def nxL (lf bl : Int) (op : Bool) : Int := if op then lf - bl else lf
structure PkB (sz lf bl wd : Int) : Prop where
  s0 : 8 ≤ sz
  s1 : sz ≤ 64
  l0 : 0 ≤ lf
  l1 : lf ≤ 64
  b0 : 0 ≤ bl
  b1 : bl ≤ 66
  w0 : 0 ≤ wd
  w1 : wd ≤ 88
section
variable {w w' : World} {base g N : Nat} {sz lf bl wd : Int} {op : Bool} {pv : Value} {fv : Nat → Value} {av : Nat → Nat → Value} {I V : Nat → Int} {nw : Nat → Bool} {Z : Nat → Pz}
theorem take_t (h : Pk w base g sz lf bl wd op pv fv av I V N nw Z) (hB : PkB sz lf bl wd) (c : Int) (hw : base ≤ w.heap.size) (hc0 : 0 ≤ c) (ht : takeB lf bl wd op c = true) :
    Calls Try.prog 30 #[.pointer (some ⟨g, 0, none⟩), .int .i64 c] w fun e w' => e = .returned (.bool true) ∧ Pk w' base g sz lf (bl + 1) (wd + c) true pv fv av I V N nw Z ∧ Below base w w' ∧ Out (fun q => q = g) w w' := by
  unfold takeB at ht
  simp only [Bool.and_eq_true, Bool.not_eq_true', decide_eq_false_iff_not] at ht
  obtain ⟨⟨rfl, h1⟩, h2⟩ := ht
  have := hB.l1
  exact take_yes h c hw h1 h2 hB.b0 (by omega) hB.w0 hc0
theorem take_f (h : Pk w base g sz lf bl wd op pv fv av I V N nw Z) (hB : PkB sz lf bl wd) (c : Int) (hw : base ≤ w.heap.size) (hc0 : 0 ≤ c) (hc1 : c ≤ 1000) (ht : takeB lf bl wd op c = false) :
    Calls Try.prog 30 #[.pointer (some ⟨g, 0, none⟩), .int .i64 c] w fun e w' => e = .returned (.bool false) ∧ Pk w' base g sz lf bl wd op pv fv av I V N nw Z ∧ Below base w w' ∧ Out (fun q => q = g) w w' := by
  have b1 := hB.l1
  have b2 := hB.b1
  have b3 := hB.w1
  cases op with
  | false => exact take_shut h c hw
  | true =>
    by_cases h1 : lf < bl + 1
    · exact take_left h c hw h1 hB.b0 (by omega)
    · have h2 : 88 < wd + c := by
        unfold takeB at ht
        rw [decide_eq_false h1] at ht
        simpa using ht
      exact take_words h c hw h1 h2 hB.b0 (by omega) hB.w0 hc0 (by omega) hc1
theorem next_any (h : Pk w base g sz lf bl wd op pv fv av I V N nw Z) (hB : PkB sz lf bl wd) (hw : base ≤ w.heap.size) (hN : N ≤ 1000) :
    Calls Try.prog 31 #[.pointer (some ⟨g, 0, none⟩)] w fun e w' => e = .returned (.tuple #[]) ∧ PkO (fun b => Ex b pv fv av N Z) w base g sz (if nxL lf bl op < 3 then sz else nxL lf bl op) 2 10 true I V (N + 1) (upd nw N (decide (nxL lf bl op < 3))) (upd Z N z0) w' := by
  have b0 := hB.s0
  have b1 := hB.s1
  have b2 := hB.l0
  have b3 := hB.l1
  have b4 := hB.b0
  have b5 := hB.b1
  cases op with
  | true =>
    have e : nxL lf bl true = lf - bl := rfl
    rw [e]
    by_cases hlt : lf - bl < 3
    · rw [if_pos hlt, decide_eq_true hlt]; exact next_a h hw b4 (by omega) b2 (by omega) (by omega) (by omega) hN hlt
    · rw [if_neg hlt, decide_eq_false hlt]; exact next_b h hw b4 (by omega) b2 (by omega) (by omega) (by omega) hN hlt
  | false =>
    have e : nxL lf bl false = lf := rfl
    rw [e]
    by_cases hlt : lf < 3
    · rw [if_pos hlt, decide_eq_true hlt]; exact next_c h hw b4 (by omega) b2 (by omega) (by omega) (by omega) hN hlt
    · rw [if_neg hlt, decide_eq_false hlt]; exact next_d h hw b4 (by omega) b2 (by omega) (by omega) (by omega) hN hlt
set_option maxHeartbeats 2000000 in
theorem current_any {gp cap gf m cf : Nat} (h : Pk w base g sz lf bl wd op (.slice (some ⟨gp, 0, none⟩) (N + 1) cap) fv av I V (N + 1) nw Z) (hN1 : N < 1000) (hw : base ≤ w.heap.size) (hf : fv N = .slice (some ⟨gf, 0, none⟩) (m + 1) cf) (hm : m ≤ 1000) :
    Calls Try.prog 29 #[.pointer (some ⟨g, 0, none⟩)] w fun e w' => e = .returned (.pointer (some ⟨gf, m * 3, none⟩)) ∧ Below w.heap.size w w' := by
  have HL := Lib.hid (last_any h (by omega) (by omega) hw)
  obtain ⟨g2, cap2, he, -, -, -, -, c1, -⟩ := h.pm.piece (Nat.lt_succ_self N)
  cases he
  rw [hf] at c1
  have HC := Lib.hid c1
  clear h c1
  have z1 : (0 : Int) ≤ (m : Int) := by omega
  have z2 : (m : Int) < ((m + 1 : Nat) : Int) := by omega
  have z3 : wrap64 (((m + 1 : Nat) : Int) - 1) = (m : Int) := by rw [IntWalk.wrap64_in _ (by omega)]; omega
  go_enter Try.func29, Try.ntmps29
  go_wp2_with fail
  refine HL.out.mono ?_
  rintro e w1 ⟨rfl, hb⟩
  have c1 := cell_later hb HC.out
  have hB := Lib.hid hb
  clear HL HC hb
  rw [Nat.add_sub_cancel]
  go_wp2
  go_ret
  exact ⟨by simp, hB.out⟩
end
end Go.Proofs.Ytonlhkhjdnaojaa
