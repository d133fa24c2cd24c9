/-
  Within; the fixed fact of the paths' statements.
-/
import Derived.Test.YtkgkjjkefifpaaaNaParent
import Derived.Test.YtkgkjjkefifpaaaNaJoin
namespace Go.Proofs.Ytkgkjjkefifpaaa
open Go.RowKit

def wiB (l m : List ByteArray) : Bool := decide (l.length ≤ m.length) && decide (l = m.take l.length)
theorem equalS_any (l m : List ByteArray) (a b : Option Addr) (n c d : Nat) (w : World) (hn : n = l.length) (hk : n = m.length) (hs : n < 1000000) (ha : Strs w a l) (hb : Strs w b m) :
    Calls Try.prog 23 #[.slice a n c, .slice b n d] w fun e w' => e = .returned (.bool (decide (l = m))) ∧ ∃ q, w' = w.drewN q := by
  subst hn
  by_cases hl : l = []
  · subst hl
    have hm : m = [] := List.eq_nil_of_length_eq_zero hk.symm
    subst hm
    exact (Try.slices_Equal_string_empty a b c 0 d w (by omega)).mono fun e w' ⟨h1, h2⟩ => ⟨h1, 0, by rw [h2]; rfl⟩
  · have hm : m ≠ [] := fun e => hl (List.eq_nil_of_length_eq_zero (by rw [hk, e]; rfl))
    obtain ⟨b1, o1, rfl, h1⟩ := ha hl
    obtain ⟨b2, o2, rfl, h2⟩ := hb hm
    refine (Try.slices_Equal_string b1 o1 l.length c b2 o2 l.length d l m w (Nat.le_refl _) (by omega) (by omega) (by omega) h1 h2).mono fun e w' ⟨h3, h4⟩ => ⟨?_, h4⟩
    rw [h3, List.take_of_length_le (Nat.le_refl _), List.take_of_length_le (by omega)]
theorem cutS_any (a : Option Addr) (n cap hi : Nat) (ha : cap ≠ 0 → ∀ x, a = some x → x.add 0 = x) (hhi : hi ≤ cap) (W : World) :
    (Instr.slice SLS (.slice a n cap) none (some (.int .i64 (hi : Int))) none).run Try.prog W = .ok (.slice a hi cap) W := by
  rw [run_slice_h W SLS _ _ _ und_sls .i64 _ (by omega) (by omega), elem_sls, size_strx]
  by_cases hc : cap = 0
  · simp [Result.andThen, sliced, hc]
  · have : a.map (fun x => x.add 0) = a := by
      cases a with
      | none => rfl
      | some x => simp [ha hc x rfl]
    simp [Result.andThen, sliced, this]
theorem strs_add {w : World} {a : Option Addr} {l : List ByteArray} (h : Strs w a l) (hl : l ≠ []) : ∀ x, a = some x → x.add 0 = x := fun x hx => by
  obtain ⟨b, o, ha, _⟩ := h hl
  rw [ha] at hx; cases hx; rfl
set_option maxHeartbeats 2000000 in
theorem within_any (l m : List ByteArray) (a b : Option Addr) (n k c d : Nat) (w : World) (hn : n = l.length) (hk : k = m.length) (hd : k ≤ d) (hs : k < 1000000) (hx : d ≠ 0 → ∀ x, b = some x → x.add 0 = x) (ha : Strs w a l) (hb : Strs w b m) :
    Calls Try.prog 17 #[.slice a n c, .slice b k d] w fun e w' => e = .returned (.bool (wiB l m)) ∧ Below w.heap.size w w' := by
  have HB := Lib.hid (Below.refl w.heap.size w)
  by_cases hle : n ≤ k
  · have hcut := cutS_any b k d n hx (by omega)
    have HQ : Hid (∀ W, Below w.heap.size w W → Calls Try.prog 23 #[.slice a n c, .slice b n d] W fun e w' => e = .returned (.bool (wiB l m)) ∧ ∃ q, w' = W.drewN q) := fun W hW => by
      have hw : wiB l m = decide (l = m.take n) := by unfold wiB; rw [← hn, decide_eq_true (show n ≤ m.length by omega)]; rfl
      rw [hw]
      exact equalS_any l (m.take n) a b n c d W hn (by rw [List.length_take]; omega) (by omega) (ha.below hW) ((hb.below hW).take n)
    have hle' : (n : Int) ≤ (k : Int) := by omega
    clear hn hk hd hs hx ha hb hle
    generalize wiB l m = r at *
    go_enter Try.func17, Try.ntmps17
    go_wp2_with fail
    refine (HQ.out _ HB.out).mono ?_
    rintro e w1 ⟨rfl, q, rfl⟩
    go_wp2_with fail
    go_ret
    exact ⟨by simp, sDrewN HB.out q⟩
  · have hw : wiB l m = false := by unfold wiB; rw [← hn, decide_eq_false (show ¬ n ≤ m.length by omega)]; rfl
    rw [hw]
    have hle' : ¬ (n : Int) ≤ (k : Int) := by omega
    clear hn hk hd hs hx ha hb hle hw
    go_enter Try.func17, Try.ntmps17
    go_wp2
    go_ret
    exact ⟨rfl, HB.out⟩
/-! The fixed fact. -/
theorem spL_ok {s : ByteArray} (h : spE s = 0) : spL s = nml s := by unfold spL; rw [if_pos h]
theorem spD_ok {s : ByteArray} (h : spE s = 0) : spD s = dirB s := by unfold spD; rw [if_pos h]
theorem spD_no {s : ByteArray} (h : spE s ≠ 0) : spD s = false := by unfold spD; rw [if_neg h]
abbrev pA : ByteArray := ⟨#[47, 47, 97, 47, 98, 47]⟩
abbrev pB : ByteArray := ⟨#[47, 97, 47, 46, 46, 47, 98]⟩
theorem fA : spE pA = 0 ∧ nml pA = [⟨#[97]⟩, ⟨#[98]⟩] ∧ dirB pA = true := by decide +kernel
theorem fB : spE pB = 22 := by decide +kernel
theorem splitA (w : World) : Calls Try.prog 10 #[.string pA] w fun e w' => (∃ a c, e = .returned (.tuple #[.slice a 2 c, .bool true, .int .i64 0]) ∧ Strs w' a [⟨#[97]⟩, ⟨#[98]⟩]) ∧ Below w.heap.size w w' :=
  (split_any pA w).mono fun e w' ⟨a, n, c, h1, h2, _, h4, _, h6⟩ => by
    obtain ⟨q1, q2, q3⟩ := fA
    rw [spL_ok q1, q2] at h2 h4
    rw [spD_ok q1, q3, q1] at h1
    exact ⟨⟨a, c, by rw [h1, h2]; rfl, h4⟩, h6⟩
theorem splitB (w : World) : Calls Try.prog 10 #[.string pB] w fun e w' => (∃ a n c, e = .returned (.tuple #[.slice a n c, .bool false, .int .i64 22])) ∧ Below w.heap.size w w' :=
  (split_any pB w).mono fun e w' ⟨a, n, c, h1, h2, _, h4, _, h6⟩ => by
    rw [spD_no (by rw [fB]; decide), fB] at h1
    exact ⟨⟨a, n, c, h1⟩, h6⟩
theorem join0 (w : World) : Calls Try.prog 15 #[.slice none 0 0] w fun e w' => e = .returned (.tuple #[.string ⟨#[47]⟩, .int .i64 0]) ∧ Below w.heap.size w w' :=
  (join_any [] none 0 0 w rfl (Nat.le_refl _) (by omega) (Strs.nil _ _)).mono fun e w' ⟨h1, h2⟩ => by
    have q1 : joE [] = 0 := by decide +kernel
    have q2 : joR [] = ⟨#[47]⟩ := by decide +kernel
    rw [q1, q2] at h1
    exact ⟨h1, h2⟩
set_option maxRecDepth 100000 in
set_option maxHeartbeats 4000000 in
theorem awake_any (w : World) : Calls Try.prog 9 #[] w fun e w' => e = .returned (.bool true) ∧ Below w.heap.size w w' := by
  go_enter Try.func9, Try.ntmps9
  go_wp2_with fail
  refine (splitA _).mono ?_
  rintro e w1 ⟨⟨a1, c1, rfl, hst⟩, hb1⟩
  have HS := Lib.hid hst
  have HB := Lib.hid hb1
  clear hst hb1
  go_wp2_with fail
  refine (splitB _).mono ?_
  rintro e w2 ⟨⟨a2, n2, c2, rfl⟩, hb2⟩
  have HS2 := Lib.hid (HS.out.below hb2)
  have HB2 := Lib.hid (HB.out.trans (hb2.mono HB.out.size))
  clear hb2 HS HB
  go_wp2_with fail
  refine (join0 _).mono ?_
  rintro e w3 ⟨rfl, hb3⟩
  have HS3 := Lib.hid (HS2.out.below hb3)
  have HB3 := Lib.hid (HB2.out.trans (hb3.mono HB2.out.size))
  have hal := (Below.refl w3.heap.size w3).alloc (Nat.le_refl _) (.cells #[.string ⟨#[97]⟩, .string ⟨#[98]⟩] STR)
  have HT := Lib.hid (texts_any [⟨#[97]⟩, ⟨#[98]⟩] [⟨#[97]⟩, ⟨#[98]⟩] a1 (some ⟨w3.heap.size, 0, none⟩) 2 2 c1 2 (w3.alloc (.cells #[.string ⟨#[97]⟩, .string ⟨#[98]⟩] STR)) rfl rfl (by decide) (HS3.out.below hal) (Strs.laid w3 _ _ STR rfl))
  have HB4 := Lib.hid (HB3.out.trans (hal.mono HB3.out.size))
  clear hb3 HS2 HB2 HS3 hal
  go_wp2_with fail
  refine HT.out.mono ?_
  rintro e w4 ⟨rfl, hb4⟩
  have HB5 := Lib.hid (HB4.out.trans (hb4.mono HB4.out.size))
  clear hb4 HB4 HT
  go_wp2_with fail
  go_ret
  exact ⟨rfl, HB5.out⟩
end Go.Proofs.Ytkgkjjkefifpaaa
