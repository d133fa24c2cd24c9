/-
  Numbers of PointMixed: sectors of two points.
-/
import Derived.Test.YtmkhliabmodbdaaPtAwake
namespace Go.Proofs.Ytmkhliabmodbdaa
open Go.RowKit

theorem L64_get? (f : Nat → Nat) (j : Nat) : (L64 f)[j]? = if j < 64 then some (f j) else none := by
  unfold L64
  rw [List.getElem?_map]
  by_cases h : j < 64
  · rw [List.getElem?_range h, if_pos h]; rfl
  · rw [if_neg h, List.getElem?_eq_none (by simpa using h)]; rfl
theorem L64_join (h f : Nat → Nat) (k : Nat) (hk : k < 4) (e : ∀ j, j / 16 = k → h j = f j) : (L64 h).take (16 * k) ++ ((L64 f).drop (16 * k)).take 16 = (L64 h).take (16 * (k + 1)) := by
  apply List.ext_getElem?
  intro j
  have hl : ((L64 h).take (16 * k)).length = 16 * k := by rw [List.length_take, L64_length]; omega
  by_cases c1 : j < 16 * k
  · rw [List.getElem?_append_left (by omega), List.getElem?_take_of_lt c1, List.getElem?_take_of_lt (by omega)]
  · rw [List.getElem?_append_right (by omega), hl]
    by_cases c2 : j < 16 * (k + 1)
    · rw [List.getElem?_take_of_lt (by omega), List.getElem?_drop, List.getElem?_take_of_lt c2, L64_get?, L64_get?, show 16 * k + (j - 16 * k) = j by omega, if_pos (by omega), if_pos (by omega), e j (by omega)]
    · rw [List.getElem?_eq_none (by rw [List.length_take, List.length_drop, L64_length]; omega), List.getElem?_eq_none (by rw [List.length_take, L64_length]; omega)]
def encN (p : Pt) : Nat → Nat := encB p.e.toNat p.c.toNat p.n.toNat p.f.toNat
theorem encP_eq (p : Pt) : encP p = L64 (encN p) := rfl
def bitW (x s : Nat) : Bool := decide (x / 2 ^ s % 2 = 1)
def mixN (p q : Pt) (x : Nat) : Nat → Nat := fun j => if bitW x (j / 16) = true then encN p j else encN q j
theorem mix_all {p q : Pt} {x : Nat} (h : x % 16 = 15) : L64 (mixN p q x) = encP p := by
  rw [encP_eq]
  refine L64_ext fun j hj => ?_
  unfold mixN bitW
  rw [if_pos]
  rw [decide_eq_true_iff]
  have : j / 16 = 0 ∨ j / 16 = 1 ∨ j / 16 = 2 ∨ j / 16 = 3 := by omega
  rcases this with e | e | e | e <;> rw [e] <;> simp <;> omega
theorem mix_nil {p q : Pt} {x : Nat} (h : x % 16 = 0) : L64 (mixN p q x) = encP q := by
  rw [encP_eq]
  refine L64_ext fun j hj => ?_
  unfold mixN bitW
  rw [if_neg]
  rw [decide_eq_true_iff]
  have : j / 16 = 0 ∨ j / 16 = 1 ∨ j / 16 = 2 ∨ j / 16 = 3 := by omega
  rcases this with e | e | e | e <;> rw [e] <;> simp <;> omega
theorem bit_one {x : Nat} (h : x % 16 ≠ 0) : ∃ s, s < 4 ∧ bitW x s = true := by
  by_cases h0 : x % 2 = 1
  · exact ⟨0, by decide, by unfold bitW; rw [decide_eq_true_iff]; simp; omega⟩
  · by_cases h1 : x / 2 % 2 = 1
    · exact ⟨1, by decide, by unfold bitW; rw [decide_eq_true_iff]; simp; omega⟩
    · by_cases h2 : x / 4 % 2 = 1
      · exact ⟨2, by decide, by unfold bitW; rw [decide_eq_true_iff]; simp; omega⟩
      · exact ⟨3, by decide, by unfold bitW; rw [decide_eq_true_iff]; simp; omega⟩
theorem bit_nil {x : Nat} (h : x % 16 ≠ 15) : ∃ s, s < 4 ∧ bitW x s = false := by
  by_cases h0 : x % 2 = 0
  · exact ⟨0, by decide, by unfold bitW; rw [decide_eq_false_iff_not]; simp; omega⟩
  · by_cases h1 : x / 2 % 2 = 0
    · exact ⟨1, by decide, by unfold bitW; rw [decide_eq_false_iff_not]; simp; omega⟩
    · by_cases h2 : x / 4 % 2 = 0
      · exact ⟨2, by decide, by unfold bitW; rw [decide_eq_false_iff_not]; simp; omega⟩
      · exact ⟨3, by decide, by unfold bitW; rw [decide_eq_false_iff_not]; simp; omega⟩
theorem sec_heads (p : Pt) (s : Nat) : encN p (16 * s) = p.e.toNat % 256 ∧ encN p (16 * s + 1) = p.e.toNat / 256 ∧ encN p (16 * s + 2) = p.c.toNat % 256 ∧ encN p (16 * s + 3) = p.c.toNat / 256 := by
  unfold encN encB
  refine ⟨?_, ?_, ?_, ?_⟩
  · rw [if_pos (by omega)]
  · rw [if_neg (by omega), if_pos (by omega)]
  · rw [if_neg (by omega), if_neg (by omega), if_pos (by omega)]
  · rw [if_neg (by omega), if_neg (by omega), if_neg (by omega), if_pos (by omega)]
theorem same_heads {p r : Pt} {m : Nat → Nat} {s : Nat} (hs : s < 4) (hp : Good4 p) (hr : Good4 r) (h1 : ∀ j, j / 16 = s → m j = encN p j) (h2 : L64 m = encP r) : p.e = r.e ∧ p.c = r.c := by
  have key : ∀ i, i < 4 → encN p (16 * s + i) = encN r (16 * s + i) := fun i hi => by
    have := congrArg (fun l : List Nat => l[16 * s + i]?) h2
    simp only [encP_eq, L64_get?] at this
    rw [if_pos (by omega), if_pos (by omega)] at this
    injection this with this
    rw [h1 _ (by omega)] at this
    exact this
  obtain ⟨a1, a2, a3, a4⟩ := sec_heads p s
  obtain ⟨b1, b2, b3, b4⟩ := sec_heads r s
  have k0 := key 0 (by decide)
  have k1 := key 1 (by decide)
  have k2 := key 2 (by decide)
  have k3 := key 3 (by decide)
  rw [Nat.add_zero, a1, b1] at k0
  rw [a2, b2] at k1
  rw [a3, b3] at k2
  rw [a4, b4] at k3
  obtain ⟨p1, p2, _⟩ := hp
  obtain ⟨r1, r2, _⟩ := hr
  omega
theorem mix_none {p q : Pt} {x : Nat} (hp : Good4 p) (hq : Good4 q) (hne : ¬ (p.e = q.e ∧ p.c = q.c)) (h0 : x % 16 ≠ 0) (h15 : x % 16 ≠ 15) : decP (L64 (mixN p q x)) = none := by
  cases h : decP (L64 (mixN p q x)) with
  | none => rfl
  | some r =>
    obtain ⟨hr, he, _⟩ := decP_some h
    obtain ⟨s, hs, hb⟩ := bit_one h0
    obtain ⟨t, ht, hc⟩ := bit_nil h15
    have e1 := same_heads hs hp hr (m := mixN p q x) (fun j hj => by unfold mixN; rw [hj, if_pos hb]) he
    have e2 := same_heads ht hq hr (m := mixN p q x) (fun j hj => by unfold mixN; rw [hj, if_neg (by rw [hc]; decide)]) he
    exact absurd ⟨e1.1.trans e2.1.symm, e1.2.trans e2.2.symm⟩ hne
theorem mix_byte {p q : Pt} {x : Nat} (hp : Good4 p) (hq : Good4 q) : ∀ y ∈ L64 (mixN p q x), y < 256 := L64_byte fun j hj => by
  unfold mixN
  have h1 := getD_b (encP_byte hp) j
  have h2 := getD_b (encP_byte hq) j
  rw [encP_eq, L64_get _ _ hj] at h1 h2
  split
  · exact h1
  · exact h2
theorem and_one8 (x : Nat) (h : x < 256) : (bits .and .u8 (x : Int) 1 == 1) = decide (x % 2 = 1) := by
  have h1 : bits .and .u8 (x : Int) 1 = IntKind.u8.wrap (((x % 2 : Nat)) : Int) := by
    show IntKind.u8.wrap ((BitVec.ofInt 8 (x : Int) &&& BitVec.ofInt 8 1).toNat : Int) = _
    rw [BitVec.toNat_and, BitVec.toNat_ofInt, BitVec.toNat_ofInt]
    have e1 : ((1 : Int) % ((2 ^ 8 : Nat) : Int)).toNat = 1 := by decide
    have e2 : (((x : Int) % ((2 ^ 8 : Nat) : Int))).toNat = x := by omega
    rw [e1, Nat.and_one_is_mod, e2]
  rw [h1, IntKind.wrap_u8]
  by_cases c : x % 2 = 1
  · rw [c]; rfl
  · have : x % 2 = 0 := by omega
    rw [this]; rfl
end Go.Proofs.Ytmkhliabmodbdaa
