/-
  Plain mathematics of what check sums tell: a turned bit turns the sum by a number that is never 0 and never the same within 16000 bits; a row of 32 bits by none that is 0.
-/
import Derived.Test.YtbacfbdeeogkgaaSumMath
namespace Go.Proofs.Ytbacfbdeeogkgaa

theorem bitN_comm (k n : Nat) : bitN k (bit1 n) = bit1 (bitN k n) := by
  induction k with
  | zero => rfl
  | succ k ih => simp only [bitN, ih]
theorem bitN_zero (k : Nat) : bitN k 0 = 0 := by
  induction k with
  | zero => rfl
  | succ k ih => simp only [bitN, ih]; rfl
theorem poly_high (a : Nat) (h : a < 2147483648) : 2147483648 ≤ a ^^^ 3988292384 := by
  have ht : (a ^^^ 3988292384).testBit 31 = true := by
    rw [Nat.testBit_xor, Nat.testBit_lt_two_pow (show a < 2 ^ 31 by omega)]
    decide
  exact Nat.ge_two_pow_of_testBit ht
theorem xor_cancel {a b p : Nat} (h : a ^^^ p = b ^^^ p) : a = b := by
  have := congrArg (· ^^^ p) h
  simp only [Nat.xor_assoc, Nat.xor_self, Nat.xor_zero] at this
  exact this
theorem xor_zero_eq {a b : Nat} (h : a ^^^ b = 0) : a = b := by
  have := congrArg (a ^^^ ·) h
  simp only [← Nat.xor_assoc, Nat.xor_self, Nat.zero_xor, Nat.xor_zero] at this
  exact this.symm
theorem bit1_inj {n m : Nat} (hn : n < 4294967296) (hm : m < 4294967296) (h : bit1 n = bit1 m) : n = m := by
  rcases Nat.mod_two_eq_zero_or_one n with a | a <;> rcases Nat.mod_two_eq_zero_or_one m with b | b
  · rw [bit1_even n a, bit1_even m b] at h; omega
  · rw [bit1_even n a, bit1_odd m b] at h
    have := poly_high (m / 2) (by omega)
    omega
  · rw [bit1_odd n a, bit1_even m b] at h
    have := poly_high (n / 2) (by omega)
    omega
  · rw [bit1_odd n a, bit1_odd m b] at h
    have := xor_cancel h
    omega
theorem bitN_inj (k : Nat) : ∀ {n m : Nat}, n < 4294967296 → m < 4294967296 → bitN k n = bitN k m → n = m := by
  induction k with
  | zero => intro n m _ _ h; exact h
  | succ k ih => intro n m hn hm h; exact ih hn hm (bit1_inj (bitN_lt k n hn) (bitN_lt k m hm) h)
theorem bitN_ne_zero (k n : Nat) (hn : n < 4294967296) (h : n ≠ 0) : bitN k n ≠ 0 := fun e => h (bitN_inj k hn (by decide) (e.trans (bitN_zero k).symm))

/-- One step, in words that are reckoned at once. -/
def bit1q (n : Nat) : Nat := Nat.xor (n / 2) ((n % 2) * 3988292384)
theorem bit1q_eq (n : Nat) : bit1q n = bit1 n := by
  unfold bit1q bit1
  rcases Nat.mod_two_eq_zero_or_one n with h | h <;> rw [h] <;> rfl
/-- None of so many, from here on, is one. -/
def noOne : Nat → Nat → Bool
  | 0, _ => true
  | k + 1, n => match Nat.beq n 1 with
    | true => false
    | false => noOne k (bit1q n)
theorem noOne_spec : ∀ (k n : Nat), noOne k n = true → ∀ j, j < k → bitN j n ≠ 1 := by
  intro k
  induction k with
  | zero => intro n _ j hj; omega
  | succ k ih =>
    intro n h j hj
    unfold noOne at h
    split at h
    · cases h
    · rename_i hb
      cases j with
      | zero => exact fun e => by rw [show n = 1 from e] at hb; cases hb
      | succ j =>
        have := ih (bit1q n) h j (by omega)
        rw [bit1q_eq, bitN_comm] at this
        exact this
theorem noOne_all : noOne 16000 (bit1q 1) = true := by decide +kernel
theorem one_never (j : Nat) (h1 : 1 ≤ j) (h2 : j ≤ 16000) : bitN j 1 ≠ 1 := by
  have := noOne_spec 16000 _ noOne_all (j - 1) (by omega)
  rw [bit1q_eq, bitN_comm] at this
  have e : j = (j - 1) + 1 := by omega
  rw [e]
  exact this
theorem ones_apart {a b : Nat} (ha : a ≤ 16000) (hb : b ≤ 16000) (h : bitN a 1 = bitN b 1) : a = b := by
  rcases Nat.lt_trichotomy a b with hlt | heq | hlt
  · have e : bitN b 1 = bitN a (bitN (b - a) 1) := by rw [bitN_add]; congr 1; omega
    rw [e] at h
    exact absurd (bitN_inj a (by decide) (bitN_lt _ _ (by decide)) h).symm (one_never _ (by omega) (by omega))
  · exact heq
  · have e : bitN a 1 = bitN b (bitN (a - b) 1) := by rw [bitN_add]; congr 1; omega
    rw [e] at h
    exact absurd (bitN_inj b (bitN_lt _ _ (by decide)) (by decide) h) (one_never _ (by omega) (by omega))
theorem bitN_pow (j : Nat) : ∀ k, j ≤ k → bitN k (2 ^ j) = bitN (k - j) 1 := by
  induction j with
  | zero => intro k _; rfl
  | succ j ih =>
    intro k hk
    have e : k = (k - 1) + 1 := by omega
    rw [e]
    show bit1 (bitN (k - 1) (2 ^ (j + 1))) = _
    rw [← bitN_comm, bit1_even _ (by omega), (by omega : 2 ^ (j + 1) / 2 = 2 ^ j), ih (k - 1) (by omega)]
    congr 1
    omega

/-- Bytes with one bit turned. -/
def turnL (l : List Nat) (p : Nat) : List Nat := l.set (p / 8) (l.getD (p / 8) 0 ^^^ 2 ^ (p % 8))
theorem crcFold_off (l : List Nat) : ∀ c d, crcFold (c ^^^ d) l = crcFold c l ^^^ bitN (8 * l.length) d := by
  induction l with
  | nil => intro c d; rfl
  | cons x l ih =>
    intro c d
    show crcFold (byteStep (c ^^^ d) x) l = _
    have e : byteStep (c ^^^ d) x = byteStep c x ^^^ bitN 8 d := by
      have := byteStep_xor c d x 0
      rw [Nat.xor_zero] at this
      rw [this]
      unfold byteStep
      rw [Nat.xor_zero]
    rw [e, ih, bitN_add]
    congr 1
theorem crc_turn (l : List Nat) (p : Nat) (hp : p < 8 * l.length) : crc (turnL l p) = crc l ^^^ bitN (8 * l.length - p) 1 := by
  have hi : p / 8 < l.length := by omega
  have hl : l = l.take (p / 8) ++ l.getD (p / 8) 0 :: l.drop (p / 8 + 1) := by
    rw [List.getD_eq_getElem?_getD, List.getElem?_eq_getElem hi]
    simp
  have ht : turnL l p = l.take (p / 8) ++ (l.getD (p / 8) 0 ^^^ 2 ^ (p % 8)) :: l.drop (p / 8 + 1) := by
    unfold turnL
    rw [List.set_eq_take_append_cons_drop, if_pos hi]
  have key : ∀ c y v, crcFold c (l.take (p / 8) ++ (y ^^^ v) :: l.drop (p / 8 + 1)) = crcFold c (l.take (p / 8) ++ y :: l.drop (p / 8 + 1)) ^^^ bitN (8 * (l.length - (p / 8 + 1)) + 8) v := by
    intro c y v
    rw [crcFold_append, crcFold_append]
    generalize crcFold c (l.take (p / 8)) = A
    show crcFold (byteStep A (y ^^^ v)) _ = crcFold (byteStep A y) _ ^^^ _
    have e : byteStep A (y ^^^ v) = byteStep A y ^^^ bitN 8 v := by
      have := byteStep_xor A 0 y v
      rw [Nat.xor_zero] at this
      rw [this]
      unfold byteStep
      rw [Nat.zero_xor]
    rw [e, crcFold_off, bitN_add, List.length_drop]
  have hk := key 4294967295 (l.getD (p / 8) 0) (2 ^ (p % 8))
  rw [← ht, ← hl, bitN_pow (p % 8) _ (by omega)] at hk
  unfold crc
  rw [hk, (by omega : 8 * (l.length - (p / 8 + 1)) + 8 - p % 8 = 8 * l.length - p), Nat.xor_assoc, Nat.xor_assoc, Nat.xor_comm (bitN _ _)]
theorem turnL_length (l : List Nat) (p : Nat) : (turnL l p).length = l.length := by simp [turnL]
theorem pow8_lt (p : Nat) : 2 ^ (p % 8) < 256 := Nat.pow_lt_pow_right (a := 2) (by decide) (show p % 8 < 8 by omega)
theorem turnL_lt {l : List Nat} (h : ∀ x ∈ l, x < 256) (p : Nat) (hp : p < 8 * l.length) : ∀ x ∈ turnL l p, x < 256 := by
  intro x hx
  rcases List.mem_or_eq_of_mem_set hx with h1 | h1
  · exact h x h1
  · subst h1
    refine Nat.xor_lt_two_pow (n := 8) ?_ (pow8_lt p)
    have hi : p / 8 < l.length := by omega
    rw [List.getD_eq_getElem?_getD, List.getElem?_eq_getElem hi]
    exact h _ (List.getElem_mem hi)
theorem turn_one (l : List Nat) (p : Nat) (hp : p < 8 * l.length) : crc (turnL l p) ≠ crc l := by
  rw [crc_turn l p hp]
  intro e
  have h0 : bitN (8 * l.length - p) 1 = 0 := by
    have := congrArg (crc l ^^^ ·) e
    simp only [← Nat.xor_assoc, Nat.xor_self, Nat.zero_xor] at this
    exact this
  exact bitN_ne_zero _ 1 (by decide) (by decide) h0
theorem turn_two (l : List Nat) (p q : Nat) (hn : 8 * l.length ≤ 16000) (hp : p < 8 * l.length) (hq : q < 8 * l.length) : crc (turnL (turnL l p) q) = crc l ↔ p = q := by
  rw [crc_turn _ q (by rw [turnL_length]; exact hq), crc_turn l p hp, turnL_length]
  constructor
  · intro e
    have h0 : bitN (8 * l.length - p) 1 ^^^ bitN (8 * l.length - q) 1 = 0 := by
      have := congrArg (crc l ^^^ ·) e
      simp only [← Nat.xor_assoc, Nat.xor_self, Nat.zero_xor] at this
      exact this
    have h1 : bitN (8 * l.length - p) 1 = bitN (8 * l.length - q) 1 := xor_zero_eq h0
    have := ones_apart (by omega) (by omega) h1
    omega
  · intro e
    subst e
    rw [Nat.xor_assoc, Nat.xor_self, Nat.xor_zero]
/-- A row's next bit. -/
theorem row_next (row i : Nat) : row % 2 ^ (i + 1) = if row / 2 ^ i % 2 = 1 then row % 2 ^ i ^^^ 2 ^ i else row % 2 ^ i := by
  apply Nat.eq_of_testBit_eq
  intro j
  have ht : row.testBit i = decide (row / 2 ^ i % 2 = 1) := Nat.testBit_eq_decide_div_mod_eq
  by_cases hb : row / 2 ^ i % 2 = 1
  · rw [if_pos hb, Nat.testBit_mod_two_pow, Nat.testBit_xor, Nat.testBit_mod_two_pow, Nat.testBit_two_pow]
    rw [decide_eq_true hb] at ht
    by_cases h1 : j < i
    · rw [decide_eq_true (show j < i + 1 by omega), decide_eq_true h1, decide_eq_false (show ¬ i = j by omega)]
      simp
    · by_cases h2 : j = i
      · subst h2
        rw [decide_eq_true (show j < j + 1 by omega), decide_eq_false h1, ht]
        simp
      · rw [decide_eq_false (show ¬ j < i + 1 by omega), decide_eq_false h1, decide_eq_false (show ¬ i = j by omega)]
        simp
  · rw [if_neg hb, Nat.testBit_mod_two_pow, Nat.testBit_mod_two_pow]
    rw [decide_eq_false hb] at ht
    by_cases h1 : j < i
    · rw [decide_eq_true (show j < i + 1 by omega), decide_eq_true h1]
    · by_cases h2 : j = i
      · subst h2
        rw [decide_eq_true (show j < j + 1 by omega), decide_eq_false h1, ht]
        simp
      · rw [decide_eq_false (show ¬ j < i + 1 by omega), decide_eq_false h1]
/-- Of bytes in which the first i bits of a row were turned from bit x on: their sum; and with none turned they are as they were. -/
structure Burst (l dl : List Nat) (x row i : Nat) : Prop where
  len : dl.length = l.length
  lt : ∀ y ∈ dl, y < 256
  sum : crc dl = crc l ^^^ bitN (8 * l.length - x) (row % 2 ^ i)
  same : row % 2 ^ i = 0 → dl = l
theorem Burst.start {l : List Nat} (h : ∀ y ∈ l, y < 256) (x row : Nat) : Burst l l x row 0 :=
  ⟨rfl, h, by rw [Nat.pow_zero, Nat.mod_one, bitN_zero, Nat.xor_zero], fun _ => rfl⟩
theorem Burst.skip {l dl : List Nat} {x row i : Nat} (h : Burst l dl x row i) (hb : row / 2 ^ i % 2 ≠ 1) : Burst l dl x row (i + 1) := by
  have e : row % 2 ^ (i + 1) = row % 2 ^ i := by rw [row_next, if_neg hb]
  exact ⟨h.len, h.lt, by rw [e]; exact h.sum, by rw [e]; exact h.same⟩
theorem Burst.turn {l dl : List Nat} {x row i : Nat} (h : Burst l dl x row i) (hb : row / 2 ^ i % 2 = 1) (hx : x + i < 8 * l.length) : Burst l (turnL dl (x + i)) x row (i + 1) := by
  have e : row % 2 ^ (i + 1) = row % 2 ^ i ^^^ 2 ^ i := by rw [row_next, if_pos hb]
  refine ⟨by rw [turnL_length, h.len], turnL_lt h.lt _ (by rw [h.len]; exact hx), ?_, ?_⟩
  · rw [crc_turn dl (x + i) (by rw [h.len]; exact hx), h.sum, e, bitN_xor, h.len, bitN_pow i _ (by omega), Nat.xor_assoc]
    congr 3
    omega
  · intro h0
    exfalso
    rw [e] at h0
    have h1 : row % 2 ^ i = 2 ^ i := xor_zero_eq h0
    have := Nat.mod_lt row (Nat.two_pow_pos i)
    omega
theorem Burst.told {l dl : List Nat} {x row i : Nat} (h : Burst l dl x row i) (hi : i ≤ 32) : crc dl = crc l ↔ dl = l := by
  constructor
  · intro e
    apply h.same
    rw [h.sum] at e
    have h0 : bitN (8 * l.length - x) (row % 2 ^ i) = 0 := by
      have := congrArg (crc l ^^^ ·) e
      simp only [← Nat.xor_assoc, Nat.xor_self, Nat.zero_xor] at this
      exact this
    rcases Nat.eq_zero_or_pos (row % 2 ^ i) with h1 | h1
    · exact h1
    · have h2 : row % 2 ^ i < 2 ^ i := Nat.mod_lt row (Nat.two_pow_pos i)
      have h3 : 2 ^ i ≤ 2 ^ 32 := Nat.pow_le_pow_right (by decide) hi
      exact absurd h0 (bitN_ne_zero _ _ (by omega) (by omega))
  · intro e; rw [e]
end Go.Proofs.Ytbacfbdeeogkgaa
