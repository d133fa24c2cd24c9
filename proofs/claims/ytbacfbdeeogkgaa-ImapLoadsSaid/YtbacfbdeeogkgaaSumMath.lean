/-
  Plain mathematics of check sums, over natural numbers: the table of four bits serves as well as eight single steps; sums are linear.
-/
namespace Go.Proofs.Ytbacfbdeeogkgaa

/-- One step of the bitwise rule. -/
def bit1 (n : Nat) : Nat := n / 2 ^^^ (if n % 2 = 1 then 3988292384 else 0)
/-- So many steps. -/
def bitN : Nat → Nat → Nat
  | 0, n => n
  | k + 1, n => bit1 (bitN k n)
def tab16 : List Nat := [0, 498536548, 997073096, 651767980, 1994146192, 1802195444, 1303535960, 1342533948, 3988292384, 4027552580, 3604390888, 3412177804, 2607071920, 2262029012, 2685067896, 3183342108]
/-- Four steps by the table. -/
def nib (n : Nat) : Nat := tab16.getD (n % 16) 0 ^^^ n / 16
def byteStep (c x : Nat) : Nat := bitN 8 (c ^^^ x)
def crcFold (c : Nat) (l : List Nat) : Nat := l.foldl byteStep c
/-- The sum of bytes. -/
def crc (l : List Nat) : Nat := crcFold 4294967295 l ^^^ 4294967295

theorem bit1_even (n : Nat) (h : n % 2 = 0) : bit1 n = n / 2 := by simp [bit1, h]
theorem bit1_odd (n : Nat) (h : n % 2 = 1) : bit1 n = n / 2 ^^^ 3988292384 := by simp [bit1, h]

theorem bit1_xor (a b : Nat) : bit1 (a ^^^ b) = bit1 a ^^^ bit1 b := by
  unfold bit1
  have hd : (a ^^^ b) / 2 = a / 2 ^^^ b / 2 := Nat.xor_div_two
  have hm := @Nat.xor_mod_two_eq_one a b
  rw [hd]
  rcases Nat.mod_two_eq_zero_or_one a with ha | ha <;> rcases Nat.mod_two_eq_zero_or_one b with hb | hb
  · have : (a ^^^ b) % 2 ≠ 1 := fun h => by have := hm.1 h; simp [ha, hb] at this
    simp [ha, hb, this]
  · have : (a ^^^ b) % 2 = 1 := hm.2 (by simp [ha, hb])
    simp [ha, hb, this, Nat.xor_assoc]
  · have : (a ^^^ b) % 2 = 1 := hm.2 (by simp [ha, hb])
    simp [ha, hb, this]
    rw [Nat.xor_assoc, Nat.xor_comm (b / 2), ← Nat.xor_assoc]
  · have : (a ^^^ b) % 2 ≠ 1 := fun h => by have := hm.1 h; simp [ha, hb] at this
    simp only [ha, hb, this, if_true, if_false, Nat.xor_zero]
    rw [Nat.xor_assoc, Nat.xor_comm 3988292384 (b / 2 ^^^ 3988292384), Nat.xor_assoc, Nat.xor_self, Nat.xor_zero]

theorem bitN_xor (k a b : Nat) : bitN k (a ^^^ b) = bitN k a ^^^ bitN k b := by
  induction k with
  | zero => rfl
  | succ k ih => simp only [bitN, ih, bit1_xor]

theorem bit1_lt (n : Nat) (h : n < 4294967296) : bit1 n < 4294967296 := by
  unfold bit1
  have : n / 2 < 2 ^ 32 := by omega
  split
  · exact Nat.xor_lt_two_pow (n := 32) this (by decide)
  · simpa using (by omega : n / 2 < 4294967296)

theorem bitN_lt (k n : Nat) (h : n < 4294967296) : bitN k n < 4294967296 := by
  induction k with
  | zero => exact h
  | succ k ih => exact bit1_lt _ ih

theorem xor_lt32 {a b : Nat} (ha : a < 4294967296) (hb : b < 4294967296) : a ^^^ b < 4294967296 :=
  Nat.xor_lt_two_pow (n := 32) ha hb

theorem byteStep_lt (c x : Nat) (h : c < 4294967296) (hx : x < 256) : byteStep c x < 4294967296 :=
  bitN_lt _ _ (xor_lt32 h (by omega))

theorem split16 (n : Nat) : n = (16 * (n / 16)) ^^^ (n % 16) := by
  apply Nat.eq_of_testBit_eq
  intro i
  have e : 16 * (n / 16) = (n / 2 ^ 4) * 2 ^ 4 := by omega
  have e2 : n % 16 = n % 2 ^ 4 := rfl
  rw [Nat.testBit_xor, e, e2, Nat.testBit_mul_two_pow, Nat.testBit_mod_two_pow, Nat.testBit_div_two_pow]
  by_cases h : i < 4
  · simp [h, Nat.not_le.2 h]
  · have h4 : 4 ≤ i := by omega
    have : i - 4 + 4 = i := by omega
    simp [h, h4, this]

theorem bitN4_high (m : Nat) : bitN 4 (16 * m) = m := by
  simp only [bitN]
  rw [bit1_even (16 * m) (by omega), (by omega : 16 * m / 2 = 8 * m), bit1_even (8 * m) (by omega), (by omega : 8 * m / 2 = 4 * m), bit1_even (4 * m) (by omega),
    (by omega : 4 * m / 2 = 2 * m), bit1_even (2 * m) (by omega)]
  omega

theorem bitN4_low : ∀ r, r < 16 → bitN 4 r = tab16.getD r 0 := by decide

/-- Four single steps are one by the table. -/
theorem nib_eq (n : Nat) : nib n = bitN 4 n := by
  have h := bitN_xor 4 (16 * (n / 16)) (n % 16)
  rw [← split16 n, bitN4_high, bitN4_low _ (Nat.mod_lt _ (by decide))] at h
  rw [h, nib, Nat.xor_comm]

theorem bitN_add (j k n : Nat) : bitN j (bitN k n) = bitN (j + k) n := by
  induction j with
  | zero => simp [bitN]
  | succ j ih => rw [Nat.succ_add]; simp only [bitN, ih]

theorem nib_nib (n : Nat) : nib (nib n) = bitN 8 n := by rw [nib_eq, nib_eq, bitN_add]

theorem tab_lt : ∀ r, r < 16 → tab16.getD r 0 < 4294967296 := by decide
theorem nib_lt (n : Nat) (h : n < 4294967296) : nib n < 4294967296 := by rw [nib_eq]; exact bitN_lt _ _ h

theorem crcFold_lt (l : List Nat) : ∀ c, c < 4294967296 → (∀ x ∈ l, x < 256) → crcFold c l < 4294967296 := by
  induction l with
  | nil => intro c h _; exact h
  | cons x l ih => intro c h hl; exact ih _ (byteStep_lt c x h (hl x (by simp))) (fun y hy => hl y (by simp [hy]))

theorem crcFold_snoc (c : Nat) (l : List Nat) (x : Nat) : crcFold c (l ++ [x]) = byteStep (crcFold c l) x := by
  simp [crcFold, List.foldl_append]
theorem crcFold_append (c : Nat) (l m : List Nat) : crcFold c (l ++ m) = crcFold (crcFold c l) m := by
  simp [crcFold, List.foldl_append]
theorem crc_lt (l : List Nat) (h : ∀ x ∈ l, x < 256) : crc l < 4294967296 := xor_lt32 (crcFold_lt l _ (by decide) h) (by decide)
theorem ones_twice (n : Nat) : n ^^^ 4294967295 ^^^ 4294967295 = n := by rw [Nat.xor_assoc, Nat.xor_self, Nat.xor_zero]

theorem take_snocN (l : List Nat) (k : Nat) (h : k < l.length) : l.take (k + 1) = l.take k ++ [l.getD k 0] := by
  rw [List.take_succ_eq_append_getElem h, List.getD_eq_getElem?_getD, List.getElem?_eq_getElem h]; rfl

theorem crcFold_take (c : Nat) (l : List Nat) (k : Nat) (h : k < l.length) : crcFold c (l.take (k + 1)) = byteStep (crcFold c (l.take k)) (l.getD k 0) := by
  rw [take_snocN l k h, crcFold_snoc]

/-- A round of two, told of what is left. -/
theorem nib_round (k m n : Nat) (hk : k < 2) (h : bitN (8 - 4 * k) m = bitN 8 n) : bitN (8 - 4 * (k + 1)) (nib m) = bitN 8 n := by
  rw [nib_eq, bitN_add, ← h]
  congr 1
  omega

/-- Bytes turned by others. -/
def xorL (l x : List Nat) : List Nat := List.zipWith (fun p q => p ^^^ q) l x
theorem byteStep_xor (c d p q : Nat) : byteStep (c ^^^ d) (p ^^^ q) = byteStep c p ^^^ byteStep d q := by
  unfold byteStep
  rw [← bitN_xor]
  congr 1
  rw [Nat.xor_assoc, Nat.xor_assoc]
  congr 1
  rw [← Nat.xor_assoc, Nat.xor_comm d p, Nat.xor_assoc]
theorem crcFold_xor (l : List Nat) : ∀ (x : List Nat) (c d : Nat), l.length = x.length → crcFold (c ^^^ d) (xorL l x) = crcFold c l ^^^ crcFold d x := by
  induction l with
  | nil => intro x c d h; cases x with
    | nil => rfl
    | cons y x => simp at h
  | cons p l ih => intro x c d h; cases x with
    | nil => simp at h
    | cons q x =>
      show crcFold (byteStep (c ^^^ d) (p ^^^ q)) (xorL l x) = _
      rw [byteStep_xor, ih x _ _ (by simpa using h)]
      rfl
/-- What the sum is turned by hangs on the others alone. -/
theorem crc_xor (l x : List Nat) (h : l.length = x.length) : crc (xorL l x) ^^^ crc l = crcFold 0 x := by
  have e := crcFold_xor l x 4294967295 0 h
  rw [Nat.xor_zero] at e
  unfold crc
  rw [e]
  generalize crcFold 4294967295 l = A
  generalize crcFold 0 x = B
  rw [Nat.xor_comm A B, Nat.xor_assoc, Nat.xor_assoc, ← Nat.xor_assoc 4294967295, Nat.xor_comm 4294967295 A, ← Nat.xor_assoc A, ← Nat.xor_assoc A, Nat.xor_self, Nat.zero_xor, Nat.xor_self, Nat.xor_zero]
end Go.Proofs.Ytbacfbdeeogkgaa
