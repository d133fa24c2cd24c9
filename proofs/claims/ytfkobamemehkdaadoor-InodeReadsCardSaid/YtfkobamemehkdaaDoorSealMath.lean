/-
  Plain mathematics of a sealed block: one byte changed and it is none.
-/
import Derived.Test.YtfkobamemehkdaaDoorBaseOpen
import Derived.Test.YtfkobamemehkdaaDoorSumTellsMath
namespace Go.Proofs.YtfkobamemehkdaaDoor
open Go.RowKit

theorem crc_set_ne (l : List Nat) (k v : Nat) (hk : k < l.length) (hv : v < 256) (h8 : ∀ x ∈ l, x < 256) (hne : v ≠ l.getD k 0) : crc (l.set k v) ≠ crc l := by
  have hl : l = l.take k ++ l.getD k 0 :: l.drop (k + 1) := by
    rw [List.getD_eq_getElem?_getD, List.getElem?_eq_getElem hk]
    simp
  have ht : l.set k v = l.take k ++ v :: l.drop (k + 1) := by rw [List.set_eq_take_append_cons_drop, if_pos hk]
  have hy := getD_byte h8 k
  generalize l.getD k 0 = y at *
  have hu : v = y ^^^ (y ^^^ v) := by rw [← Nat.xor_assoc, Nat.xor_self, Nat.zero_xor]
  have hu0 : y ^^^ v ≠ 0 := fun e => hne (xor_zero_eq e).symm
  have hu8 : y ^^^ v < 256 := Nat.xor_lt_two_pow (n := 8) hy hv
  have key : crcFold 4294967295 (l.take k ++ (y ^^^ (y ^^^ v)) :: l.drop (k + 1)) = crcFold 4294967295 (l.take k ++ y :: l.drop (k + 1)) ^^^ bitN (8 * (l.length - (k + 1)) + 8) (y ^^^ v) := by
    rw [crcFold_append, crcFold_append]
    generalize crcFold 4294967295 (l.take k) = A
    show crcFold (byteStep A (y ^^^ (y ^^^ v))) _ = crcFold (byteStep A y) _ ^^^ _
    have e : byteStep A (y ^^^ (y ^^^ v)) = byteStep A y ^^^ bitN 8 (y ^^^ v) := by
      have := byteStep_xor A 0 y (y ^^^ v)
      rw [Nat.xor_zero] at this
      rw [this]
      unfold byteStep
      rw [Nat.zero_xor]
    rw [e, crcFold_off, bitN_add, List.length_drop]
  rw [← hu, ← ht, ← hl] at key
  unfold crc
  rw [key]
  intro e
  have e2 := xor_cancel e
  have e3 := congrArg (crcFold 4294967295 l ^^^ ·) e2
  simp only [← Nat.xor_assoc, Nat.xor_self, Nat.zero_xor] at e3
  exact bitN_ne_zero _ _ (by omega) hu0 e3
theorem le4_inj {a b : Nat} (ha : a < 4294967296) (hb : b < 4294967296) (h : le4 a = le4 b) : a = b := by
  simp only [le4, List.cons.injEq, and_true] at h
  omega
theorem sealed_set (body : List Nat) (hb : body.length = 60) (h8 : ∀ x ∈ body, x < 256) (k v : Nat) (hk : k < 64) (hv : v < 256) (hne : v ≠ (sealN body).getD k 0) :
    sealN (((sealN body).set k v).take 60) ≠ (sealN body).set k v := by
  intro e
  by_cases h : k < 60
  · have e1 : (sealN body).set k v = body.set k v ++ le4 (crc body) := by unfold sealN; rw [List.set_append_left _ _ (by omega)]
    have e2 : ((sealN body).set k v).take 60 = body.set k v := by rw [e1, List.take_append_of_le_length (by simp; omega), List.take_of_length_le (by simp; omega)]
    have e3 : (sealN body).getD k 0 = body.getD k 0 := by
      unfold sealN
      rw [List.getD_eq_getElem?_getD, List.getD_eq_getElem?_getD, List.getElem?_append_left (by omega)]
    rw [e3] at hne
    rw [e2, e1] at e
    have e4 := List.append_cancel_left (show body.set k v ++ le4 (crc (body.set k v)) = body.set k v ++ le4 (crc body) from e)
    have h8' : ∀ x ∈ body.set k v, x < 256 := fun x hx => by
      rcases List.mem_or_eq_of_mem_set hx with h1 | h1
      · exact h8 x h1
      · omega
    exact crc_set_ne body k v (by omega) hv h8 hne (le4_inj (crc_lt _ h8') (crc_lt _ h8) e4)
  · have e2 : ((sealN body).set k v).take 60 = body := by
      rw [List.take_set_of_le (by omega)]
      unfold sealN
      rw [List.take_append_of_le_length (by omega), List.take_of_length_le (by omega)]
    rw [e2] at e
    have e3 := congrArg (fun l => l.getD k 0) e
    rw [List.getD_eq_getElem?_getD (l := (sealN body).set k v), List.getElem?_set_self (by rw [len4, hb]; exact hk)] at e3
    exact hne e3.symm
theorem xor_pow_ne (v j : Nat) : v ^^^ 2 ^ j ≠ v := fun e => by
  have e2 := congrArg (v ^^^ ·) e
  simp only [← Nat.xor_assoc, Nat.xor_self, Nat.zero_xor] at e2
  have := Nat.two_pow_pos j
  omega
end Go.Proofs.YtfkobamemehkdaaDoor
