/-
  Runes of a string of bytes: a byte below 128, or a rune from 128 on whose bytes are all from 128 on.
-/
import Derived.Lib.DecodeN
import Derived.Lib.RuneCount
import Derived.Test.YtagigeacjendiaaMem
namespace Go.Proofs.Ytagigeacjendiaa
open Go.RowKit Go.Lib

set_option maxRecDepth 100000 in
set_option maxHeartbeats 2000000 in
theorem decodeN_rune (n b0 b1 b2 b3 : Nat) (hn : 1 ≤ n) (h0 : b0 < 256) (h1 : b1 < 256) (h2 : b2 < 256) (h3 : b3 < 256) :
    (b0 < 128 ∧ decodeN n b0 b1 b2 b3 = (b0, 1)) ∨
    (∃ R K, decodeN n b0 b1 b2 b3 = (R, K) ∧ 128 ≤ b0 ∧ 128 ≤ R ∧ (R < 55296 ∨ 57344 ≤ R) ∧ R ≤ 1114111 ∧ 1 ≤ K ∧ K ≤ n ∧ K ≤ 4 ∧ (1 < K → 128 ≤ b1) ∧ (2 < K → 128 ≤ b2) ∧ (3 < K → 128 ≤ b3)) := by
  unfold decodeN
  repeat' split
  all_goals first
    | (left; exact ⟨by assumption, rfl⟩)
    | (right; exact ⟨_, _, rfl, by omega, by omega, by omega, by omega, by omega, by omega, by omega, by omega, by omega, by omega⟩)
def byteAt (s : ByteArray) (i : Nat) : Nat := (s.get! i).toNat
theorem byteAt_lt (s : ByteArray) (i : Nat) : byteAt s i < 256 := UInt8.toNat_lt _
theorem rune_at (s : ByteArray) (pos : Nat) (h : pos < s.size) :
    (byteAt s pos < 128 ∧ Utf8.decode s pos = (byteAt s pos, 1)) ∨
    (∃ R K, Utf8.decode s pos = (R, K) ∧ 128 ≤ R ∧ (R < 55296 ∨ 57344 ≤ R) ∧ R ≤ 1114111 ∧ 1 ≤ K ∧ pos + K ≤ s.size ∧ ∀ j, pos ≤ j → j < pos + K → 128 ≤ byteAt s j) := by
  rw [decode_at]
  rcases decodeN_rune (s.size - pos) (byteAt s pos) (byteAt s (pos + 1)) (byteAt s (pos + 2)) (byteAt s (pos + 3)) (by omega) (byteAt_lt _ _) (byteAt_lt _ _) (byteAt_lt _ _) (byteAt_lt _ _) with h1 | ⟨R, K, he, hb0, h1, h2, h3, h4, h5, h6, h7, h8, h9⟩
  · exact .inl h1
  · refine .inr ⟨R, K, he, h1, h2, h3, h4, by omega, fun j hj hk => ?_⟩
    have : j = pos ∨ j = pos + 1 ∨ j = pos + 2 ∨ j = pos + 3 := by omega
    rcases this with rfl | rfl | rfl | rfl
    · exact hb0
    · exact h7 (by omega)
    · exact h8 (by omega)
    · exact h9 (by omega)
end Go.Proofs.Ytagigeacjendiaa
