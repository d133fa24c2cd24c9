/-
  Plain mathematics of points: which is newer, a point's block, the point of a block.
-/
import Derived.Test.YtmkhliabmodbdaaDkTear
namespace Go.Proofs.Ytmkhliabmodbdaa
open Go.RowKit

structure Pt where
  e : Int
  c : Int
  n : Int
  f : Int
  deriving DecidableEq
def ptA (p : Pt) : Array Value := #[.int .i64 p.e, .int .i64 p.c, .int .i64 p.n, .int .i64 p.f]
def cmpV (a b : Int) : Int := if a < b then -1 else if b < a then 1 else 0
def orV (a b : Int) : Int := if a = 0 then b else a
def newB (p q : Pt) : Bool := decide (0 < orV (cmpV p.e q.e) (cmpV p.c q.c))
def NewP (p q : Pt) : Prop := q.e < p.e ∨ p.e = q.e ∧ q.c < p.c
theorem newB_iff (p q : Pt) : newB p q = true ↔ NewP p q := by
  unfold newB orV cmpV NewP
  rw [decide_eq_true_iff]
  by_cases h1 : p.e < q.e
  · rw [if_pos h1, if_neg (by decide)]; constructor
    · intro h; exact absurd h (by decide)
    · intro h; omega
  · rw [if_neg h1]
    by_cases h2 : q.e < p.e
    · rw [if_pos h2, if_neg (by decide)]; constructor
      · intro _; exact .inl h2
      · intro _; decide
    · rw [if_neg h2, if_pos rfl]
      by_cases h3 : p.c < q.c
      · rw [if_pos h3]; constructor
        · intro h; exact absurd h (by decide)
        · intro h; omega
      · rw [if_neg h3]
        by_cases h4 : q.c < p.c
        · rw [if_pos h4]; constructor
          · intro _; exact .inr ⟨by omega, h4⟩
          · intro _; decide
        · rw [if_neg h4]; constructor
          · intro h; exact absurd h (by decide)
          · intro h; omega
theorem newB_false (p q : Pt) : newB p q = false ↔ ¬ NewP p q := by
  rw [← newB_iff]; cases newB p q <;> simp
def Good4 (p : Pt) : Prop := (0 ≤ p.e ∧ p.e ≤ 65535) ∧ (0 ≤ p.c ∧ p.c ≤ 65535) ∧ (0 ≤ p.n ∧ p.n ≤ 4095) ∧ (0 ≤ p.f ∧ p.f ≤ 4095)
instance (p : Pt) : Decidable (Good4 p) := by unfold Good4; infer_instance
def encB (e c n f : Nat) (j : Nat) : Nat :=
  if j % 16 = 0 then e % 256 else if j % 16 = 1 then e / 256 else if j % 16 = 2 then c % 256 else if j % 16 = 3 then c / 256 else if j % 16 = 4 then j / 16
  else if j = 5 then n % 256 else if j = 6 then n / 256 else if j = 7 then f % 256 else if j = 8 then f / 256 else 0
def encP (p : Pt) : List Nat := L64 (encB p.e.toNat p.c.toNat p.n.toNat p.f.toNat)
theorem encP_length (p : Pt) : (encP p).length = 64 := L64_length _
theorem encP_byte {p : Pt} (h : Good4 p) : ∀ x ∈ encP p, x < 256 := L64_byte fun j hj => by
  obtain ⟨h1, h2, h3, h4⟩ := h
  unfold encB
  repeat' split
  all_goals omega
def rdP (l : List Nat) : Pt := ⟨(l.getD 0 0 + l.getD 1 0 * 256 : Nat), (l.getD 2 0 + l.getD 3 0 * 256 : Nat), (l.getD 5 0 + l.getD 6 0 * 256 : Nat), (l.getD 7 0 + l.getD 8 0 * 256 : Nat)⟩
def decP (l : List Nat) : Option Pt := if l.length = 64 ∧ Good4 (rdP l) ∧ encP (rdP l) = l then some (rdP l) else none
theorem rdP_enc {p : Pt} (h : Good4 p) : rdP (encP p) = p := by
  obtain ⟨h1, h2, h3, h4⟩ := h
  obtain ⟨e, c, n, f⟩ := p
  simp only at h1 h2 h3 h4
  unfold rdP encP
  rw [L64_get _ 0 (by decide), L64_get _ 1 (by decide), L64_get _ 2 (by decide), L64_get _ 3 (by decide), L64_get _ 5 (by decide), L64_get _ 6 (by decide), L64_get _ 7 (by decide), L64_get _ 8 (by decide)]
  simp only [encB]
  simp
  omega
theorem decP_enc {p : Pt} (h : Good4 p) : decP (encP p) = some p := by
  unfold decP
  rw [rdP_enc h, if_pos ⟨encP_length p, h, rfl⟩]
theorem decP_some {l : List Nat} {p : Pt} (h : decP l = some p) : Good4 p ∧ l = encP p ∧ p = rdP l := by
  unfold decP at h
  split at h
  · rename_i hh
    cases h
    exact ⟨hh.2.1, hh.2.2.symm, rfl⟩
  · cases h
end Go.Proofs.Ytmkhliabmodbdaa
