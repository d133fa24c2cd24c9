/-
  The document's disk: Read.
-/
import Derived.Test.YtmkhliabmodbdaaDrRow
import Derived.Test.YtmkhliabmodbdaaDkBar
namespace Go.Proofs.Ytmkhliabmodbdaa
open Go.RowKit

def cellsS (S : Nat → List Nat) (n : Nat) : List Value := (List.range n).map fun i => .string (strOf (S i))
theorem cellsS_at (S : Nat → List Nat) (n i : Nat) (h : i < n) : (cellsS S n)[i]? = some (.string (strOf (S i))) := by simp [cellsS, h]
theorem cells2_at : ∀ (Q : List (Nat × List Nat)) (k : Nat) (h : k < Q.length), (cells2 Q)[k * 2]? = some (.int .i64 (Q[k].1 : Int)) ∧ (cells2 Q)[k * 2 + 1]? = some (.string (strOf Q[k].2))
  | [], k, h => by cases h
  | p :: Q, 0, _ => ⟨rfl, rfl⟩
  | p :: Q, k + 1, h => by
    have := cells2_at Q k (by simpa using h)
    have e : cells2 (p :: Q) = .int .i64 p.1 :: .string (strOf p.2) :: cells2 Q := rfl
    rw [e, show (k + 1) * 2 = k * 2 + 1 + 1 by omega, show k * 2 + 1 + 1 + 1 = (k * 2 + 1) + 1 + 1 by omega]
    simpa using this
theorem flush_at (S : Nat → List Nat) (Q : List (Nat × List Nat)) (k i : Nat) (h : k < Q.length) : flushQ S (Q.take (k + 1)) i = if i = Q[k].1 then Q[k].2 else flushQ S (Q.take k) i := by
  rw [take_snoc' Q k h, flushQ_snoc]; rfl
def RrR (w0 : World) (S : Nat → List Nat) (Q : List (Nat × List Nat)) (i : Nat) (t b : Value) (wr : World) : Prop :=
  ∃ k : Nat, k ≤ Q.length ∧ t = .int .i64 k ∧ b = .string (strOf (flushQ S (Q.take k) i)) ∧ wr = w0
set_option maxRecDepth 100000 in
set_option maxHeartbeats 2000000 in
theorem rread_any (sa qa : Option Addr) (n sc m qc : Nat) (st lf : Int) (S : Nat → List Nat) (Q : List (Nat × List Nat)) (i : Nat) (hi : i < n) (w : World) (hm : m = Q.length) (hQ : Rds w qa (cells2 Q)) (hS : Rds w sa (cellsS S n)) (hroom : m ≤ 1000000) :
    Calls Try.prog 45 #[.agg #[.slice sa n sc, .slice qa m qc, .int .i64 st, .int .i64 lf], .int .i64 i] w fun e w' => e = .returned (.string (strOf (flushQ S Q i))) ∧ Below w.heap.size w w' := by
  have hb1 : Below w.heap.size w (w.alloc (.cells #[.slice sa n sc, .slice qa m qc, .int .i64 st, .int .i64 lf] RDT)) := (Below.refl _ _).alloc (Nat.le_refl _) _
  have HB := Lib.hid hb1
  have HX := Lib.hid (blo_laid w RDT #[.slice sa n sc, .slice qa m qc, .int .i64 st, .int .i64 lf])
  have HQ := Lib.hid (hQ.later hb1)
  have HM := Lib.hid hm
  obtain ⟨sb, so, rfl, hsc⟩ := (hS.later hb1) i _ (cellsS_at S n i hi)
  have i0 : (0 : Int) ≤ (i : Int) := by omega
  have i1 : (i : Int) < (n : Int) := by omega
  clear hb1 hQ hS hm
  go_enter Try.func45, Try.ntmps45
  go_wp2_with fail
  generalize hw0 : w.alloc (.cells #[.slice (some ⟨sb, so, none⟩) n sc, .slice qa m qc, .int .i64 st, .int .i64 lf] RDT) = w0 at *
  go_loopw [15, 5] (fun t b wr => RrR w0 S Q i t b wr) (fun t _ _ => m - (intOf t).toNat)
  case atStart => exact ⟨0, Nat.zero_le _, rfl, rfl, rfl⟩
  case round =>
    obtain ⟨k, hk, rfl, rfl, rfl⟩ := hrel
    have k0 : (0 : Int) ≤ (k : Int) := by omega
    have kb : (k : Int) ≤ 1000000 := by have := HM.out; omega
    by_cases hlt : k < m
    · have hkq : k < Q.length := by rw [← HM.out]; exact hlt
      have k1 : (k : Int) < (m : Int) := by omega
      obtain ⟨qb, qo, hqa, c0⟩ := HQ.out (k * 2) _ (cells2_at Q k hkq).1
      obtain ⟨qb', qo', hqa', c1⟩ := HQ.out (k * 2 + 1) _ (cells2_at Q k hkq).2
      rw [hqa] at hqa'
      cases hqa'
      subst hqa
      have x1 := HX.out.cell 1
      simp at x1
      have HFl := Lib.hid (flush_at S Q k i hkq)
      rw [← Nat.add_assoc] at c1
      generalize hq1 : Q[k].1 = q1 at *
      generalize hq2 : Q[k].2 = q2 at *
      by_cases he : i = q1
      · have h1 : ((q1 : Int) == (i : Int)) = true := by rw [he]; simp
        have HE : Hid (flushQ S (Q.take (k + 1)) i = q2) := by
          show _ = _
          rw [HFl.out, if_pos he]
        clear hq1 hq2 he HFl
        go_wp2_with fail
        go_roundw
        case rel => exact ⟨k + 1, hkq, by simp, by rw [HE.out], rfl⟩
        case measure => simp [intOf]; omega
      · have h1 : ((q1 : Int) == (i : Int)) = false := by rw [beq_eq_false_iff_ne]; omega
        have HE : Hid (flushQ S (Q.take (k + 1)) i = flushQ S (Q.take k) i) := by
          show _ = _
          rw [HFl.out, if_neg he]
        clear hq1 hq2 he HFl
        go_wp2_with fail
        go_roundw
        case rel => exact ⟨k + 1, hkq, by simp, by rw [HE.out], rfl⟩
        case measure => simp [intOf]; omega
    · have hke : k = Q.length := by have := HM.out; omega
      have HE : Hid (flushQ S (Q.take k) i = flushQ S Q i) := by
        show _ = _
        rw [hke, List.take_length]
      have k1 : ¬ (k : Int) < (m : Int) := by omega
      clear hke
      go_wp2
      rw [HE.out]
      go_ret
      exact ⟨rfl, HB.out⟩
end Go.Proofs.Ytmkhliabmodbdaa
