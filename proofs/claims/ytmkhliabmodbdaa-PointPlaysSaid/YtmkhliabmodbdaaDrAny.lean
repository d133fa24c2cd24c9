/-
  The program's calls and the document's, each told for every input by a function on the model's disk.
-/
import Derived.Test.YtmkhliabmodbdaaDrTells
namespace Go.Proofs.Ytmkhliabmodbdaa
open Go.RowKit

def writeD (d : Dm) (k : Int) (l : List Nat) : Dm × Int :=
  if k < 0 ∨ (d.n : Int) ≤ k ∨ l.length ≠ 64 then (d, 22) else if deadB d = true then (d, 102) else (putD d k.toNat l, 0)
def barrD (d : Dm) : Dm × Int := if deadB d = true then (d, 102) else (barD d, 0)
def armsD (d : Dm) (k : Int) : Dm × Int := if k < 0 then (d, 22) else if deadB d = true then (d, 102) else (armD d k, 0)
theorem bool_no {b : Bool} (h : ¬ b = true) : b = false := by cases b with
  | true => exact absurd rfl h
  | false => rfl
section
variable {C : Nat} {w : World} {L : Dl} {d : Dm}
theorem write_any (k : Int) (a : Option Addr) (m cap : Nat) (l : List Nat) (hm : m = l.length) (hm2 : m ≤ 9223372036854775807) (hl0 : 0 ≤ d.left) (hs : d.steps < 1000000) (hq : d.Q.length < 1000000) (hb : l.length = 64 → ∃ g, a = some ⟨g, 0, none⟩ ∧ SBlk w g l) (h : Dk C w L d) :
    Calls Try.prog 21 #[.pointer (some ⟨L.bd, 0, none⟩), .int .i64 k, .slice a m cap] w (CodeO C w L (writeD d k l).1 (writeD d k l).2) := by
  unfold writeD
  by_cases h1 : k < 0
  · rw [if_pos (.inl h1)]; exact write_low k a m cap h1 h
  · by_cases h2 : (d.n : Int) ≤ k
    · rw [if_pos (.inr (.inl h2))]; exact write_high k a m cap h2 h
    · obtain ⟨i, rfl⟩ : ∃ i : Nat, k = (i : Int) := ⟨k.toNat, by omega⟩
      have hin : i < d.n := by omega
      by_cases h3 : l.length = 64
      · rw [if_neg (by rintro (q | q | q) <;> omega)]
        obtain ⟨g, rfl, hB⟩ := hb h3
        rw [hm, h3]
        by_cases h4 : deadB d = true
        · rw [if_pos h4]; exact write_dead i _ cap hin h4 h
        · rw [if_neg h4]
          have := write_sl i g cap l hin (bool_no h4) hl0 hs hq hB h
          simpa using this
      · rw [if_pos (.inr (.inr h3))]; exact write_len i a m cap hin (by omega) hm2 h
theorem barr_any (hl0 : 0 ≤ d.left) (hs : d.steps < 1000000) (h : Dk C w L d) : Calls Try.prog 38 #[.pointer (some ⟨L.bd, 0, none⟩)] w (CodeO C w L (barrD d).1 (barrD d).2) := by
  unfold barrD
  by_cases h4 : deadB d = true
  · rw [if_pos h4]; exact bar_dead h h4
  · rw [if_neg h4]; exact bar_yes h (bool_no h4) hl0 hs
theorem arms_any (k : Int) (hk2 : k ≤ 9223372036854775807) (h : Dk C w L d) : Calls Try.prog 17 #[.pointer (some ⟨L.bd, 0, none⟩), .int .i64 k] w (CodeO C w L (armsD d k).1 (armsD d k).2) := by
  unfold armsD
  by_cases h1 : k < 0
  · rw [if_pos h1]; exact arm_low k h1 h
  · rw [if_neg h1]
    by_cases h4 : deadB d = true
    · rw [if_pos h4]; exact arm_dead k (by omega) h h4
    · rw [if_neg h4]; exact arm_yes k (by omega) hk2 h (bool_no h4)
end
/-- What a call of the document's disk leaves. -/
def MrO (w : World) (d' : Dm) (code : Int) (e : Ending) (w' : World) : Prop :=
  ∃ sa qa sc qc, e = .returned (.tuple #[.agg (agR sa qa sc qc d'), .int .i64 code]) ∧ Mr w' sa qa sc qc d' ∧ Below w.heap.size w w'
theorem lf_dead {d : Dm} (h : deadB d = true) : lfD d = 0 := by
  unfold deadB at h
  simp at h
  unfold lfD
  rw [if_pos h.1, h.2]
section
variable {C : Nat} {w w1 : World} {L : Dl} {d : Dm} {sa qa : Option Addr} {sc qc : Nat}
theorem mstep (hd : deadB d = false) (hl : 0 ≤ d.left) (hl2 : d.left ≤ 9223372036854775807) (h1 : 0 ≤ d.steps) (h2 : d.steps < 1000000) (sa qa : Option Addr) (sc qc : Nat) (W : World) :
    Calls Try.prog 43 #[.agg #[.slice sa d.n sc, .slice qa d.Q.length qc, .int .i64 d.steps, .int .i64 (lfD d)]] W fun e w' => e = .returned (.tuple #[.agg #[.slice sa d.n sc, .slice qa d.Q.length qc, .int .i64 (d.steps + 1), .int .i64 (lfD (stepD d))], .bool true]) ∧ Below W.heap.size W w' := by
  cases ha : d.armed with
  | false =>
    have e1 : lfD d = -1 := by simp [lfD, ha]
    have e2 : lfD (stepD d) = -1 := by simp [lfD, stepD, ha]
    rw [e1, e2]
    exact rstep_free sa qa d.n sc d.Q.length qc d.steps h1 h2 W
  | true =>
    have e1 : lfD d = d.left := by simp [lfD, ha]
    have e2 : lfD (stepD d) = d.left - 1 := by simp [lfD, stepD, ha]
    have : d.left ≠ 0 := by
      intro e
      simp [deadB, ha, e] at hd
    rw [e1, e2]
    exact rstep_arm sa qa d.n sc d.Q.length qc d.steps d.left h1 h2 (by omega) hl2 W
theorem mstep_dead (hd : deadB d = true) (sa qa : Option Addr) (sc qc : Nat) (W : World) :
    Calls Try.prog 43 #[.agg #[.slice sa d.n sc, .slice qa d.Q.length qc, .int .i64 d.steps, .int .i64 (lfD d)]] W fun e w' => e = .returned (.tuple #[.agg #[.slice sa d.n sc, .slice qa d.Q.length qc, .int .i64 d.steps, .int .i64 (lfD d)], .bool false]) ∧ Below W.heap.size W w' := by
  rw [lf_dead hd]
  exact rstep_dead sa qa d.n sc d.Q.length qc d.steps W
theorem MrO.stay {w w' : World} {e : Ending} {code : Int} (hm : Mr w sa qa sc qc d) (h : e = .returned (.tuple #[.agg #[.slice sa d.n sc, .slice qa d.Q.length qc, .int .i64 d.steps, .int .i64 (lfD d)], .int .i64 code]) ∧ Below w.heap.size w w') : MrO w d code e w' :=
  ⟨sa, qa, sc, qc, h.1, hm.later h.2, h.2⟩
theorem putD_pos {d : Dm} {i : Nat} {l : List Nat} (h : 0 ≤ d.left) (hd : deadB d = false) : 0 ≤ (putD d i l).left := by
  show 0 ≤ (if d.armed then d.left - 1 else d.left)
  unfold deadB at hd
  cases ha : d.armed with
  | false => simpa using h
  | true =>
    rw [ha] at hd
    simp at hd ⊢
    omega
theorem barD_pos {d : Dm} (h : 0 ≤ d.left) (hd : deadB d = false) : 0 ≤ (barD d).left := by
  show 0 ≤ (if d.armed then d.left - 1 else d.left)
  unfold deadB at hd
  cases ha : d.armed with
  | false => simpa using h
  | true =>
    rw [ha] at hd
    simp at hd ⊢
    omega
/-- What a disk's numbers keep. -/
structure Dn (d : Dm) : Prop where
  few : 1 ≤ d.n ∧ d.n ≤ 4096
  good : ∀ p ∈ d.Q, GoodW d.n p
  stp : 0 ≤ d.steps ∧ d.steps ≤ 1000000
  lft : -1 ≤ d.left ∧ d.left ≤ 9223372036854775807
theorem Dk.nums (h : Dk C w1 L d) : Dn d := ⟨h.few, h.good, h.stp, h.lft⟩
theorem mput_n (k : Int) (l : List Nat) (h : Dn d) (hm : Mr w sa qa sc qc d) (hs : d.steps < 1000000) (hq : d.Q.length ≤ 100000) :
    Calls Try.prog 23 #[.agg (agR sa qa sc qc d), .int .i64 k, .string (strOf l)] w (MrO w (writeD d k l).1 (writeD d k l).2) := by
  unfold writeD
  have hsz := strOf_size l
  by_cases h1 : k < 0
  · rw [if_pos (.inl h1)]; exact (rput_low sa qa d.n sc d.Q.length qc d.steps (lfD d) k (strOf l) h1 w).mono fun e w' q => MrO.stay hm q
  · by_cases h2 : (d.n : Int) ≤ k
    · rw [if_pos (.inr (.inl h2))]; exact (rput_high sa qa d.n sc d.Q.length qc d.steps (lfD d) k (strOf l) h1 h2 w).mono fun e w' q => MrO.stay hm q
    · by_cases h3 : l.length = 64
      · rw [if_neg (by rintro (q | q | q) <;> omega)]
        have h64 : (((strOf l).size : Int) != 64) = false := by rw [hsz, h3]; rfl
        by_cases h4 : deadB d = true
        · rw [if_pos h4]
          exact (rput_dead sa qa d.n sc d.Q.length qc d.steps (lfD d) d.steps (lfD d) k (strOf l) h1 h2 h64 w (mstep_dead h4 sa qa sc qc)).mono fun e w' q => MrO.stay hm q
        · rw [if_neg h4]
          obtain ⟨i, rfl⟩ : ∃ i : Nat, k = (i : Int) := ⟨k.toNat, by omega⟩
          refine (rput_yes sa qa d.n sc d.Q.length qc d.steps (lfD d) (d.steps + 1) (lfD (stepD d)) i l d.Q h2 h64 w (mstep (bool_no h4) hm.pos h.lft.2 h.stp.1 hs sa qa sc qc) rfl hm.q hm.qn hq).mono ?_
          rintro e w' ⟨a5, c5, rfl, ⟨base, hO⟩, hN, hB⟩
          have el : (putD d i l).Q.length = d.Q.length + 1 := by simp [putD]
          refine ⟨sa, a5, sc, c5, ?_, ⟨(hm.later hB).s, (show Rds w' a5 (cells2 (d.Q ++ [(i, l)])) from Rds.own hO), hm.sn, fun e => ?_, (hm.later hB).st, own_typed hO, fun j => ?_, putD_pos hm.pos (bool_no h4)⟩, hB⟩
          · simp only [Int.toNat_natCast]
            unfold agR
            rw [el]
            rfl
          · have := hN e; omega
          · show updB d.N i l j = flushQ d.S (d.Q ++ [(i, l)]) j
            rw [flushQ_snoc]
            unfold updB
            split
            · rfl
            · exact hm.now j
      · rw [if_pos (.inr (.inr h3))]
        have h64 : (((strOf l).size : Int) != 64) = true := by rw [hsz, bne_iff_ne]; omega
        exact (rput_len sa qa d.n sc d.Q.length qc d.steps (lfD d) k (strOf l) h1 h2 h64 w).mono fun e w' q => MrO.stay hm q
theorem mput_any (k : Int) (l : List Nat) (h : Dk C w1 L d) (hm : Mr w sa qa sc qc d) (hs : d.steps < 1000000) (hq : d.Q.length ≤ 100000) :
    Calls Try.prog 23 #[.agg (agR sa qa sc qc d), .int .i64 k, .string (strOf l)] w (MrO w (writeD d k l).1 (writeD d k l).2) := mput_n k l h.nums hm hs hq
theorem mbar_n (h : Dn d) (hm : Mr w sa qa sc qc d) (hs : d.steps < 1000000) (hq : d.Q.length ≤ 100000) :
    Calls Try.prog 39 #[.agg (agR sa qa sc qc d)] w (MrO w (barrD d).1 (barrD d).2) := by
  unfold barrD
  by_cases h4 : deadB d = true
  · rw [if_pos h4]
    exact (rbar_dead sa qa d.n sc d.Q.length qc d.steps (lfD d) d.steps (lfD d) w (mstep_dead h4 sa qa sc qc)).mono fun e w' q => MrO.stay hm q
  · rw [if_neg h4]
    refine (rbar_yes sa qa d.n sc d.Q.length qc d.steps (lfD d) (d.steps + 1) (lfD (stepD d)) d.S d.Q h.few.1 (by have := h.few.2; omega) w (mstep (bool_no h4) hm.pos h.lft.2 h.stp.1 hs sa qa sc qc) rfl hm.q hm.s hm.sn (fun p hp => (h.good p hp).1) hq).mono ?_
    rintro e w' ⟨g, c5, rfl, hR, hB⟩
    refine ⟨some ⟨g, 0, none⟩, none, c5, 0, rfl, ⟨hR.rds, fun j u hj => (by cases hj), fun e => (by cases e), fun _ => ⟨rfl, rfl⟩, hR.typed, fun ad e => (by cases e), fun j => ?_, barD_pos hm.pos (bool_no h4)⟩, hB⟩
    exact hm.now j
theorem mbar_any (h : Dk C w1 L d) (hm : Mr w sa qa sc qc d) (hs : d.steps < 1000000) (hq : d.Q.length ≤ 100000) :
    Calls Try.prog 39 #[.agg (agR sa qa sc qc d)] w (MrO w (barrD d).1 (barrD d).2) := mbar_n h.nums hm hs hq
theorem marm_any (k : Int) (hm : Mr w sa qa sc qc d) :
    Calls Try.prog 18 #[.agg (agR sa qa sc qc d), .int .i64 k] w (MrO w (armsD d k).1 (armsD d k).2) := by
  unfold armsD
  by_cases h1 : k < 0
  · rw [if_pos h1]; exact (rarm_low sa qa d.n sc d.Q.length qc d.steps (lfD d) k h1 w).mono fun e w' q => MrO.stay hm q
  · rw [if_neg h1]
    by_cases h4 : deadB d = true
    · rw [if_pos h4]
      have := rarm_dead sa qa d.n sc d.Q.length qc d.steps k h1 w
      rw [← lf_dead h4] at this
      exact this.mono fun e w' q => MrO.stay hm q
    · rw [if_neg h4]
      have hne : lfD d ≠ 0 := by
        intro e
        unfold lfD at e
        split at e
        · rename_i ha; exact h4 (by simp [deadB, ha, e])
        · omega
      refine (rarm_yes sa qa d.n sc d.Q.length qc d.steps (lfD d) k h1 hne w).mono ?_
      rintro e w' ⟨rfl, hB⟩
      exact ⟨sa, qa, sc, qc, rfl, ⟨(hm.later hB).s, (hm.later hB).q, hm.sn, hm.qn, (hm.later hB).st, (hm.later hB).qt, hm.now, by show 0 ≤ k; omega⟩, hB⟩
def MrV (w : World) (d' : Dm) (e : Ending) (w' : World) : Prop :=
  ∃ sa qa sc qc, e = .returned (.agg (agR sa qa sc qc d')) ∧ Mr w' sa qa sc qc d' ∧ Below w.heap.size w w'
theorem mcrash_any (ka : Option Addr) (kn kc : Nat) (keep : List Bool) (torn sec : Int) (h : Dk C w1 L d) (hm : Mr w sa qa sc qc d) (hq : d.Q.length ≤ 100000) (hkn : kn = keep.length) (hkm : kn ≤ 9223372036854775807) (hK : Bools w ka keep) :
    Calls Try.prog 20 #[.agg (agR sa qa sc qc d), .slice ka kn kc, .int .i64 torn, .int .i64 sec] w (MrV w (crashD d keep torn sec)) := by
  refine (rcrash_any sa qa ka d.n sc d.Q.length qc kn kc d.steps (lfD d) d.S d.Q keep torn sec h.few.1 (by have := h.few.2; omega) w rfl hm.q hm.s hm.sn h.good h.sure.len h.sure.byte hq hkn hkm hK).mono ?_
  rintro e w' ⟨g, c5, rfl, hR, hB⟩
  exact ⟨some ⟨g, 0, none⟩, none, c5, 0, rfl, ⟨hR.rds, fun j u hj => (by cases hj), fun e => (by cases e), fun _ => ⟨rfl, rfl⟩, hR.typed, fun ad e => (by cases e), fun j => rfl, Int.le_refl 0⟩, hB⟩
theorem mnew_any (n : Nat) (w : World) (h1 : 1 ≤ n) (h2 : n ≤ 4096) : Calls Try.prog 11 #[.int .i64 n] w (MrO w (newD n) 0) := by
  refine (rnew_any n w h1 h2).mono ?_
  rintro e w' ⟨g, c5, rfl, hR, hB⟩
  exact ⟨some ⟨g, 0, none⟩, none, c5, 0, rfl, ⟨hR.rds, fun j u hj => (by cases hj), fun e => (by cases e), fun _ => ⟨rfl, rfl⟩, hR.typed, fun ad e => (by cases e), fun j => rfl, Int.le_refl 0⟩, hB⟩
end
end Go.Proofs.Ytmkhliabmodbdaa
