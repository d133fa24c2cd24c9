/-
  The blocks of pointers on the way to data: all tried by the kernel. How many data with an address a block of pointers covers.
-/
import Derived.Test.YtnlmpnpelnmpeaaFlMts
import Derived.KernelRfl
namespace Go.Proofs.Ytnlmpnpelnmpeaa
open Go.RowKit

theorem data_isB (n : Nat) (h : n < 600) : isB (n : Int) = true ∧ fOf (n : Int) = n ∧ lvOf (n : Int) = 0 := by
  have : (0 : Int) ≤ (n : Int) := by omega
  refine ⟨?_, ?_, ?_⟩
  · unfold isB; rw [if_pos this]; simp; omega
  · unfold fOf; rw [if_pos this]
  · unfold lvOf; rw [if_pos this]
theorem isB_rangeF (n : Int) (h : isB n = true) : -700 ≤ n ∧ n < 600 := by
  have h1 := fOf_bd n h
  by_cases h0 : 0 ≤ n
  · unfold isB at h; simp [h0] at h; omega
  · have e : fOf n = -n ∨ fOf n = -n - 1 ∨ fOf n = -n - 2 := by
      unfold fOf
      simp only [h0, if_false]
      split
      · exact .inl rfl
      · split
        · exact .inr (.inl rfl)
        · exact .inr (.inr rfl)
    omega
/-- The way to data. -/
def way (n : Nat) : List Int := metasM (n : Int) 0
def wayB (n : Nat) : Bool := decide ((way n).length ≤ 3) && decide ((way n).Nodup) && (way n).all (fun x => decide (-700 < x) && decide (x < 0) && isB x && decide (0 < lvOf x))
theorem way_all : ((List.range 600).all wayB) = true := by kernel_rfl
structure WayF (n : Nat) : Prop where
  len : (way n).length ≤ 3
  nodup : (way n).Nodup
  bd : ∀ x ∈ way n, -700 < x ∧ x < 0 ∧ isB x = true ∧ 0 < lvOf x
theorem way_f (n : Nat) (h : n < 600) : WayF n := by
  have := List.all_eq_true.1 way_all n (List.mem_range.2 h)
  simp only [wayB, Bool.and_eq_true, decide_eq_true_eq, List.all_eq_true] at this
  exact ⟨this.1.1, this.1.2, fun x hx => by have := this.2 x hx; exact ⟨this.1.1.1, this.1.1.2, this.1.2, this.2⟩⟩
theorem to_data (n : Nat) (w : World) (h : n < 600) : Calls Try.prog 62 #[.int .i64 n] w fun e w' => ∃ r a1 c1 a2 n2 c2, e = .returned (.tuple #[.agg #[.int .i64 r, .slice a1 (way n).length c1, .slice a2 n2 c2], .int .i64 0]) ∧ w'.ownsRow w.heap.size 3 1 (.slice a1 (way n).length c1) (way n).length (cellsI (way n)) ∧ Below w.heap.size w w' := by
  obtain ⟨h1, h2, h3⟩ := data_isB n h
  refine (to_yes n w (by omega) h1 (by rw [h2, h3]; exact (rLev_bd _).1)).mono ?_
  rintro e w' ⟨a1, c1, a2, c2, rfl, ho, hb⟩
  rw [h2, h3] at ho ⊢
  exact ⟨_, a1, c1, a2, _, c2, rfl, ho, hb⟩
/-- How many data with an address block x covers. -/
def cov (d : Nat → Int) (x : Int) : Int := (((List.range 600).countP fun n => decide (d n ≠ 0) && decide (x ∈ way n) : Nat) : Int)
theorem cov_bd (d : Nat → Int) (x : Int) : 0 ≤ cov d x ∧ cov d x ≤ 600 := by
  unfold cov
  have := List.countP_le_length (p := fun n => decide (d n ≠ 0) && decide (x ∈ way n)) (l := List.range 600)
  simp only [List.length_range] at this
  omega
theorem countP_upd (p q : Nat → Bool) (k : Nat) (h : ∀ i, i ≠ k → p i = q i) : ∀ m, ((List.range m).countP p : Int) = (List.range m).countP q + (if k < m then (if p k then 1 else 0) - (if q k then 1 else 0) else 0)
  | 0 => by simp
  | m + 1 => by
    have ih := countP_upd p q k h m
    rw [List.range_succ, List.countP_append, List.countP_append]
    have e1 : ([m] : List Nat).countP p = if p m then 1 else 0 := by simp [List.countP_cons]
    have e2 : ([m] : List Nat).countP q = if q m then 1 else 0 := by simp [List.countP_cons]
    have hm := h m
    rw [e1, e2]
    clear e1 e2
    generalize (List.range m).countP p = a at *
    generalize (List.range m).countP q = c at *
    by_cases e : m = k
    · subst e
      rw [if_neg (show ¬ m < m by omega)] at ih
      rw [if_pos (show m < m + 1 by omega)]
      cases p m <;> cases q m <;> simp <;> omega
    · rw [hm e]
      by_cases h2 : k < m
      · rw [if_pos h2] at ih; rw [if_pos (show k < m + 1 by omega)]
        generalize (if p k = true then (1 : Int) else 0) = u at *
        generalize (if q k = true then (1 : Int) else 0) = v at *
        cases q m <;> simp <;> omega
      · rw [if_neg h2] at ih; rw [if_neg (show ¬ k < m + 1 by omega)]
        cases q m <;> simp <;> omega
def updN (d : Nat → Int) (k : Nat) (v : Int) : Nat → Int := fun i => if i = k then v else d i
theorem updN_at (d : Nat → Int) (k : Nat) (v : Int) : updN d k v k = v := by simp [updN]
theorem updN_ne (d : Nat → Int) {k i : Nat} (v : Int) (h : i ≠ k) : updN d k v i = d i := by simp [updN, h]
theorem cov_upd (d : Nat → Int) (k : Nat) (hk : k < 600) (v x : Int) : cov (updN d k v) x = cov d x + (if x ∈ way k then (if v ≠ 0 then 1 else 0) - (if d k ≠ 0 then 1 else 0) else 0) := by
  unfold cov
  rw [countP_upd (fun n => decide (updN d k v n ≠ 0) && decide (x ∈ way n)) (fun n => decide (d n ≠ 0) && decide (x ∈ way n)) k (fun i hi => by rw [updN_ne d v hi]) 600, if_pos hk]
  simp only [updN_at]
  by_cases h1 : x ∈ way k <;> by_cases h2 : v = 0 <;> by_cases h3 : d k = 0 <;> simp [h1, h2, h3]
theorem cov_zero (x : Int) : cov (fun _ => 0) x = 0 := by simp [cov]
theorem cov_pos (d : Nat → Int) (x : Int) : 0 < cov d x ↔ ∃ n, n < 600 ∧ d n ≠ 0 ∧ x ∈ way n := by
  have key := List.countP_pos_iff (p := fun n => decide (d n ≠ 0) && decide (x ∈ way n)) (l := List.range 600)
  unfold cov
  constructor
  · intro h
    obtain ⟨n, h1, h2⟩ := key.1 (by omega)
    simp only [Bool.and_eq_true, decide_eq_true_eq] at h2
    exact ⟨n, List.mem_range.1 h1, h2.1, h2.2⟩
  · rintro ⟨n, h1, h2, h3⟩
    have := key.2 ⟨n, List.mem_range.2 h1, by simp [h2, h3]⟩
    omega
end Go.Proofs.Ytnlmpnpelnmpeaa
