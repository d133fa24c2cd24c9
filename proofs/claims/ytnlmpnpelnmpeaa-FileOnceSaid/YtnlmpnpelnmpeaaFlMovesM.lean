/-
  Places, in numbers: each block once; what a new address changes.
-/
import Derived.Test.YtnlmpnpelnmpeaaFlCutsL
namespace Go.Proofs.Ytnlmpnpelnmpeaa
open Go.RowKit Go.Maps

theorem cellsP_get : ∀ (l : List (Int × Int)) (j : Nat) (hj : j < l.length), (cellsP l)[2 * j]? = some (.int .i64 l[j].1) ∧ (cellsP l)[2 * j + 1]? = some (.int .i64 l[j].2)
  | [], j, hj => by cases hj
  | p :: l, 0, _ => by simp [cellsP]
  | p :: l, j + 1, hj => by
    have ih := cellsP_get l j (by simpa using hj)
    have e : cellsP (p :: l) = [.int .i64 p.1, .int .i64 p.2] ++ cellsP l := by simp [cellsP]
    rw [e, show 2 * (j + 1) = 2 + 2 * j by omega, show 2 + 2 * j + 1 = 2 + (2 * j + 1) by omega]
    refine ⟨?_, ?_⟩
    · rw [List.getElem?_append_right (by simp)]; simpa using ih.1
    · rw [List.getElem?_append_right (by simp)]; simpa using ih.2
theorem datL_mem (d : Nat → Int) (i : Nat) (p : Int × Int) : p ∈ datL d i ↔ ∃ n, n < i ∧ d n ≠ 0 ∧ p = ((n : Int), d n) := by
  unfold datL
  rw [List.mem_flatMap]
  constructor
  · rintro ⟨n, h1, h2⟩
    by_cases e : d n ≠ 0
    · rw [if_pos e] at h2; exact ⟨n, List.mem_range.1 h1, e, by simpa using h2⟩
    · rw [if_neg e] at h2; cases h2
  · rintro ⟨n, h1, h2, rfl⟩
    exact ⟨n, List.mem_range.2 h1, by rw [if_pos h2]; simp⟩
theorem plM_mem (ad : Int → Int) (l : List Int) (p : Int × Int) : p ∈ plM ad l ↔ ∃ x ∈ l, ad x ≠ 0 ∧ p = (x, ad x) := by
  unfold plM
  rw [List.mem_flatMap]
  constructor
  · rintro ⟨x, h1, h2⟩
    by_cases e : ad x ≠ 0
    · rw [if_pos e] at h2; exact ⟨x, h1, e, by simpa using h2⟩
    · rw [if_neg e] at h2; cases h2
  · rintro ⟨x, h1, h2, rfl⟩
    exact ⟨x, h1, by rw [if_pos h2]; simp⟩
theorem plc_mem (d : Nat → Int) (ad : Int → Int) (p : Int × Int) : p ∈ plcL d ad ↔ (∃ n, n < 600 ∧ d n ≠ 0 ∧ p = ((n : Int), d n)) ∨ ∃ x, 0 < cov d x ∧ ad x ≠ 0 ∧ p = (x, ad x) := by
  unfold plcL
  rw [List.mem_append, datL_mem, plM_mem]
  constructor
  · rintro (h | ⟨x, h1, h2⟩)
    · exact .inl h
    · exact .inr ⟨x, (metL_mem d x).1 h1, h2⟩
  · rintro (h | ⟨x, h1, h2⟩)
    · exact .inl h
    · exact .inr ⟨x, (metL_mem d x).2 h1, h2⟩
theorem datL_cnt (d : Nat → Int) : ∀ i, (datL d i).length = (List.range i).countP fun n => decide (d n ≠ 0)
  | 0 => rfl
  | i + 1 => by
    rw [datL_succ, List.length_append, datL_cnt d i, List.range_succ, List.countP_append]
    by_cases e : d i = 0 <;> simp [e]
theorem plM_all (d : Nat → Int) (ad : Int → Int) (h : ∀ x, cov d x = 0 → ad x = 0) : plM ad (metL d) = plM ad metAll := by
  unfold metL
  generalize metAll = l
  induction l with
  | nil => rfl
  | cons x l ih =>
    rw [List.filter_cons]
    by_cases e : 0 < cov d x
    · rw [if_pos (by simpa using e)]
      unfold plM at ih ⊢
      rw [List.flatMap_cons, List.flatMap_cons, ih]
    · rw [if_neg (by simpa using e)]
      have : ad x = 0 := h x (by have := (cov_bd d x).1; omega)
      unfold plM at ih ⊢
      rw [List.flatMap_cons, if_neg (by simp [this]), ih]; rfl
theorem datL_fst (d : Nat → Int) : ∀ i : Nat, ((datL d i).map fun p : Int × Int => p.1).Nodup ∧ ∀ x ∈ (datL d i).map fun p : Int × Int => p.1, 0 ≤ x ∧ x < (i : Int)
  | 0 => ⟨List.nodup_nil, fun x h => by cases h⟩
  | i + 1 => by
    obtain ⟨h1, h2⟩ := datL_fst d i
    rw [datL_succ, List.map_append]
    by_cases e : d i ≠ 0
    · rw [if_pos e]
      refine ⟨List.nodup_append.2 ⟨h1, by simp, fun a ha b hb => ?_⟩, fun x hx => ?_⟩
      · simp at hb
        have := h2 a ha
        omega
      · rcases List.mem_append.1 hx with h | h
        · have := h2 x h; omega
        · simp at h; omega
    · rw [if_neg e]
      simp only [List.map_nil, List.append_nil]
      exact ⟨h1, fun x hx => by have := h2 x hx; omega⟩
theorem plM_fst (ad : Int → Int) : ∀ l : List Int, l.Nodup → ((plM ad l).map (·.1)).Nodup ∧ ∀ x ∈ (plM ad l).map (·.1), x ∈ l
  | [], _ => ⟨List.nodup_nil, fun x h => by cases h⟩
  | y :: l, h => by
    obtain ⟨h1, h2⟩ := List.nodup_cons.1 h
    obtain ⟨i1, i2⟩ := plM_fst ad l h2
    have e : plM ad (y :: l) = (if ad y ≠ 0 then [(y, ad y)] else []) ++ plM ad l := by simp [plM]
    rw [e, List.map_append]
    by_cases hy : ad y ≠ 0
    · rw [if_pos hy]
      refine ⟨List.nodup_append.2 ⟨by simp, i1, fun a ha b hb => ?_⟩, fun x hx => ?_⟩
      · simp at ha
        subst ha
        intro e2
        subst e2
        exact h1 (i2 _ hb)
      · rcases List.mem_append.1 hx with h | h
        · simp at h; simp [h]
        · exact List.mem_cons_of_mem _ (i2 x h)
    · rw [if_neg hy]
      simp only [List.map_nil, List.nil_append]
      exact ⟨i1, fun x hx => List.mem_cons_of_mem _ (i2 x hx)⟩
theorem plc_fst (d : Nat → Int) (ad : Int → Int) : ((plcL d ad).map (·.1)).Nodup := by
  unfold plcL
  rw [List.map_append]
  obtain ⟨h1, h2⟩ := datL_fst d 600
  obtain ⟨h3, h4⟩ := plM_fst ad (metL d) (metL_nodup d)
  refine List.nodup_append.2 ⟨h1, h3, fun a ha b hb e => ?_⟩
  have := h2 a ha
  have := (metAll_f.2.2.1 b (List.mem_filter.1 (h4 b hb)).1).2.1
  omega
theorem plM_len (ad : Int → Int) : ∀ l : List Int, (plM ad l).length ≤ l.length
  | [] => Nat.le_refl _
  | x :: l => by
    have ih := plM_len ad l
    have e : plM ad (x :: l) = (if ad x ≠ 0 then [(x, ad x)] else []) ++ plM ad l := by simp [plM]
    rw [e, List.length_append, List.length_cons]
    split <;> simp <;> omega
theorem plc_len (d : Nat → Int) (ad : Int → Int) : (plcL d ad).length ≤ 642 := by
  unfold plcL
  have := datL_len d 600
  have := plM_len ad (metL d)
  have := metL_len d
  rw [List.length_append]
  omega
theorem plc_bd {B M b n : Nat} {d : Nat → Int} {ad : Int → Int} {w : World} (h : FX B M b n d ad w) : ∀ p ∈ plcL d ad, -700 < p.1 ∧ p.1 < 600 ∧ 0 < p.2 ∧ p.2 < 4096 := fun p hp => by
  obtain ⟨f, h⟩ := h
  rcases (plc_mem d ad p).1 hp with ⟨n, h1, h2, rfl⟩ | ⟨x, h1, h2, rfl⟩
  · have := h.dB n; simp only; omega
  · have := h.aB x
    have := metAll_f.2.2.1 x (List.mem_filter.1 ((metL_mem d x).2 h1)).1
    simp only; omega
/-- A new address: what is told no more, where all others are, how many there are. -/
theorem mv_gone (d : Nat → Int) (ad : Int → Int) (k : Nat) (v : Int) (hv : v ≠ 0) : sdL d ad k v = goneM (d k) v := by
  unfold sdL
  rw [if_neg (fun e => hv e.2), List.append_nil]
  unfold goneM
  split
  · exact srt_nil
  · exact srt_one _
theorem mv_ad (d : Nat → Int) (ad : Int → Int) (k : Nat) (hk : k < 600) (v : Int) (hv : v ≠ 0) (h : ∀ x, cov d x = 0 → ad x = 0) : sdA d ad k v = ad :=
  sdA_keep h k v (fun x => by rw [cov_upd d k hk v x]; split <;> simp [hv] <;> (try split) <;> omega)
theorem mv_cov (d : Nat → Int) (k : Nat) (hk : k < 600) (v : Int) (hv : v ≠ 0) (x : Int) : cov d x ≤ cov (updN d k v) x := by
  rw [cov_upd d k hk v x]; split <;> simp [hv] <;> (try split) <;> omega
theorem mv_mem (d : Nat → Int) (ad : Int → Int) (k : Nat) (hk : k < 600) (v : Int) (hv : v ≠ 0) (p : Int × Int) (hp : p ∈ plcL d ad) (hne : p.1 ≠ k) : p ∈ plcL (updN d k v) ad := by
  rw [plc_mem] at hp ⊢
  rcases hp with ⟨n, h1, h2, rfl⟩ | ⟨x, h1, h2, rfl⟩
  · refine .inl ⟨n, h1, ?_, ?_⟩
    · rw [updN_ne _ _ (fun e => hne (by simp only; omega))]; exact h2
    · rw [updN_ne _ _ (fun e => hne (by simp only; omega))]
  · exact .inr ⟨x, by have := mv_cov d k hk v hv x; omega, h2, rfl⟩
theorem mv_len (d : Nat → Int) (ad : Int → Int) (k : Nat) (hk : k < 600) (v : Int) (hv : v ≠ 0) (h : ∀ x, cov d x = 0 → ad x = 0) : (plcL (updN d k v) ad).length = (plcL d ad).length + if d k = 0 then 1 else 0 := by
  have h' : ∀ x, cov (updN d k v) x = 0 → ad x = 0 := fun x e => h x (by have := mv_cov d k hk v hv x; have := (cov_bd d x).1; omega)
  unfold plcL
  rw [List.length_append, List.length_append, plM_all _ _ h', plM_all _ _ h, datL_cnt, datL_cnt]
  have := countP_upd (fun n => decide (updN d k v n ≠ 0)) (fun n => decide (d n ≠ 0)) k (fun i hi => by rw [updN_ne d v hi]) 600
  have e1 : (if decide (updN d k v k ≠ 0) = true then (1 : Int) else 0) = 1 := if_pos (decide_eq_true (by rw [updN_at]; exact hv))
  have e2 : (if decide (d k ≠ 0) = true then (1 : Int) else 0) = if d k = 0 then 0 else 1 := by
    by_cases e : d k = 0
    · rw [if_pos e]; exact if_neg (by simp [e])
    · rw [if_neg e]; exact if_pos (decide_eq_true e)
  rw [if_pos hk, e1, e2] at this
  generalize (List.range 600).countP (fun n => decide (updN d k v n ≠ 0)) = c1 at *
  generalize (List.range 600).countP (fun n => decide (d n ≠ 0)) = c2 at *
  by_cases e : d k = 0
  · rw [if_pos e] at this ⊢; omega
  · rw [if_neg e] at this ⊢; omega
end Go.Proofs.Ytnlmpnpelnmpeaa
