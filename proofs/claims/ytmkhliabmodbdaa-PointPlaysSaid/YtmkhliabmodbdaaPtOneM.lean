/-
  PointOne's plain mathematics: a newer point saved over an elder block, torn or not.
-/
import Derived.Test.YtmkhliabmodbdaaPtSave
namespace Go.Proofs.Ytmkhliabmodbdaa
open Go.RowKit

/-- The epoch that a sector tells. -/
def epS (l : List Nat) (s : Nat) : Nat := l.getD (16 * s) 0 + l.getD (16 * s + 1) 0 * 256
def Ep (l : List Nat) (i : Nat) : Prop := ∀ s, s < 4 → epS l s ≤ i
theorem ep_enc {p : Pt} (h : Good4 p) (s : Nat) (hs : s < 4) : epS (encP p) s = p.e.toNat := by
  obtain ⟨h1, _⟩ := h
  unfold epS encP
  rw [L64_get _ _ (by omega), L64_get _ _ (by omega)]
  unfold encB
  rw [if_pos (by omega), if_neg (by omega), if_pos (by omega)]
  omega
theorem ep_dec {l : List Nat} {p : Pt} (h : decP l = some p) (s : Nat) (hs : s < 4) : epS l s = p.e.toNat := by
  obtain ⟨hg, hl, _⟩ := decP_some h
  rw [hl]; exact ep_enc hg s hs
theorem tear_get (t f : List Nat) (sec : Int) (j : Nat) (hj : j < 64) : (tearK 4 t f sec).getD j 0 = if bitS sec (j / 16) = true then f.getD j 0 else t.getD j 0 := by
  unfold tearK
  rw [L64_get _ _ hj]
  by_cases hb : bitS sec (j / 16) = true
  · rw [if_pos ⟨by omega, hb⟩, if_pos hb]
  · rw [if_neg (fun q => hb q.2), if_neg hb]
theorem tear_ep (t f : List Nat) (sec : Int) (s : Nat) (hs : s < 4) : epS (tearK 4 t f sec) s = if bitS sec s = true then epS f s else epS t s := by
  unfold epS
  rw [tear_get _ _ _ _ (by omega), tear_get _ _ _ _ (by omega), show 16 * s / 16 = s by omega, show (16 * s + 1) / 16 = s by omega]
  split <;> rfl
theorem tear_three {t : List Nat} {p : Pt} {i : Nat} (ht : t.length = 64) (hE : Ep t i) (hp : Good4 p) (hi : (i : Int) < p.e) (sec : Int) :
    tearK 4 t (encP p) sec = t ∨ tearK 4 t (encP p) sec = encP p ∨ decP (tearK 4 t (encP p) sec) = none := by
  cases hd : decP (tearK 4 t (encP p) sec) with
  | none => exact .inr (.inr rfl)
  | some q =>
    have hs := fun s hs => ep_dec hd s hs
    by_cases h0 : bitS sec 0 = true
    · right; left
      have e0 : q.e.toNat = p.e.toNat := by
        have h := hs 0 (by decide)
        rw [tear_ep _ _ _ _ (by decide), if_pos h0, ep_enc hp 0 (by decide)] at h
        exact h.symm
      have hall : ∀ s, s < 4 → bitS sec s = true := fun s h => by
        by_cases hn : bitS sec s = true
        · exact hn
        · have h1 := hs s h
          rw [tear_ep _ _ _ _ h, if_neg hn] at h1
          have h2 := hE s h
          omega
      refine Eq.trans (L64_ext fun j hj => ?_) (L64_of (encP p) (encP_length p))
      rw [if_pos ⟨by omega, hall _ (by omega)⟩]
    · left
      have e0 : q.e.toNat ≤ i := by
        have h := hs 0 (by decide)
        rw [tear_ep _ _ _ _ (by decide), if_neg h0] at h
        have := hE 0 (by decide)
        omega
      have hall : ∀ s, s < 4 → ¬ bitS sec s = true := fun s h hb => by
        have h1 := hs s h
        rw [tear_ep _ _ _ _ h, if_pos hb, ep_enc hp s h] at h1
        omega
      refine Eq.trans (L64_ext fun j hj => ?_) (L64_of t ht)
      rw [if_neg (fun q => hall _ (by omega) q.2)]
/-- The point that counts of two blocks. -/
def ct2 (a b : Option Pt) : Pt × Nat :=
  match a, b with
  | none, none => (zPt, 0)
  | none, some q => (q, 2)
  | some p, none => (p, 1)
  | some p, some q => if newB q p = true then (q, 2) else (p, 1)
theorem ct_two (N : Nat → List Nat) : ctK N 2 = ct2 (decP (N 1)) (decP (N 2)) := by
  have h1 : ctK N 1 = match decP (N 1) with | none => (zPt, 0) | some p => (p, 1) := by
    cases ha : decP (N 1) with
    | none => exact ct_none (k := 0) ha
    | some p => exact ct_yes (k := 0) ha (.inl rfl)
  cases hb : decP (N 2) with
  | none =>
    refine (show ctK N 2 = ctK N 1 from ct_none (k := 1) hb).trans ?_
    rw [h1]; cases decP (N 1) <;> rfl
  | some q =>
    cases ha : decP (N 1) with
    | none =>
      rw [ha] at h1
      exact ct_yes (k := 1) hb (.inl (by rw [h1]))
    | some p =>
      rw [ha] at h1
      by_cases hn : newB q p = true
      · refine (show ctK N 2 = (q, 2) from ct_yes (k := 1) hb (.inr (by rw [h1]; exact hn))).trans ?_
        exact (if_pos hn).symm
      · refine (show ctK N 2 = ctK N 1 from ct_no (k := 1) hb (by
          rw [h1]; rintro (h | h)
          · cases h
          · exact hn h)).trans ?_
        rw [h1]; exact (if_neg hn).symm
theorem ct2_new (a b : Option Pt) (p : Pt) (ha : ∀ q, a = some q → newB p q = true ∧ newB q p = false) (hb : ∀ q, b = some q → newB p q = true ∧ newB q p = false) :
    ((ct2 a b).2 = 1 → ct2 a (some p) = (p, 2)) ∧ ((ct2 a b).2 ≠ 1 → ct2 (some p) b = (p, 1)) := by
  cases a with
  | none =>
    cases b with
    | none => exact ⟨fun h => (by cases h), fun _ => rfl⟩
    | some q => exact ⟨fun h => (by cases h), fun _ => (by show (if newB q p = true then (q, 2) else (p, 1)) = _; rw [(hb q rfl).2]; rfl)⟩
  | some r =>
    cases b with
    | none => exact ⟨fun _ => (by show (if newB p r = true then (p, 2) else (r, 1)) = _; rw [(ha r rfl).1]; rfl), fun _ => rfl⟩
    | some q => exact ⟨fun _ => (by show (if newB p r = true then (p, 2) else (r, 1)) = _; rw [(ha r rfl).1]; rfl), fun _ => (by show (if newB q p = true then (q, 2) else (p, 1)) = _; rw [(hb q rfl).2]; rfl)⟩
theorem ct2_none (a b : Option Pt) : ((ct2 a b).2 = 1 → ct2 a none = ct2 a b) ∧ ((ct2 a b).2 ≠ 1 → ct2 none b = ct2 a b) := by
  cases a with
  | none =>
    cases b with
    | none => exact ⟨fun h => (by cases h), fun _ => rfl⟩
    | some q => exact ⟨fun h => (by cases h), fun _ => rfl⟩
  | some r =>
    cases b with
    | none => exact ⟨fun _ => rfl, fun h => absurd rfl h⟩
    | some q =>
      by_cases hn : newB q r = true
      · have e : ct2 (some r) (some q) = (q, 2) := if_pos hn
        rw [e]
        exact ⟨fun h => (by cases h), fun _ => rfl⟩
      · have e : ct2 (some r) (some q) = (r, 1) := if_neg hn
        rw [e]
        exact ⟨fun _ => rfl, fun h => absurd rfl h⟩
/-- A disk of points, behind a crash: no point is of a later epoch than i. -/
structure OneD (d : Dm) (i : Nat) : Prop where
  n : d.n = 5
  q : d.Q = []
  same : d.N = d.S
  len : ∀ j, (d.S j).length = 64
  ep : ∀ j, Ep (d.S j) i
  steps : d.steps = 0
  arm : d.armed = false
theorem dec_le {l : List Nat} {i : Nat} {q : Pt} (hE : Ep l i) (h : decP l = some q) : 0 ≤ q.e ∧ q.e ≤ (i : Int) := by
  obtain ⟨hg, _, _⟩ := decP_some h
  have h1 := ep_dec h 0 (by decide)
  have h2 := hE 0 (by decide)
  have := hg.1
  omega
theorem newer_of {p q : Pt} (h : q.e < p.e) : newB p q = true ∧ newB q p = false := by
  refine ⟨(newB_iff p q).2 (.inl h), (newB_false q p).2 ?_⟩
  unfold NewP; omega
theorem ct_old {S : Nat → List Nat} {i : Nat} (hE : ∀ j, Ep (S j) i) : (ctK S 2).1.e ≤ (i : Int) := by
  rw [ct_two]
  cases ha : decP (S 1) with
  | none =>
    cases hb : decP (S 2) with
    | none => show (0 : Int) ≤ _; omega
    | some q => exact (dec_le (hE 2) hb).2
  | some p =>
    cases hb : decP (S 2) with
    | none => exact (dec_le (hE 1) ha).2
    | some q =>
      show (if newB q p = true then (q, 2) else (p, 1)).1.e ≤ _
      split
      · exact (dec_le (hE 2) hb).2
      · exact (dec_le (hE 1) ha).2
theorem ct_put_new {S : Nat → List Nat} {i : Nat} {p : Pt} (hE : ∀ j, Ep (S j) i) (hi : (i : Int) < p.e) {X : List Nat} (hX : decP X = some p) :
    ctK (updB S (toK (ctK S 2).2) X) 2 = (p, toK (ctK S 2).2) := by
  have h := ct2_new (decP (S 1)) (decP (S 2)) p (fun q hq => newer_of (by have := (dec_le (hE 1) hq).2; omega)) (fun q hq => newer_of (by have := (dec_le (hE 2) hq).2; omega))
  rw [← ct_two] at h
  unfold toK
  by_cases e : (ctK S 2).2 = 1
  · rw [if_pos e, ct_two, updB_at, updB_ne _ _ (by decide), hX]
    exact h.1 e
  · rw [if_neg e, ct_two, updB_at, updB_ne _ _ (by decide), hX]
    exact h.2 e
theorem ct_put_none {S : Nat → List Nat} {X : List Nat} (hX : decP X = none) : ctK (updB S (toK (ctK S 2).2) X) 2 = ctK S 2 := by
  have h := ct2_none (decP (S 1)) (decP (S 2))
  rw [← ct_two] at h
  unfold toK
  by_cases e : (ctK S 2).2 = 1
  · rw [if_pos e, ct_two, updB_at, updB_ne _ _ (by decide), hX]
    exact h.1 e
  · rw [if_neg e, ct_two, updB_at, updB_ne _ _ (by decide), hX]
    exact h.2 e
theorem upd_self (S : Nat → List Nat) (i : Nat) : updB S i (S i) = S := by
  funext j; unfold updB; split
  · rename_i h; rw [h]
  · rfl
/-- What a save that is cut, and the crash behind it, make. -/
theorem one_crash {d : Dm} {i : Nat} (h : OneD d i) (n : Int) (p : Pt) (hp : Good4 p) (hi : p.e = (i : Int) + 1) (keep : List Bool) (sec : Int) :
    ∃ X : List Nat, crashD (saveD (armD d n) p).1 keep 0 sec = bareD 5 (updB d.S (toK (ctK d.N 2).2) X) (updB d.S (toK (ctK d.N 2).2) X) ∧ X.length = 64 ∧ Ep X (i + 1) ∧
      (X = encP p ∨ ((saveD (armD d n) p).2 ≠ 0 ∧ (X = d.S (toK (ctK d.N 2).2) ∨ decP X = none))) := by
  have hold := ct_old h.ep
  rw [← h.same] at hold
  have hnew : newB p (ctK d.N 2).1 = true := (newer_of (by omega)).1
  have hb : ¬ ((ctK (armD d n).N 2).2 ≠ 0 ∧ newB p (ctK (armD d n).N 2).1 = false) := fun q => by
    have : newB p (ctK d.N 2).1 = false := q.2
    rw [hnew] at this; cases this
  have hEp : Ep (encP p) (i + 1) := fun s hs => by rw [ep_enc hp s hs]; omega
  have hOld : Ep (d.S (toK (ctK d.N 2).2)) (i + 1) := fun s hs => by have := h.ep (toK (ctK d.N 2).2) s hs; omega
  unfold saveD
  rw [if_neg (fun q => q hp), if_neg hb]
  by_cases h0 : deadB (armD d n) = true
  · rw [if_pos h0]
    refine ⟨d.S (toK (ctK d.N 2).2), ?_, h.len _, hOld, .inr ⟨show (102 : Int) ≠ 0 by decide, .inl rfl⟩⟩
    rw [upd_self]
    show bareD d.n (crK d.S d.Q keep 0 sec d.Q.length) (crK d.S d.Q keep 0 sec d.Q.length) = _
    rw [h.q, h.n]; rfl
  · rw [if_neg h0]
    by_cases h1 : deadB (putD (armD d n) (toK (ctK (armD d n).N 2).2) (encP p)) = true
    · rw [if_pos h1]
      have hcr : crashD (putD (armD d n) (toK (ctK (armD d n).N 2).2) (encP p)) keep 0 sec =
          bareD 5 (crK d.S [(toK (ctK d.N 2).2, encP p)] keep 0 sec 1) (crK d.S [(toK (ctK d.N 2).2, encP p)] keep 0 sec 1) := by
        show bareD d.n (crK d.S (d.Q ++ [(toK (ctK d.N 2).2, encP p)]) keep 0 sec (d.Q ++ [(toK (ctK d.N 2).2, encP p)]).length) (crK d.S (d.Q ++ [(toK (ctK d.N 2).2, encP p)]) keep 0 sec (d.Q ++ [(toK (ctK d.N 2).2, encP p)]).length) = _
        rw [h.q, h.n]; rfl
      by_cases hk : keep.getD 0 false = true
      · have hc1 : crK d.S [(toK (ctK d.N 2).2, encP p)] keep 0 sec 1 = updB d.S (toK (ctK d.N 2).2) (encP p) := if_pos hk
        exact ⟨encP p, by rw [← hc1]; exact hcr, encP_length p, hEp, .inl rfl⟩
      · have hc1 : crK d.S [(toK (ctK d.N 2).2, encP p)] keep 0 sec 1 = updB d.S (toK (ctK d.N 2).2) (tearK 4 (d.S (toK (ctK d.N 2).2)) (encP p) sec) := (if_neg hk).trans (if_pos rfl)
        refine ⟨tearK 4 (d.S (toK (ctK d.N 2).2)) (encP p) sec, by rw [← hc1]; exact hcr, L64_length _, fun s hs => ?_, ?_⟩
        · rw [tear_ep _ _ _ _ hs]
          split
          · exact hEp s hs
          · exact hOld s hs
        · rcases tear_three (h.len (toK (ctK d.N 2).2)) (h.ep _) hp (by omega) sec with q | q | q
          · exact .inr ⟨show (102 : Int) ≠ 0 by decide, .inl q⟩
          · exact .inl q
          · exact .inr ⟨show (102 : Int) ≠ 0 by decide, .inr q⟩
    · rw [if_neg h1]
      refine ⟨encP p, ?_, encP_length p, hEp, .inl rfl⟩
      show bareD d.n (flushQ d.S (d.Q ++ [(toK (ctK d.N 2).2, encP p)])) (flushQ d.S (d.Q ++ [(toK (ctK d.N 2).2, encP p)])) = _
      rw [h.q, h.n]; rfl
theorem one_step {d : Dm} {i : Nat} (h : OneD d i) (n : Int) (p : Pt) (hp : Good4 p) (hi : p.e = (i : Int) + 1) (keep : List Bool) (sec : Int) :
    OneD (crashD (saveD (armD d n) p).1 keep 0 sec) (i + 1) ∧
    (((ctK (crashD (saveD (armD d n) p).1 keep 0 sec).N 2).1 = p ∧ (ctK (crashD (saveD (armD d n) p).1 keep 0 sec).N 2).2 ≠ 0) ∨
     ((saveD (armD d n) p).2 ≠ 0 ∧ ctK (crashD (saveD (armD d n) p).1 keep 0 sec).N 2 = ctK d.N 2)) := by
  obtain ⟨X, h1, h2, h3, h4⟩ := one_crash h n p hp hi keep sec
  rw [h1]
  refine ⟨⟨rfl, rfl, rfl, fun j => ?_, fun j => ?_, rfl, rfl⟩, ?_⟩
  · show (updB _ _ _ j).length = _
    unfold updB; split
    · exact h2
    · exact h.len j
  · show Ep (updB _ _ _ j) _
    unfold updB; split
    · exact h3
    · intro s hs; have := h.ep j s hs; omega
  · show (ctK (updB d.S (toK (ctK d.N 2).2) X) 2).1 = p ∧ _ ∨ _ ∧ ctK (updB d.S (toK (ctK d.N 2).2) X) 2 = _
    rw [h.same] at h4 ⊢
    rcases h4 with rfl | ⟨hc, rfl | hn⟩
    · left
      rw [show (bareD 5 (updB d.S (toK (ctK d.S 2).2) (encP p)) (updB d.S (toK (ctK d.S 2).2) (encP p))).N = updB d.S (toK (ctK d.S 2).2) (encP p) from rfl, ct_put_new h.ep (by omega) (decP_enc hp)]
      refine ⟨rfl, ?_⟩
      show toK _ ≠ 0
      unfold toK; split <;> decide
    · right
      exact ⟨hc, by rw [upd_self]⟩
    · right
      exact ⟨hc, ct_put_none hn⟩
end Go.Proofs.Ytmkhliabmodbdaa
