/-
  PointTurns' plain mathematics: points saved one by one.
-/
import Derived.Test.YtmkhliabmodbdaaPtOneM
namespace Go.Proofs.Ytmkhliabmodbdaa
open Go.RowKit

theorem dec_zero : decP zeroB = none := by decide +kernel
theorem ct_put_good {S : Nat → List Nat} {p : Pt} (h : ∀ j q, decP (S j) = some q → newB p q = true ∧ newB q p = false) {X : List Nat} (hX : decP X = some p) :
    ctK (updB S (toK (ctK S 2).2) X) 2 = (p, toK (ctK S 2).2) := by
  have h := ct2_new (decP (S 1)) (decP (S 2)) p (h 1) (h 2)
  rw [← ct_two] at h
  unfold toK
  by_cases e : (ctK S 2).2 = 1
  · rw [if_pos e, ct_two, updB_at, updB_ne _ _ (by decide), hX]
    exact h.1 e
  · rw [if_neg e, ct_two, updB_at, updB_ne _ _ (by decide), hX]
    exact h.2 e
/-- What the points to be saved are. -/
def TuF (F : Nat → Pt) : Prop := ∀ j, j < 20 → Good4 (F j) ∧ (F j).e = 1 + ((j / 3 : Nat) : Int) ∧ (F j).c = (j : Int)
structure TuD (d : Dm) (F : Nat → Pt) (m : Nat) : Prop where
  n : d.n = 3
  q : d.Q = []
  arm : d.armed = false
  left : d.left = 0
  st : d.steps = 2 * (m : Int)
  old : ∀ j q, decP (d.N j) = some q → q.c < (m : Int) ∧ q.e ≤ 1 + ((m / 3 : Nat) : Int)
  last : m ≠ 0 → ctK d.N 2 = (F (m - 1), 1 + (m - 1) % 2)
  none : m = 0 → (ctK d.N 2).2 = 0
  at1 : m ≠ 0 → d.N (1 + (m - 1) % 2) = encP (F (m - 1))
theorem TuD.new (F : Nat → Pt) : TuD (newD 3) F 0 := by
  refine ⟨rfl, rfl, rfl, rfl, rfl, fun j q h => ?_, fun h => absurd rfl h, fun _ => ?_, fun h => absurd rfl h⟩
  · have h : decP zeroB = some q := h
    rw [dec_zero] at h; cases h
  · rw [ct_two]; decide +kernel
theorem TuD.ok {d : Dm} {F : Nat → Pt} {m : Nat} (h : TuD d F m) (hm : m ≤ 20) : OkD d :=
  ⟨by rw [h.left]; decide, by rw [h.st]; omega, by rw [h.q]; show 0 < 1000000; decide⟩
def nextD (d : Dm) (F : Nat → Pt) (m : Nat) : Dm := barD (putD d (1 + m % 2) (encP (F m)))
theorem newer_c {p q : Pt} (h : q.c < p.c) (he : q.e ≤ p.e) : newB p q = true ∧ newB q p = false := by
  refine ⟨(newB_iff p q).2 ?_, (newB_false q p).2 ?_⟩
  · unfold NewP; omega
  · unfold NewP; omega
theorem TuD.to {d : Dm} {F : Nat → Pt} {m : Nat} (h : TuD d F m) : toK (ctK d.N 2).2 = 1 + m % 2 := by
  unfold toK
  by_cases h0 : m = 0
  · rw [h.none h0, h0]; rfl
  · rw [h.last h0]
    simp only
    split <;> omega
theorem TuD.newer {d : Dm} {F : Nat → Pt} {m : Nat} (h : TuD d F m) (hF : TuF F) (hm : m < 20) : ∀ j q, decP (d.N j) = some q → newB (F m) q = true ∧ newB q (F m) = false := fun j q hq => by
  obtain ⟨h1, h2⟩ := h.old j q hq
  obtain ⟨_, h3, h4⟩ := hF m hm
  exact newer_c (by omega) (by omega)
theorem TuD.saved {d : Dm} {F : Nat → Pt} {m : Nat} (h : TuD d F m) (hF : TuF F) (hm : m < 20) : saveD d (F m) = (nextD d F m, 0) := by
  have hg := (hF m hm).1
  have hn : ¬ ((ctK d.N 2).2 ≠ 0 ∧ newB (F m) (ctK d.N 2).1 = false) := fun ⟨q1, q2⟩ => by
    by_cases h0 : m = 0
    · exact q1 (h.none h0)
    · rw [h.last h0] at q2
      have := ((newer_c (p := F m) (q := F (m - 1)) (by rw [(hF m hm).2.2, (hF (m - 1) (by omega)).2.2]; omega) (by rw [(hF m hm).2.1, (hF (m - 1) (by omega)).2.1]; omega)).1)
      rw [this] at q2; cases q2
  have hd : deadB d = false := by unfold deadB; rw [h.arm]; rfl
  have hd2 : deadB (putD d (1 + m % 2) (encP (F m))) = false := by
    show (d.armed && _) = false
    rw [h.arm]; rfl
  unfold saveD
  rw [if_neg (fun q => q hg), if_neg hn, if_neg (by rw [hd]; decide), h.to, if_neg (by rw [hd2]; decide)]
  rfl
theorem TuD.next {d : Dm} {F : Nat → Pt} {m : Nat} (h : TuD d F m) (hF : TuF F) (hm : m < 20) : TuD (nextD d F m) F (m + 1) := by
  have hto := h.to
  have hct := ct_put_good (h.newer hF hm) (decP_enc (hF m hm).1)
  rw [hto] at hct
  refine ⟨h.n, rfl, h.arm, ?_, ?_, fun j q hq => ?_, fun _ => hct, fun h0 => by omega, fun _ => updB_at _ _ _⟩
  · show (if d.armed then (if d.armed then d.left - 1 else d.left) - 1 else (if d.armed then d.left - 1 else d.left)) = 0
    rw [h.arm, h.left]; rfl
  · show d.steps + 1 + 1 = _
    rw [h.st]; omega
  · have hq : decP (updB d.N (1 + m % 2) (encP (F m)) j) = some q := hq
    unfold updB at hq
    obtain ⟨hg, h3, h4⟩ := hF m hm
    split at hq
    · rw [decP_enc hg] at hq
      cases hq
      omega
    · obtain ⟨h1, h2⟩ := h.old j q hq
      omega
theorem TuD.keeps {d : Dm} {F : Nat → Pt} {m : Nat} (h : TuD d F m) (h0 : m ≠ 0) : (nextD d F m).N (1 + (m - 1) % 2) = encP (F (m - 1)) := by
  show updB d.N (1 + m % 2) (encP (F m)) (1 + (m - 1) % 2) = _
  rw [updB_ne _ _ (by omega)]
  exact h.at1 h0
theorem TuD.has {d : Dm} {F : Nat → Pt} {m : Nat} (h : TuD d F m) (q : Nat) (hq : q ≤ m) (hq2 : m ≤ q + 1) : (nextD d F m).N (1 + q % 2) = encP (F q) := by
  by_cases e : q = m
  · subst e; exact updB_at _ _ _
  · have : q = m - 1 := by omega
    subst this
    exact h.keeps (by omega)
theorem TuD.stale {d : Dm} {F : Nat → Pt} {m : Nat} (h : TuD d F (m + 1)) (hF : TuF F) (hm : m < 20) (h0 : m ≠ 0) : saveD d (F (m - 1)) = (d, 103) := by
  have hg := (hF (m - 1) (by omega)).1
  have hl := h.last (by omega)
  rw [Nat.add_sub_cancel] at hl
  have hn := (newer_c (p := F m) (q := F (m - 1)) (by rw [(hF m hm).2.2, (hF (m - 1) (by omega)).2.2]; omega) (by rw [(hF m hm).2.1, (hF (m - 1) (by omega)).2.1]; omega)).2
  unfold saveD
  rw [if_neg (fun q => q hg), if_pos ⟨by rw [hl]; show 1 + m % 2 ≠ 0; omega, by rw [hl]; exact hn⟩]
theorem TuD.load {d : Dm} {F : Nat → Pt} {m : Nat} (h : TuD d F (m + 1)) : (ctK d.N 2).1 = F m ∧ decide ((ctK d.N 2).2 ≠ 0) = true := by
  have hl := h.last (by omega)
  rw [Nat.add_sub_cancel] at hl
  rw [hl]
  exact ⟨rfl, decide_eq_true (show 1 + m % 2 ≠ 0 by omega)⟩
def turnF (zs : List Int) (j : Nat) : Pt := ⟨1 + ((j / 3 : Nat) : Int), (j : Int), wrap64 ((IntKind.u64.wrap (zs.getD (j * 2) 0)).tmod 4096), wrap64 ((IntKind.u64.wrap (zs.getD (j * 2 + 1) 0)).tmod 4096)⟩
end Go.Proofs.Ytmkhliabmodbdaa
