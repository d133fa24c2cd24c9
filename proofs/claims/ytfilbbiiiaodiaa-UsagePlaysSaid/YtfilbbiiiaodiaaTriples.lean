/-
  A slice of structs of three integers that came in, told by the flat list of their numbers.
-/
import Derived.Test.YtfilbbiiiaodiaaPairs
namespace Go.Proofs.Ytfilbbiiiaodiaa
open Go.RowKit

def Triples (w : World) (a : Option Addr) (len : Nat) (zs : List Int) : Prop :=
  len ≤ 9223372036854775807 ∧ (∀ j, -9223372036854775808 ≤ zs.getD j 0 ∧ zs.getD j 0 ≤ 9223372036854775807) ∧
  (len ≠ 0 → ∃ b o, a = some ⟨b, o, none⟩ ∧ ∀ i, i < len → w.cell? ⟨b, o + i * 3, none⟩ = some (.int .i64 (zs.getD (i * 3) 0)) ∧ w.cell? ⟨b, o + i * 3 + 1, none⟩ = some (.int .i64 (zs.getD (i * 3 + 1) 0)) ∧ w.cell? ⟨b, o + i * 3 + 2, none⟩ = some (.int .i64 (zs.getD (i * 3 + 2) 0)))
section
open Go.ChangeShapes Go.WideShapes Go.Deep
theorem triples_of_trod {H : Type} {enc : TypeId × Value → H} {P : Program} {w : World} {base : Nat} {spare : Nat → Bool} {held : Bool} {t e k : TypeId} {fuel : Nat} {cs : List Value} {x : DataW H × List MemPlace} {f0 f1 f2 : Field}
    (ht : P.underlying t = some (.slice e)) (he : P.underlying e = some (.struct #[f0, f1, f2])) (g0 : f0.type = k ∧ f0.offset = 0) (g1 : f1.type = k ∧ f1.offset = 1) (g2 : f2.type = k ∧ f2.offset = 2) (hk : P.underlying k = some (.int .i64)) (hck : P.cellsOf k = 1) (hce : P.cellsOf e = 3) (h : DataW.trod enc P w base spare held fuel t cs = some x) :
    ∃ a len cap zs, cs = [.slice a len cap] ∧ Triples w a len zs := by
  rcases open_slice ht h with ⟨rfl, _⟩ | ⟨a, len, cap, m, n, D, Pl, rfl, _, hl, hm, hmm, _, hi⟩
  · exact ⟨none, 0, 0, [], rfl, by decide, fun j => by simp, fun h => absurd rfl h⟩
  · have hlm : len ≤ m := by rw [hmm]; split <;> omega
    have key : ∀ i, i < len → ∃ p : Int × Int × Int, (w.cell? (a.add (i * 3)) = some (.int .i64 p.1) ∧ w.cell? (a.add (i * 3 + 1)) = some (.int .i64 p.2.1) ∧ w.cell? (a.add (i * 3 + 2)) = some (.int .i64 p.2.2)) ∧ (Lit.int .i64 p.1).wf = true ∧ (Lit.int .i64 p.2.1).wf = true ∧ (Lit.int .i64 p.2.2).wf = true := by
      intro i hi'
      obtain ⟨cs', hc, ht'⟩ := hi i (by omega)
      rw [hce] at hc
      obtain ⟨_, hcl, hat⟩ := World.cells?_some hc
      obtain ⟨xs, m', _, _, _, hn, hel⟩ := DataW.trod_struct he ht'
      have hn3 : xs.length = 3 := hn
      have h0 := hel 0 f0 rfl
      have h1 := hel 1 f1 rfl
      have h2 := hel 2 f2 rfl
      have a0 := hat 0 (by decide)
      have a1 := hat 1 (by decide)
      have a2 := hat 2 (by decide)
      rw [g0.1, g0.2, hck, List.getElem?_eq_getElem (by omega)] at h0
      rw [g1.1, g1.2, hck, List.getElem?_eq_getElem (by omega)] at h1
      rw [g2.1, g2.2, hck, List.getElem?_eq_getElem (by omega)] at h2
      match cs', hcl with
      | [c0, c1, c2], _ =>
        obtain ⟨x0, e0, _, w0⟩ := DataW.trod_int hk h0
        obtain ⟨x1, e1, _, w1⟩ := DataW.trod_int hk h1
        obtain ⟨x2, e2, _, w2⟩ := DataW.trod_int hk h2
        simp at e0 e1 e2
        subst e0 e1 e2
        rw [Go.Deep.add_add] at a0 a1 a2
        exact ⟨(x0, x1, x2), ⟨by simpa using a0, by simpa using a1, by simpa using a2⟩, w0, w1, w2⟩
    obtain ⟨f, hf⟩ : ∃ f : Nat → Int × Int × Int, ∀ i, i < len → (w.cell? (a.add (i * 3)) = some (.int .i64 (f i).1) ∧ w.cell? (a.add (i * 3 + 1)) = some (.int .i64 (f i).2.1) ∧ w.cell? (a.add (i * 3 + 2)) = some (.int .i64 (f i).2.2)) ∧ (Lit.int .i64 (f i).1).wf = true ∧ (Lit.int .i64 (f i).2.1).wf = true ∧ (Lit.int .i64 (f i).2.2).wf = true :=
      ⟨fun i => if h : i < len then Classical.choose (key i h) else (0, 0, 0), fun i h => by simp only [dif_pos h]; exact Classical.choose_spec (key i h)⟩
    obtain ⟨zs, hzs⟩ : ∃ zs : List Int, zs = (List.range (3 * len)).map fun j => if j % 3 = 0 then (f (j / 3)).1 else if j % 3 = 1 then (f (j / 3)).2.1 else (f (j / 3)).2.2 := ⟨_, rfl⟩
    have hlen : zs.length = 3 * len := by rw [hzs]; simp
    have hget : ∀ j, j < 3 * len → zs.getD j 0 = if j % 3 = 0 then (f (j / 3)).1 else if j % 3 = 1 then (f (j / 3)).2.1 else (f (j / 3)).2.2 := fun j hj => by
      rw [hzs, List.getD_eq_getElem?_getD]
      simp [hj]
    have hcell : ∀ j, j < zs.length → w.cell? (a.add j) = some (.int .i64 (zs.getD j 0)) := fun j hj => by
      rw [hlen] at hj
      rw [hget j hj]
      obtain ⟨⟨q1, q2, q3⟩, _⟩ := hf (j / 3) (by omega)
      by_cases h2 : j % 3 = 0
      · rw [if_pos h2]
        rw [show j / 3 * 3 = j by omega] at q1
        exact q1
      · rw [if_neg h2]
        by_cases h3 : j % 3 = 1
        · rw [if_pos h3]
          rw [show j / 3 * 3 + 1 = j by omega] at q2
          exact q2
        · rw [if_neg h3]
          rw [show j / 3 * 3 + 2 = j by omega] at q3
          exact q3
    have hmx : (maxLen : Nat) = 9223372036854775807 := by decide
    refine ⟨some a, len, cap, zs, rfl, by omega, fun j => ?_, fun hne => ?_⟩
    · by_cases hj : j < 3 * len
      · rw [hget j hj]
        obtain ⟨_, q4, q5, q6⟩ := hf (j / 3) (by omega)
        split
        · exact wf_bounds q4
        · split
          · exact wf_bounds q5
          · exact wf_bounds q6
      · rw [List.getD_eq_getElem?_getD, List.getElem?_eq_none (by omega)]
        simp
    · obtain ⟨b, o, rfl, hc⟩ := Go.ints_at hcell (by omega)
      refine ⟨b, o, rfl, fun i hi' => ⟨hc (i * 3) (by omega), ?_, ?_⟩⟩
      · rw [Nat.add_assoc]
        exact hc (i * 3 + 1) (by omega)
      · rw [Nat.add_assoc]
        exact hc (i * 3 + 2) (by omega)
end
end Go.Proofs.Ytfilbbiiiaodiaa
