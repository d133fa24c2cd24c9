/-
  A slice of structs of four integers that came in, told by the flat list of their numbers.
-/
import Derived.Test.YtnlmpnpelnmpeaaPairs
namespace Go.Proofs.Ytnlmpnpelnmpeaa
open Go.RowKit

def Quads (w : World) (a : Option Addr) (len : Nat) (zs : List Int) : Prop :=
  len ≤ 9223372036854775807 ∧ (∀ j, -9223372036854775808 ≤ zs.getD j 0 ∧ zs.getD j 0 ≤ 9223372036854775807) ∧
  (len ≠ 0 → ∃ b o, a = some ⟨b, o, none⟩ ∧ ∀ i, i < len → w.cell? ⟨b, o + i * 4, none⟩ = some (.int .i64 (zs.getD (i * 4) 0)) ∧ w.cell? ⟨b, o + i * 4 + 1, none⟩ = some (.int .i64 (zs.getD (i * 4 + 1) 0)) ∧ w.cell? ⟨b, o + i * 4 + 2, none⟩ = some (.int .i64 (zs.getD (i * 4 + 2) 0)) ∧ w.cell? ⟨b, o + i * 4 + 3, none⟩ = some (.int .i64 (zs.getD (i * 4 + 3) 0)))
section
open Go.ChangeShapes Go.WideShapes Go.Deep
theorem quads_of_trod {H : Type} {enc : TypeId × Value → H} {P : Program} {w : World} {base : Nat} {spare : Nat → Bool} {held : Bool} {t e k : TypeId} {fuel : Nat} {cs : List Value} {x : DataW H × List MemPlace} {f0 f1 f2 f3 : Field}
    (ht : P.underlying t = some (.slice e)) (he : P.underlying e = some (.struct #[f0, f1, f2, f3])) (g0 : f0.type = k ∧ f0.offset = 0) (g1 : f1.type = k ∧ f1.offset = 1) (g2 : f2.type = k ∧ f2.offset = 2) (g3 : f3.type = k ∧ f3.offset = 3) (hk : P.underlying k = some (.int .i64)) (hck : P.cellsOf k = 1) (hce : P.cellsOf e = 4) (h : DataW.trod enc P w base spare held fuel t cs = some x) :
    ∃ a len cap zs, cs = [.slice a len cap] ∧ Quads w a len zs := by
  rcases open_slice ht h with ⟨rfl, _⟩ | ⟨a, len, cap, m, n, D, Pl, rfl, _, hl, hm, hmm, _, hi⟩
  · exact ⟨none, 0, 0, [], rfl, by decide, fun j => by simp, fun h => absurd rfl h⟩
  · have hlm : len ≤ m := by rw [hmm]; split <;> omega
    have key : ∀ i, i < len → ∃ p : Int × Int × Int × Int, (w.cell? (a.add (i * 4)) = some (.int .i64 p.1) ∧ w.cell? (a.add (i * 4 + 1)) = some (.int .i64 p.2.1) ∧ w.cell? (a.add (i * 4 + 2)) = some (.int .i64 p.2.2.1) ∧ w.cell? (a.add (i * 4 + 3)) = some (.int .i64 p.2.2.2)) ∧ (Lit.int .i64 p.1).wf = true ∧ (Lit.int .i64 p.2.1).wf = true ∧ (Lit.int .i64 p.2.2.1).wf = true ∧ (Lit.int .i64 p.2.2.2).wf = true := by
      intro i hi'
      obtain ⟨cs', hc, ht'⟩ := hi i (by omega)
      rw [hce] at hc
      obtain ⟨_, hcl, hat⟩ := World.cells?_some hc
      obtain ⟨xs, m', _, _, _, hn, hel⟩ := DataW.trod_struct he ht'
      have hn3 : xs.length = 4 := hn
      have h0 := hel 0 f0 rfl
      have h1 := hel 1 f1 rfl
      have h2 := hel 2 f2 rfl
      have h3 := hel 3 f3 rfl
      have a0 := hat 0 (by decide)
      have a1 := hat 1 (by decide)
      have a2 := hat 2 (by decide)
      have a3 := hat 3 (by decide)
      rw [g0.1, g0.2, hck, List.getElem?_eq_getElem (by omega)] at h0
      rw [g1.1, g1.2, hck, List.getElem?_eq_getElem (by omega)] at h1
      rw [g2.1, g2.2, hck, List.getElem?_eq_getElem (by omega)] at h2
      rw [g3.1, g3.2, hck, List.getElem?_eq_getElem (by omega)] at h3
      match cs', hcl with
      | [c0, c1, c2, c3], _ =>
        obtain ⟨x0, e0, _, w0⟩ := DataW.trod_int hk h0
        obtain ⟨x1, e1, _, w1⟩ := DataW.trod_int hk h1
        obtain ⟨x2, e2, _, w2⟩ := DataW.trod_int hk h2
        obtain ⟨x3, e3, _, w3⟩ := DataW.trod_int hk h3
        simp at e0 e1 e2 e3
        subst e0 e1 e2 e3
        rw [Go.Deep.add_add] at a0 a1 a2 a3
        exact ⟨(x0, x1, x2, x3), ⟨by simpa using a0, by simpa using a1, by simpa using a2, by simpa using a3⟩, w0, w1, w2, w3⟩
    obtain ⟨f, hf⟩ : ∃ f : Nat → Int × Int × Int × Int, ∀ i, i < len → (w.cell? (a.add (i * 4)) = some (.int .i64 (f i).1) ∧ w.cell? (a.add (i * 4 + 1)) = some (.int .i64 (f i).2.1) ∧ w.cell? (a.add (i * 4 + 2)) = some (.int .i64 (f i).2.2.1) ∧ w.cell? (a.add (i * 4 + 3)) = some (.int .i64 (f i).2.2.2)) ∧ (Lit.int .i64 (f i).1).wf = true ∧ (Lit.int .i64 (f i).2.1).wf = true ∧ (Lit.int .i64 (f i).2.2.1).wf = true ∧ (Lit.int .i64 (f i).2.2.2).wf = true :=
      ⟨fun i => if h : i < len then Classical.choose (key i h) else (0, 0, 0, 0), fun i h => by simp only [dif_pos h]; exact Classical.choose_spec (key i h)⟩
    obtain ⟨zs, hzs⟩ : ∃ zs : List Int, zs = (List.range (4 * len)).map fun j => if j % 4 = 0 then (f (j / 4)).1 else if j % 4 = 1 then (f (j / 4)).2.1 else if j % 4 = 2 then (f (j / 4)).2.2.1 else (f (j / 4)).2.2.2 := ⟨_, rfl⟩
    have hlen : zs.length = 4 * len := by rw [hzs]; simp
    have hget : ∀ j, j < 4 * len → zs.getD j 0 = if j % 4 = 0 then (f (j / 4)).1 else if j % 4 = 1 then (f (j / 4)).2.1 else if j % 4 = 2 then (f (j / 4)).2.2.1 else (f (j / 4)).2.2.2 := fun j hj => by
      rw [hzs, List.getD_eq_getElem?_getD]
      simp [hj]
    have hcell : ∀ j, j < zs.length → w.cell? (a.add j) = some (.int .i64 (zs.getD j 0)) := fun j hj => by
      rw [hlen] at hj
      rw [hget j hj]
      obtain ⟨⟨q1, q2, q3, q4⟩, _⟩ := hf (j / 4) (by omega)
      by_cases h2 : j % 4 = 0
      · rw [if_pos h2]
        rw [show j / 4 * 4 = j by omega] at q1
        exact q1
      · rw [if_neg h2]
        by_cases h3 : j % 4 = 1
        · rw [if_pos h3]
          rw [show j / 4 * 4 + 1 = j by omega] at q2
          exact q2
        · rw [if_neg h3]
          by_cases h4 : j % 4 = 2
          · rw [if_pos h4]
            rw [show j / 4 * 4 + 2 = j by omega] at q3
            exact q3
          · rw [if_neg h4]
            rw [show j / 4 * 4 + 3 = j by omega] at q4
            exact q4
    have hmx : (maxLen : Nat) = 9223372036854775807 := by decide
    refine ⟨some a, len, cap, zs, rfl, by omega, fun j => ?_, fun hne => ?_⟩
    · by_cases hj : j < 4 * len
      · rw [hget j hj]
        obtain ⟨_, q4, q5, q6, q7⟩ := hf (j / 4) (by omega)
        split
        · exact wf_bounds q4
        · split
          · exact wf_bounds q5
          · split
            · exact wf_bounds q6
            · exact wf_bounds q7
      · rw [List.getD_eq_getElem?_getD, List.getElem?_eq_none (by omega)]
        simp
    · obtain ⟨b, o, rfl, hc⟩ := Go.ints_at hcell (by omega)
      refine ⟨b, o, rfl, fun i hi' => ⟨hc (i * 4) (by omega), ?_, ?_, ?_⟩⟩
      · rw [Nat.add_assoc]
        exact hc (i * 4 + 1) (by omega)
      · rw [Nat.add_assoc]
        exact hc (i * 4 + 2) (by omega)
      · rw [Nat.add_assoc]
        exact hc (i * 4 + 3) (by omega)
end
end Go.Proofs.Ytnlmpnpelnmpeaa
