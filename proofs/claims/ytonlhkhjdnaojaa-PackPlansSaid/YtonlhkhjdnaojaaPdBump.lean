/-
  A number of the pieces' lists set anew.
-/
import Derived.Test.YtonlhkhjdnaojaaPcRes
namespace Go.Proofs.Ytonlhkhjdnaojaa
open Go.RowKit

theorem cellsI_set (l : List Int) (j : Nat) (y : Int) : (cellsI l).set j (.int .i64 y) = cellsI (l.set j y) := by unfold cellsI; rw [List.map_set]
def SameLen (Z Z' : Nat → Pz) : Prop := ∀ i, (Z' i).nf = (Z i).nf ∧ ∀ k, ((Z' i).li k).length = ((Z i).li k).length
theorem SameLen.refl (Z : Nat → Pz) : SameLen Z Z := fun _ => ⟨rfl, fun _ => rfl⟩
theorem SameLen.trans {Z Z' Z2 : Nat → Pz} (h : SameLen Z Z') (h2 : SameLen Z' Z2) : SameLen Z Z2 := fun i => ⟨(h2 i).1.trans (h i).1, fun k => ((h2 i).2 k).trans ((h i).2 k)⟩
theorem Pm.bump {w : World} {base N : Nat} {pv : Value} {fv : Nat → Value} {av : Nat → Nat → Value} {I V : Nat → Int} {nw : Nat → Bool} {Z : Nat → Pz} (h : Pm w base pv fv av I V N nw Z) {i k j g n c : Nat} (hi : i < N) (hk : k ≤ (Z i).nf) (hav : av i k = .slice (some ⟨g, 0, none⟩) n c) (y : Int) :
    ∃ Z', Pm (w.setCell ⟨g, j, none⟩ (.int .i64 y)) base pv fv av I V N nw Z' ∧ SameLen Z Z' := by
  have hO : Out (fun q => q = g) w (w.setCell ⟨g, j, none⟩ (.int .i64 y)) := out_put _ _ _ rfl
  have hown := h.ints i hi k hk
  have hgb : (av i k).ownBlock = some g := by rw [hav]; rfl
  obtain ⟨Y, hY⟩ : ∃ Y : Pz, (⟨(Z i).nf, (Z i).fi, upd (Z i).li k (((Z i).li k).set j y)⟩ : Pz) = Y := ⟨_, rfl⟩
  have hS : ∀ i', (upd Z i Y i').nf = (Z i').nf ∧ (upd Z i Y i').fi = (Z i').fi := fun i' => by
    by_cases e : i' = i
    · subst e; rw [upd_at, ← hY]; exact ⟨rfl, rfl⟩
    · rw [upd_ne _ _ _ e]; exact ⟨rfl, rfl⟩
  have hL : ∀ i' k', ¬ (i' = i ∧ k' = k) → (upd Z i Y i').li k' = (Z i').li k' := fun i' k' hne => by
    by_cases e : i' = i
    · subst e; rw [upd_at, ← hY]; exact upd_ne _ _ _ (fun e2 => hne ⟨rfl, e2⟩)
    · rw [upd_ne _ _ _ e]
  have hLk : (upd Z i Y i).li k = ((Z i).li k).set j y := by rw [upd_at, ← hY]; exact upd_at _ _ _
  refine ⟨upd Z i Y, ⟨?_, fun i' hi' => ?_, fun i' hi' k' hk' => ?_, h.sepF, fun a b a' b' ha ha' hb hb' => ?_⟩, fun i' => ⟨(hS i').1, fun k' => ?_⟩⟩
  · exact hO.own h.row (fun q e1 e2 => own_apart h.row hown (by decide) q e1 (by rw [e2]; exact hgb))
  · rw [(hS i').1, (hS i').2]
    exact hO.own (h.fil i' hi') (fun q e1 e2 => own_apart (h.fil i' hi') hown (by decide) q e1 (by rw [e2]; exact hgb))
  · rw [(hS i').1] at hk'
    by_cases e : i' = i ∧ k' = k
    · obtain ⟨rfl, rfl⟩ := e
      rw [hLk, List.length_set, ← cellsI_set]
      have h2 := hown
      rw [hav] at h2 ⊢
      obtain ⟨a2, c2, e2, _⟩ := own_slice h2
      cases e2
      exact (h2.stored j _).1
    · rw [hL i' k' e]
      exact hO.own (h.ints i' hi' k' hk') (fun q e1 e2 => h.sepA i' k' i k hi' hi hk' hk e q e1 (by rw [e2]; exact hgb))
  · rw [(hS a).1] at hb
    rw [(hS a').1] at hb'
    exact h.sepA a b a' b' ha ha' hb hb'
  · by_cases e : i' = i ∧ k' = k
    · obtain ⟨rfl, rfl⟩ := e
      rw [hLk, List.length_set]
    · rw [hL i' k' e]
end Go.Proofs.Ytonlhkhjdnaojaa
