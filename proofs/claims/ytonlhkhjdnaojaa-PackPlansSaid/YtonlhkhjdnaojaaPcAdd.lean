/-
  Pack: what stands behind an append and the store of its answer.
-/
import Derived.Test.YtonlhkhjdnaojaaPcPq
namespace Go.Proofs.Ytonlhkhjdnaojaa
open Go.RowKit

section
variable {w w1 w7 : World} {base g N : Nat} {sz lf bl wd : Int} {op : Bool} {pv : Value} {fv : Nat → Value} {av : Nat → Nat → Value} {I V : Nat → Int} {nw : Nat → Bool} {Z : Nat → Pz}
theorem out_pair {X : Nat → Prop} {row : Option Nat} {p : Addr} {u : Value} (hg : w1.grownBy w7 row) (hr : ∀ q, row = some q → X q) (hp : X p.block) : Out X w1 (w7.setCell p u) :=
  (Out.of_grown hg hr).trans (out_put w7 p u hp) (fun _ _ h => h)
theorem Pk.add (h : Pk w1 base g sz lf bl wd op pv fv av I V N nw Z) (hB : Below base w w1) (hw : base ≤ w.heap.size) {i k gs q : Nat} (hi : i < N) (hk : k ≤ (Z i).nf) {x : Int} {v' : Value} {o : Obj}
    (hpl : (k = 0 ∧ ∃ cap, pv = .slice (some ⟨gs, 0, none⟩) N cap ∧ q = i * 3 + 2) ∨ (∃ k', k = k' + 1 ∧ ∃ cap, fv i = .slice (some ⟨gs, 0, none⟩) (Z i).nf cap ∧ q = k' * 3 + 2))
    (ho : w7.ownsRow base IT 1 v' (((Z i).li k).length + 1) (cellsI ((Z i).li k ++ [x]))) (hg : (w1.alloc o).grownBy w7 (av i k).ownBlock) (hat : v'.ownBlock = (av i k).ownBlock ∨ ∀ g, v'.ownBlock = some g → (w1.alloc o).heap.size ≤ g) :
    w7.cell? ⟨gs, q, none⟩ = some (av i k) ∧ w7.frozen? ⟨gs, q, none⟩ = false ∧ Pk (w7.setCell ⟨gs, q, none⟩ v') base g sz lf bl wd op pv fv (upd av i (upd (av i) k v')) I V N nw (upd Z i (zAdd (Z i) k x)) ∧ Below base w (w7.setCell ⟨gs, q, none⟩ v') := by
  have h1 := h.later (sup_pc w1 o)
  have hb1 : base ≤ w1.heap.size := Nat.le_trans hw hB.size
  have hO : Out (fun g => (av i k).ownBlock = some g) (w1.alloc o) w7 := Out.of_grown hg (fun g e => e)
  have hint := h1.pm.ints i hi k hk
  have hpm := h1.pm.add hi hk hpl ho hg hat
  have hcell : w7.cell? ⟨gs, q, none⟩ = some (av i k) ∧ w7.frozen? ⟨gs, q, none⟩ = false ∧ base ≤ gs ∧ (∀ cs, ¬ Blo w7 gs PK cs) := by
    rcases hpl with ⟨rfl, cap, rfl, rfl⟩ | ⟨k', rfl, cap, hf, rfl⟩
    · obtain ⟨g2, c2, he, hbb, hlt, hfz, -, -, c3⟩ := h1.pm.piece hi
      cases he
      have hr := hO.own h1.pm.row (fun g e1 e2 => own_apart h1.pm.row hint (by decide) g e1 e2)
      exact ⟨hO.cell c3 (fun e => own_apart h1.pm.row hint (by decide) gs rfl e), hr.frozenAt _, hbb, fun cs hc => own_not hr hc (by decide) rfl⟩
    · have hlt : k' < (Z i).nf := hk
      obtain ⟨g2, c2, he, hbb, hlt, hfz, -, -, c3⟩ := h1.pm.file hi hlt
      rw [hf] at he
      cases he
      have hfil := h1.pm.fil i hi
      rw [hf] at hfil
      have hr := hO.own hfil (fun g e1 e2 => own_apart hfil hint (by decide) g e1 e2)
      exact ⟨hO.cell c3 (fun e => own_apart hfil hint (by decide) gs rfl e), hr.frozenAt _, hbb, fun cs hc => own_not hr hc (by decide) rfl⟩
  obtain ⟨c1, c2, c3, c4⟩ := hcell
  have ht := hO.blo h1.top (fun e => own_not hint h1.top (by decide) e)
  have hne : g ≠ gs := fun e => c4 _ (e ▸ ht)
  refine ⟨c1, c2, ⟨ht.far (p := ⟨gs, q, none⟩) hne v', hpm, h.bg⟩, ?_⟩
  have hB1 := hB.trans ((sup_pc w1 o).mono hb1)
  exact (hB1.grown hg (by simp; omega) (fun q e => (own_bd hint e).1)).setCell (p := ⟨gs, q, none⟩) c3 _
theorem Pk.newFile (h : Pk w1 base g sz lf bl wd op pv fv av I V N nw Z) (hB : Below base w w1) (hw : base ≤ w.heap.size) {i f gp cap : Nat} (hi : i < N) (hp : pv = .slice (some ⟨gp, 0, none⟩) N cap) {v' : Value} {a b : Int} {o : Obj} (ha : I f = a) (hb : V f = b)
    (ho : w7.ownsRow base FN 3 v' ((Z i).nf + 1) ((flat3 (Z i).nf fun k => (.int .i64 (I ((Z i).fi k)), .int .i64 (V ((Z i).fi k)), av i (k + 1))) ++ [.int .i64 a, .int .i64 b, .slice none 0 0])) (hg : (w1.alloc o).grownBy w7 (fv i).ownBlock) (hat : v'.ownBlock = (fv i).ownBlock ∨ ∀ g, v'.ownBlock = some g → (w1.alloc o).heap.size ≤ g) :
    w7.cell? ⟨gp, i * 3 + 1, none⟩ = some (fv i) ∧ w7.frozen? ⟨gp, i * 3 + 1, none⟩ = false ∧ Pk (w7.setCell ⟨gp, i * 3 + 1, none⟩ v') base g sz lf bl wd op pv (upd fv i v') (upd av i (upd (av i) ((Z i).nf + 1) (.slice none 0 0))) I V N nw (upd Z i (zNew (Z i) f)) ∧ Below base w (w7.setCell ⟨gp, i * 3 + 1, none⟩ v') := by
  have h1 := h.later (sup_pc w1 o)
  have hb1 : base ≤ w1.heap.size := Nat.le_trans hw hB.size
  have hO : Out (fun g => (fv i).ownBlock = some g) (w1.alloc o) w7 := Out.of_grown hg (fun g e => e)
  have hfil := h1.pm.fil i hi
  have hpm := h1.pm.newFile hi hp ha hb ho hg hat
  subst hp
  obtain ⟨g2, c2, he, hbb, hlt, hfz, -, c3, -⟩ := h1.pm.piece hi
  cases he
  have hr := hO.own h1.pm.row (fun g e1 e2 => own_apart h1.pm.row hfil (by decide) g e1 e2)
  have ht := hO.blo h1.top (fun e => own_not hfil h1.top (by decide) e)
  have hne : g ≠ gp := fun e => own_not hr (e ▸ ht) (by decide) rfl
  refine ⟨hO.cell c3 (fun e => own_apart h1.pm.row hfil (by decide) gp rfl e), hr.frozenAt _, ⟨ht.far (p := ⟨gp, i * 3 + 1, none⟩) hne v', hpm, h.bg⟩, ?_⟩
  have hB1 := hB.trans ((sup_pc w1 o).mono hb1)
  exact (hB1.grown hg (by simp; omega) (fun q e => (own_bd hfil e).1)).setCell (p := ⟨gp, i * 3 + 1, none⟩) hbb _
/-- A block beside. -/
theorem ex_add {b i k gs q : Nat} {v' : Value} {x : Int} {o : Obj} (hE : Ex b pv fv av N Z) (hb : b < w1.heap.size) (hi : i < N) (hk : k ≤ (Z i).nf)
    (hpl : (k = 0 ∧ ∃ cap, pv = .slice (some ⟨gs, 0, none⟩) N cap ∧ q = i * 3 + 2) ∨ (∃ k', k = k' + 1 ∧ ∃ cap, fv i = .slice (some ⟨gs, 0, none⟩) (Z i).nf cap ∧ q = k' * 3 + 2))
    (hg : (w1.alloc o).grownBy w7 (av i k).ownBlock) (hat : v'.ownBlock = (av i k).ownBlock ∨ ∀ g, v'.ownBlock = some g → (w1.alloc o).heap.size ≤ g) :
    Ex b pv fv (upd av i (upd (av i) k v')) N (upd Z i (zAdd (Z i) k x)) ∧ (w7.setCell ⟨gs, q, none⟩ v').heap[b]? = w1.heap[b]? := by
  have hne : b ≠ gs := fun e => by
    subst e
    rcases hpl with ⟨_, cap, rfl, _⟩ | ⟨_, _, cap, hf, _⟩
    · exact hE.1 rfl
    · exact hE.2.1 i hi (by rw [hf]; rfl)
  refine ⟨⟨hE.1, hE.2.1, fun j hj k' hk' => ?_⟩, ?_⟩
  · have hnf : (upd Z i (zAdd (Z i) k x) j).nf = (Z j).nf := by
      by_cases e : j = i
      · subst e; rw [upd_at]; rfl
      · rw [upd_ne _ _ _ e]
    rw [hnf] at hk'
    by_cases e : j = i
    · subst e
      rw [upd_at]
      by_cases e2 : k' = k
      · subst e2
        rw [upd_at]
        intro e3
        rcases hat with h | h
        · exact hE.2.2 j hj k' hk' (h.symm.trans e3)
        · have := h b e3; simp at this; omega
      · rw [upd_ne _ _ _ e2]; exact hE.2.2 j hj k' hk'
    · rw [upd_ne _ _ _ e]; exact hE.2.2 j hj k' hk'
  · rw [Below.heap_setCell _ _ _ _ hne, hg.block b (by simp; omega) (fun e => hE.2.2 i hi k hk e.symm)]
    exact (sup_pc w1 o).block b hb
theorem ex_newFile {b i f gp cap : Nat} {v' : Value} {o : Obj} (hE : Ex b pv fv av N Z) (hb : b < w1.heap.size) (hi : i < N) (hp : pv = .slice (some ⟨gp, 0, none⟩) N cap)
    (hg : (w1.alloc o).grownBy w7 (fv i).ownBlock) (hat : v'.ownBlock = (fv i).ownBlock ∨ ∀ g, v'.ownBlock = some g → (w1.alloc o).heap.size ≤ g) {q : Nat} :
    Ex b pv (upd fv i v') (upd av i (upd (av i) ((Z i).nf + 1) (.slice none 0 0))) N (upd Z i (zNew (Z i) f)) ∧ (w7.setCell ⟨gp, q, none⟩ v').heap[b]? = w1.heap[b]? := by
  have hne : b ≠ gp := fun e => by
    subst e hp
    exact hE.1 rfl
  refine ⟨⟨hE.1, fun j hj => ?_, fun j hj k' hk' => ?_⟩, ?_⟩
  · by_cases e : j = i
    · subst e
      rw [upd_at]
      intro e3
      rcases hat with h | h
      · exact hE.2.1 j hj (h.symm.trans e3)
      · have := h b e3; simp at this; omega
    · rw [upd_ne _ _ _ e]; exact hE.2.1 j hj
  · by_cases e : j = i
    · subst e
      rw [upd_at] at hk' ⊢
      by_cases e2 : k' = (Z j).nf + 1
      · subst e2; rw [upd_at]; intro h; cases h
      · rw [upd_ne _ _ _ e2]
        have : k' ≤ (Z j).nf + 1 := hk'
        exact hE.2.2 j hj k' (by omega)
    · rw [upd_ne _ _ _ e] at hk' ⊢; exact hE.2.2 j hj k' hk'
  · rw [Below.heap_setCell _ _ _ _ hne, hg.block b (by simp; omega) (fun e => hE.2.1 i hi e.symm)]
    exact (sup_pc w1 o).block b hb
end
end Go.Proofs.Ytonlhkhjdnaojaa
