/-
  A piece as the document's law rebuilds it: files with their blocks, and inodes, in memory.
-/
import Derived.Test.YtonlhkhjdnaojaaPcRes
namespace Go.Proofs.Ytonlhkhjdnaojaa
open Go.RowKit

structure Fm (w : World) (base : Nat) (lv : Value) (av : Nat → Value) (I V : Nat → Int) (z : Pz) : Prop where
  row : w.ownsRow base FN 3 lv z.nf (flat3 z.nf fun k => (.int .i64 (I (z.fi k)), .int .i64 (V (z.fi k)), av (k + 1)))
  ints : ∀ k, k ≤ z.nf → w.ownsRow base IT 1 (av k) (z.li k).length (cellsI (z.li k))
  sep : ∀ k k', k ≤ z.nf → k' ≤ z.nf → k ≠ k' → ∀ g, (av k).ownBlock = some g → (av k').ownBlock ≠ some g
section
variable {w w' : World} {base : Nat} {lv : Value} {av : Nat → Value} {I V : Nat → Int} {z : Pz}
theorem Fm.later (h : Fm w base lv av I V z) (hb : Below w.heap.size w w') : Fm w' base lv av I V z := ⟨own_later h.row hb, fun k hk => own_later (h.ints k hk) hb, h.sep⟩
theorem fm_nil (w : World) (base : Nat) (I V : Nat → Int) : Fm w base (.slice none 0 0) (fun _ => .slice none 0 0) I V z0 :=
  ⟨own_nil _ _ _ _, fun k hk => by have : k = 0 := Nat.le_zero.1 hk; subst this; exact own_nil _ _ _ _, fun k k' _ _ _ g e => by cases e⟩
/-- A file more. -/
theorem Fm.newFile (h : Fm w base lv av I V z) {f : Nat} {v' : Value} {a b : Int} (ha : I f = a) (hb : V f = b)
    (ho : w'.ownsRow base FN 3 v' (z.nf + 1) ((flat3 z.nf fun k => (.int .i64 (I (z.fi k)), .int .i64 (V (z.fi k)), av (k + 1))) ++ [.int .i64 a, .int .i64 b, .slice none 0 0])) (hg : w.grownBy w' lv.ownBlock) :
    Fm w' base v' (upd av (z.nf + 1) (.slice none 0 0)) I V (zNew z f) := by
  subst ha hb
  have hO : Out (fun g => lv.ownBlock = some g) w w' := Out.of_grown hg (fun g e => e)
  refine ⟨?_, fun k hk => ?_, fun k k' hk hk' hne g e => ?_⟩
  · have e1 : (zNew z f).nf = z.nf + 1 := rfl
    rw [e1, flat3_succ, flat3_congr z.nf (g := fun k => (.int .i64 (I (z.fi k)), .int .i64 (V (z.fi k)), av (k + 1))) (fun k hk => by
      show (Value.int .i64 (I (upd z.fi z.nf f k)), Value.int .i64 (V (upd z.fi z.nf f k)), upd av (z.nf + 1) (.slice none 0 0) (k + 1)) = _
      rw [upd_ne _ _ _ (by omega), upd_ne _ _ _ (by omega)])]
    show World.ownsRow _ base FN 3 v' _ (_ ++ [.int .i64 (I (upd z.fi z.nf f z.nf)), .int .i64 (V (upd z.fi z.nf f z.nf)), upd av (z.nf + 1) (.slice none 0 0) (z.nf + 1)])
    rw [upd_at, upd_at]
    exact ho
  · have hk2 : k ≤ z.nf + 1 := hk
    by_cases e : k = z.nf + 1
    · subst e
      rw [upd_at]
      show World.ownsRow _ base IT 1 _ (upd z.li (z.nf + 1) [] (z.nf + 1)).length (cellsI (upd z.li (z.nf + 1) [] (z.nf + 1)))
      rw [upd_at]
      exact own_nil _ _ _ _
    · rw [upd_ne _ _ _ e]
      show World.ownsRow _ base IT 1 _ (upd z.li (z.nf + 1) [] k).length (cellsI (upd z.li (z.nf + 1) [] k))
      rw [upd_ne _ _ _ e]
      exact hO.own (h.ints k (by omega)) (fun g e1 e2 => own_apart (h.ints k (by omega)) h.row (by decide) g e1 e2)
  · have hk2 : k ≤ z.nf + 1 := hk
    have hk3 : k' ≤ z.nf + 1 := hk'
    by_cases e1 : k = z.nf + 1
    · subst e1; rw [upd_at] at e; cases e
    · rw [upd_ne _ _ _ e1] at e
      by_cases e2 : k' = z.nf + 1
      · subst e2; rw [upd_at]; intro h; cases h
      · rw [upd_ne _ _ _ e2]
        exact h.sep k k' (by omega) (by omega) hne g e
/-- A list one longer, its slice not yet stored. -/
theorem Fm.grow (h : Fm w base lv av I V z) {k : Nat} (hk : k ≤ z.nf) {x : Int} {v' : Value}
    (ho : w'.ownsRow base IT 1 v' ((z.li k).length + 1) (cellsI (z.li k ++ [x]))) (hg : w.grownBy w' (av k).ownBlock) (hat : v'.ownBlock = (av k).ownBlock ∨ ∀ g, v'.ownBlock = some g → w.heap.size ≤ g) :
    w'.ownsRow base FN 3 lv z.nf (flat3 z.nf fun k => (.int .i64 (I (z.fi k)), .int .i64 (V (z.fi k)), av (k + 1))) ∧ (∀ j, j ≤ z.nf → w'.ownsRow base IT 1 (upd av k v' j) ((zAdd z k x).li j).length (cellsI ((zAdd z k x).li j))) ∧
      ∀ j j', j ≤ z.nf → j' ≤ z.nf → j ≠ j' → ∀ g, (upd av k v' j).ownBlock = some g → (upd av k v' j').ownBlock ≠ some g := by
  have hO : Out (fun g => (av k).ownBlock = some g) w w' := Out.of_grown hg (fun g e => e)
  have hnew : ∀ j, j ≤ z.nf → j ≠ k → ∀ g, v'.ownBlock = some g → (av j).ownBlock ≠ some g := fun j hj hn g e1 e2 => by
    rcases hat with h1 | h1
    · exact h.sep j k hj hk hn g e2 (by rw [← h1]; exact e1)
    · have := h1 g e1
      have := (own_bd (h.ints j hj) e2).2
      omega
  refine ⟨hO.own h.row (fun g e1 e2 => own_apart h.row (h.ints k hk) (by decide) g e1 e2), fun j hj => ?_, fun j j' hj hj' hne g e => ?_⟩
  · by_cases e : j = k
    · subst e
      rw [upd_at]
      show World.ownsRow _ base IT 1 v' (upd z.li j (z.li j ++ [x]) j).length (cellsI (upd z.li j (z.li j ++ [x]) j))
      rw [upd_at, List.length_append, List.length_singleton]
      exact ho
    · rw [upd_ne _ _ _ e]
      show World.ownsRow _ base IT 1 _ (upd z.li k (z.li k ++ [x]) j).length (cellsI (upd z.li k (z.li k ++ [x]) j))
      rw [upd_ne _ _ _ e]
      exact hO.own (h.ints j hj) (fun g e1 e2 => h.sep j k hj hk e g e1 e2)
  · by_cases e1 : j = k
    · subst e1
      rw [upd_at] at e
      rw [upd_ne _ _ _ (fun e2 => hne e2.symm)]
      exact hnew j' hj' (fun e2 => hne e2.symm) g e
    · rw [upd_ne _ _ _ e1] at e
      by_cases e2 : j' = k
      · subst e2
        rw [upd_at]
        exact fun e3 => hnew j hj e1 g e3 e
      · rw [upd_ne _ _ _ e2]
        exact h.sep j j' hj hj' hne g e
/-- The inodes one more. -/
theorem Fm.addI (h : Fm w base lv av I V z) {x : Int} {v' : Value}
    (ho : w'.ownsRow base IT 1 v' ((z.li 0).length + 1) (cellsI (z.li 0 ++ [x]))) (hg : w.grownBy w' (av 0).ownBlock) (hat : v'.ownBlock = (av 0).ownBlock ∨ ∀ g, v'.ownBlock = some g → w.heap.size ≤ g) :
    Fm w' base lv (upd av 0 v') I V (zAdd z 0 x) := by
  obtain ⟨h1, h2, h3⟩ := h.grow (Nat.zero_le _) ho hg hat
  refine ⟨?_, h2, h3⟩
  show w'.ownsRow base FN 3 lv z.nf (flat3 z.nf fun k => (.int .i64 (I (z.fi k)), .int .i64 (V (z.fi k)), upd av 0 v' (k + 1)))
  rw [flat3_congr z.nf (g := fun k => (.int .i64 (I (z.fi k)), .int .i64 (V (z.fi k)), av (k + 1))) (fun k hk => by rw [upd_ne _ _ _ (by omega)])]
  exact h1
/-- A file's blocks one more, stored. -/
theorem Fm.addF (h : Fm w base lv av I V z) {k gs : Nat} {cap : Nat} (hk : k < z.nf) (hp : lv = .slice (some ⟨gs, 0, none⟩) z.nf cap) {x : Int} {v' : Value}
    (ho : w'.ownsRow base IT 1 v' ((z.li (k + 1)).length + 1) (cellsI (z.li (k + 1) ++ [x]))) (hg : w.grownBy w' (av (k + 1)).ownBlock) (hat : v'.ownBlock = (av (k + 1)).ownBlock ∨ ∀ g, v'.ownBlock = some g → w.heap.size ≤ g) :
    Fm (w'.setCell ⟨gs, k * 3 + 2, none⟩ v') base lv (upd av (k + 1) v') I V (zAdd z (k + 1) x) := by
  obtain ⟨h1, h2, h3⟩ := h.grow (by omega) ho hg hat
  have hP : Out (fun g => g = gs) w' (w'.setCell ⟨gs, k * 3 + 2, none⟩ v') := out_put _ _ _ rfl
  refine ⟨?_, fun j hj => hP.own (h2 j hj) (fun g e1 e2 => own_apart (h2 j hj) h1 (by decide) g e1 (by rw [hp, e2]; rfl)), h3⟩
  subst hp
  have := (h1.stored (k * 3 + 2) v').1
  rw [flat3_set _ (fun q => (.int .i64 (I (z.fi q)), .int .i64 (V (z.fi q)), upd av (k + 1) v' (q + 1))) (by decide) v' hk (fun q hq => by rw [upd_ne _ _ _ (by omega)]) (.inr (.inr ⟨rfl, by simp only [upd_at]⟩))] at this
  exact this
end
end Go.Proofs.Ytonlhkhjdnaojaa
