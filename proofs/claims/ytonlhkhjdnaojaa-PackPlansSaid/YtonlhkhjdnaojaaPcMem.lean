/-
  Pack: the pieces in memory.
-/
import Derived.Test.YtonlhkhjdnaojaaPcMath
import Derived.Test.YtonlhkhjdnaojaaOut
import Derived.Test.YtonlhkhjdnaojaaRow
import Derived.Test.YtonlhkhjdnaojaaFis
namespace Go.Proofs.Ytonlhkhjdnaojaa
open Go.RowKit

abbrev PC := 40
abbrev PK := 57
theorem info_pc : (Try.prog.info? PC).map (fun i => (i.zero, i.size, i.bytes)) = some (some (.agg #[.bool false, .slice none 0 0, .slice none 0 0]), 3, 56) := by kernel_rfl
/-! Rows of three cells an element. -/
def flat3 (n : Nat) (f : Nat → Value × Value × Value) : List Value := (List.range n).flatMap fun i => [(f i).1, (f i).2.1, (f i).2.2]
theorem flat3_succ (n : Nat) (f : Nat → Value × Value × Value) : flat3 (n + 1) f = flat3 n f ++ [(f n).1, (f n).2.1, (f n).2.2] := by
  simp [flat3, List.range_succ]
theorem flat3_len (n : Nat) (f : Nat → Value × Value × Value) : (flat3 n f).length = n * 3 := by
  induction n with
  | zero => rfl
  | succ n ih => rw [flat3_succ, List.length_append, ih]; simp; omega
theorem flat3_congr (n : Nat) {f g : Nat → Value × Value × Value} (h : ∀ i, i < n → f i = g i) : flat3 n f = flat3 n g := by
  induction n with
  | zero => rfl
  | succ n ih => rw [flat3_succ, flat3_succ, ih (fun i hi => h i (by omega)), h n (Nat.lt_succ_self _)]
theorem flat3_get {n : Nat} (f : Nat → Value × Value × Value) : ∀ {i : Nat}, i < n → (flat3 n f)[i * 3]? = some (f i).1 ∧ (flat3 n f)[i * 3 + 1]? = some (f i).2.1 ∧ (flat3 n f)[i * 3 + 2]? = some (f i).2.2 := by
  induction n with
  | zero => intro i hi; omega
  | succ n ih =>
    intro i hi
    have hl := flat3_len n f
    rw [flat3_succ]
    by_cases e : i = n
    · subst e
      rw [List.getElem?_append_right (by omega), List.getElem?_append_right (by omega), List.getElem?_append_right (by omega), hl, Nat.sub_self, Nat.add_sub_cancel_left, Nat.add_sub_cancel_left]
      exact ⟨rfl, rfl, rfl⟩
    · rw [List.getElem?_append_left (by omega), List.getElem?_append_left (by omega), List.getElem?_append_left (by omega)]
      exact ih (by omega)
theorem flat3_set {n : Nat} (f g : Nat → Value × Value × Value) {i c : Nat} (hc : c < 3) (v : Value) : i < n → (∀ j, j ≠ i → g j = f j) → ((c = 0 ∧ g i = (v, (f i).2.1, (f i).2.2)) ∨ (c = 1 ∧ g i = ((f i).1, v, (f i).2.2)) ∨ (c = 2 ∧ g i = ((f i).1, (f i).2.1, v))) → (flat3 n f).set (i * 3 + c) v = flat3 n g := by
  induction n with
  | zero => intro hi; omega
  | succ n ih =>
    intro hi hne hat
    have hl := flat3_len n f
    rw [flat3_succ, flat3_succ]
    by_cases e : i = n
    · subst e
      rw [List.set_append_right _ _ (by omega), hl, Nat.add_sub_cancel_left, flat3_congr i (fun j hj => (hne j (by omega)).symm)]
      rcases hat with ⟨rfl, h⟩ | ⟨rfl, h⟩ | ⟨rfl, h⟩ <;> rw [h] <;> rfl
    · rw [List.set_append_left _ _ (by omega), ih (by omega) hne hat, hne n (fun e2 => e e2.symm)]
/-! What is owned. -/
section
variable {w w' : World} {base b2 : Nat} {e e2 t : TypeId} {size s2 : Nat} {v v2 : Value} {n n2 : Nat} {xs x2 : List Value} {g : Nat} {cs : Array Value}
theorem own_blo (h : w.ownsRow base e size v n xs) (hg : v.ownBlock = some g) : ∃ cs, Blo w g e cs ∧ base ≤ g := by
  rcases h.2 with ⟨rfl, _⟩ | ⟨g', cap, cur, rfl, hb, hh, _⟩
  · cases hg
  · have e1 : g' = g := by simpa [Value.ownBlock] using hg
    subst e1
    exact ⟨cur, hh, hb⟩
theorem own_not (h : w.ownsRow base e size v n xs) (hb : Blo w g t cs) (hne : e ≠ t) : v.ownBlock ≠ some g := fun hg => by
  obtain ⟨cs', h1, _⟩ := own_blo h hg
  exact h1.apart hb hne rfl
theorem own_apart (h : w.ownsRow base e size v n xs) (h2 : w.ownsRow b2 e2 s2 v2 n2 x2) (hne : e ≠ e2) : ∀ g, v.ownBlock = some g → v2.ownBlock ≠ some g := fun g hg => by
  obtain ⟨cs', h1, _⟩ := own_blo h hg
  exact own_not h2 h1 (Ne.symm hne)
theorem own_bd (h : w.ownsRow base e size v n xs) (hg : v.ownBlock = some g) : base ≤ g ∧ g < w.heap.size := by
  obtain ⟨cs', h1, h2⟩ := own_blo h hg
  exact ⟨h2, h1.lt⟩
theorem own_some (h : w.ownsRow base e size v n xs) (hn : 0 < n) : ∃ g cap, v = .slice (some ⟨g, 0, none⟩) n cap ∧ base ≤ g := by
  rcases h.2 with ⟨_, h0⟩ | ⟨g, cap, cur, rfl, hb, _⟩
  · omega
  · exact ⟨g, cap, rfl, hb⟩
theorem own_one (h : w.ownsRow base e size v n xs) : v.oneCell' = true := by
  rcases h.2 with ⟨rfl, _⟩ | ⟨g, cap, cur, rfl, _⟩ <;> rfl
theorem own_nil (w : World) (base : Nat) (e : TypeId) (size : Nat) : w.ownsRow base e size (.slice none 0 0) 0 [] := ⟨by simp, .inl ⟨rfl, rfl⟩⟩
end
/-- The pieces: rows of rows. -/
structure Pm (w : World) (base : Nat) (pv : Value) (fv : Nat → Value) (av : Nat → Nat → Value) (I V : Nat → Int) (N : Nat) (nw : Nat → Bool) (Z : Nat → Pz) : Prop where
  row : w.ownsRow base PC 3 pv N (flat3 N fun i => (.bool (nw i), fv i, av i 0))
  fil : ∀ i, i < N → w.ownsRow base FN 3 (fv i) (Z i).nf (flat3 (Z i).nf fun k => (.int .i64 (I ((Z i).fi k)), .int .i64 (V ((Z i).fi k)), av i (k + 1)))
  ints : ∀ i, i < N → ∀ k, k ≤ (Z i).nf → w.ownsRow base IT 1 (av i k) ((Z i).li k).length (cellsI ((Z i).li k))
  sepF : ∀ i i', i < N → i' < N → i ≠ i' → ∀ g, (fv i).ownBlock = some g → (fv i').ownBlock ≠ some g
  sepA : ∀ i k i' k', i < N → i' < N → k ≤ (Z i).nf → k' ≤ (Z i').nf → ¬ (i = i' ∧ k = k') → ∀ g, (av i k).ownBlock = some g → (av i' k').ownBlock ≠ some g
section
variable {w w' : World} {base N : Nat} {pv : Value} {fv : Nat → Value} {av : Nat → Nat → Value} {I V : Nat → Int} {nw : Nat → Bool} {Z : Nat → Pz}
theorem Pm.out {X : Nat → Prop} (h : Pm w base pv fv av I V N nw Z) (ho : Out X w w') (h1 : ∀ g, pv.ownBlock = some g → ¬ X g) (h2 : ∀ i, i < N → ∀ g, (fv i).ownBlock = some g → ¬ X g) (h3 : ∀ i, i < N → ∀ k, k ≤ (Z i).nf → ∀ g, (av i k).ownBlock = some g → ¬ X g) : Pm w' base pv fv av I V N nw Z :=
  ⟨ho.own h.row h1, fun i hi => ho.own (h.fil i hi) (h2 i hi), fun i hi k hk => ho.own (h.ints i hi k hk) (h3 i hi k hk), h.sepF, h.sepA⟩
theorem Pm.later (h : Pm w base pv fv av I V N nw Z) (hb : Below w.heap.size w w') : Pm w' base pv fv av I V N nw Z :=
  h.out (X := fun _ => False) (Out.of_below hb) (fun _ _ h => h) (fun _ _ _ _ h => h) (fun _ _ _ _ _ _ h => h)
/-- A block of another type has changed. -/
theorem Pm.far {g0 : Nat} {t : TypeId} {cs : Array Value} (h : Pm w base pv fv av I V N nw Z) (hg : Blo w g0 t cs) (ho : Out (fun g => g = g0) w w') (h1 : PC ≠ t) (h2 : FN ≠ t) (h3 : IT ≠ t) : Pm w' base pv fv av I V N nw Z :=
  h.out ho (fun g e e2 => own_not h.row hg h1 (e2 ▸ e)) (fun i hi g e e2 => own_not (h.fil i hi) hg h2 (e2 ▸ e)) (fun i hi k hk g e e2 => own_not (h.ints i hi k hk) hg h3 (e2 ▸ e))
theorem Pm.congr {nw' : Nat → Bool} {Z' : Nat → Pz} (h : Pm w base pv fv av I V N nw Z) (h1 : ∀ i, i < N → nw' i = nw i) (h2 : ∀ i, i < N → Z' i = Z i) : Pm w base pv fv av I V N nw' Z' := by
  refine ⟨?_, fun i hi => ?_, fun i hi k hk => ?_, h.sepF, fun i k i' k' hi hi' hk hk' => ?_⟩
  · rw [flat3_congr N (f := fun i => (.bool (nw' i), fv i, av i 0)) (g := fun i => (.bool (nw i), fv i, av i 0)) (fun i hi => by simp only [h1 i hi])]
    exact h.row
  · rw [h2 i hi]; exact h.fil i hi
  · rw [h2 i hi] at hk ⊢; exact h.ints i hi k hk
  · rw [h2 i hi] at hk; rw [h2 i' hi'] at hk'; exact h.sepA i k i' k' hi hi' hk hk'
/-- No pieces. -/
theorem pm_nil (w : World) (base : Nat) (I V : Nat → Int) (nw : Nat → Bool) (Z : Nat → Pz) : Pm w base (.slice none 0 0) (fun _ => .slice none 0 0) (fun _ _ => .slice none 0 0) I V 0 nw Z :=
  ⟨own_nil _ _ _ _, fun i hi => by omega, fun i hi => by omega, fun i i' hi => by omega, fun i k i' k' hi => by omega⟩
/-- One piece more. -/
theorem Pm.next (h : Pm w base pv fv av I V N nw Z) {v' : Value} {b : Bool} (ho : w'.ownsRow base PC 3 v' (N + 1) ((flat3 N fun i => (.bool (nw i), fv i, av i 0)) ++ [.bool b, .slice none 0 0, .slice none 0 0])) (hg : w.grownBy w' pv.ownBlock) :
    Pm w' base v' (upd fv N (.slice none 0 0)) (upd av N fun _ => .slice none 0 0) I V (N + 1) (upd nw N b) (upd Z N z0) := by
  have hO : Out (fun g => pv.ownBlock = some g) w w' := Out.of_grown hg (fun g e => e)
  refine ⟨?_, fun i hi => ?_, fun i hi k hk => ?_, fun i i' hi hi' hne g e => ?_, fun i k i' k' hi hi' hk hk' hne g e => ?_⟩
  · rw [flat3_succ, flat3_congr N (g := fun i => (.bool (nw i), fv i, av i 0)) (fun i hi => by simp only [upd_ne _ _ _ (by omega : i ≠ N)])]
    simp only [upd_at]
    exact ho
  · by_cases e : i = N
    · subst e; simp only [upd_at]; exact own_nil _ _ _ _
    · simp only [upd_ne _ _ _ e]
      exact hO.own (h.fil i (by omega)) (fun g e1 e2 => own_apart (h.fil i (by omega)) h.row (by decide) g e1 e2)
  · by_cases e : i = N
    · subst e; simp only [upd_at]; exact own_nil _ _ _ _
    · simp only [upd_ne _ _ _ e] at hk ⊢
      exact hO.own (h.ints i (by omega) k hk) (fun g e1 e2 => own_apart (h.ints i (by omega) k hk) h.row (by decide) g e1 e2)
  · by_cases e1 : i = N
    · subst e1; rw [upd_at] at e; cases e
    · rw [upd_ne _ _ _ e1] at e
      by_cases e2 : i' = N
      · subst e2; rw [upd_at]; intro h; cases h
      · rw [upd_ne _ _ _ e2]; exact h.sepF i i' (by omega) (by omega) hne g e
  · by_cases e1 : i = N
    · subst e1; rw [upd_at] at e; cases e
    · rw [upd_ne _ _ _ e1] at e hk
      by_cases e2 : i' = N
      · subst e2; rw [upd_at]; intro h; cases h
      · rw [upd_ne _ _ _ e2] at hk' ⊢; exact h.sepA i k i' k' (by omega) (by omega) hk hk' hne g e
/-- The places of piece i. -/
theorem Pm.piece (h : Pm w base pv fv av I V N nw Z) {i : Nat} (hi : i < N) : ∃ g cap, pv = .slice (some ⟨g, 0, none⟩) N cap ∧ base ≤ g ∧ g < w.heap.size ∧ (∀ j, w.frozen? ⟨g, j, none⟩ = false) ∧
    w.cell? ⟨g, i * 3, none⟩ = some (.bool (nw i)) ∧ w.cell? ⟨g, i * 3 + 1, none⟩ = some (fv i) ∧ w.cell? ⟨g, i * 3 + 2, none⟩ = some (av i 0) := by
  obtain ⟨g, cap, rfl, hb⟩ := own_some h.row (by omega)
  obtain ⟨q1, q2, q3⟩ := flat3_get (fun i => (.bool (nw i), fv i, av i 0)) hi
  exact ⟨g, cap, rfl, hb, (own_bd h.row rfl).2, fun j => h.row.frozenAt j, by rw [h.row.cellAt _ (by omega)]; exact q1, by rw [h.row.cellAt _ (by omega)]; exact q2, by rw [h.row.cellAt _ (by omega)]; exact q3⟩
theorem Pm.file (h : Pm w base pv fv av I V N nw Z) {i k : Nat} (hi : i < N) (hk : k < (Z i).nf) : ∃ g cap, fv i = .slice (some ⟨g, 0, none⟩) (Z i).nf cap ∧ base ≤ g ∧ g < w.heap.size ∧ (∀ j, w.frozen? ⟨g, j, none⟩ = false) ∧
    w.cell? ⟨g, k * 3, none⟩ = some (.int .i64 (I ((Z i).fi k))) ∧ w.cell? ⟨g, k * 3 + 1, none⟩ = some (.int .i64 (V ((Z i).fi k))) ∧ w.cell? ⟨g, k * 3 + 2, none⟩ = some (av i (k + 1)) := by
  have hr := h.fil i hi
  obtain ⟨g, cap, he, hb⟩ := own_some hr (by omega)
  rw [he] at hr
  obtain ⟨q1, q2, q3⟩ := flat3_get (fun k => (Value.int .i64 (I ((Z i).fi k)), Value.int .i64 (V ((Z i).fi k)), av i (k + 1))) hk
  exact ⟨g, cap, he, hb, (own_bd hr rfl).2, fun j => hr.frozenAt j, by rw [hr.cellAt _ (by omega)]; exact q1, by rw [hr.cellAt _ (by omega)]; exact q2, by rw [hr.cellAt _ (by omega)]; exact q3⟩
/-- A new file in piece i. -/
theorem Pm.newFile (h : Pm w base pv fv av I V N nw Z) {i f gp cap : Nat} (hi : i < N) (hp : pv = .slice (some ⟨gp, 0, none⟩) N cap) {v' : Value} {a b : Int} (ha : I f = a) (hb : V f = b)
    (ho : w'.ownsRow base FN 3 v' ((Z i).nf + 1) ((flat3 (Z i).nf fun k => (.int .i64 (I ((Z i).fi k)), .int .i64 (V ((Z i).fi k)), av i (k + 1))) ++ [.int .i64 a, .int .i64 b, .slice none 0 0])) (hg : w.grownBy w' (fv i).ownBlock) (hat : v'.ownBlock = (fv i).ownBlock ∨ ∀ g, v'.ownBlock = some g → w.heap.size ≤ g) :
    Pm (w'.setCell ⟨gp, i * 3 + 1, none⟩ v') base pv (upd fv i v') (upd av i (upd (av i) ((Z i).nf + 1) (.slice none 0 0))) I V N nw (upd Z i (zNew (Z i) f)) := by
  subst ha hb
  have hO : Out (fun g => (fv i).ownBlock = some g) w w' := Out.of_grown hg (fun g e => e)
  have hP : Out (fun g => g = gp) w' (w'.setCell ⟨gp, i * 3 + 1, none⟩ v') := out_put _ _ _ rfl
  have hrow : w'.ownsRow base PC 3 pv N _ := hO.own h.row (fun g e1 e2 => own_apart h.row (h.fil i hi) (by decide) g e1 e2)
  have hgp : pv.ownBlock = some gp := by rw [hp]; rfl
  have keepF : ∀ j, j < N → j ≠ i → (w'.setCell ⟨gp, i * 3 + 1, none⟩ v').ownsRow base FN 3 (fv j) (Z j).nf (flat3 (Z j).nf fun k => (.int .i64 (I ((Z j).fi k)), .int .i64 (V ((Z j).fi k)), av j (k + 1))) := fun j hj hji => by
    have h1 := hO.own (h.fil j hj) (fun g e1 e2 => h.sepF j i hj hi hji g e1 e2)
    exact hP.own h1 (fun g e1 e2 => own_apart h1 hrow (by decide) g e1 (by rw [e2]; exact hgp))
  have keepA : ∀ j, j < N → ∀ k, k ≤ (Z j).nf → (w'.setCell ⟨gp, i * 3 + 1, none⟩ v').ownsRow base IT 1 (av j k) ((Z j).li k).length (cellsI ((Z j).li k)) := fun j hj k hk => by
    have h1 := hO.own (h.ints j hj k hk) (fun g e1 e2 => own_apart (h.ints j hj k hk) (h.fil i hi) (by decide) g e1 e2)
    exact hP.own h1 (fun g e1 e2 => own_apart h1 hrow (by decide) g e1 (by rw [e2]; exact hgp))
  have hA : ∀ j k, ¬ (j = i ∧ k = (Z i).nf + 1) → upd av i (upd (av i) ((Z i).nf + 1) (.slice none 0 0)) j k = av j k := fun j k hne => by
    by_cases e : j = i
    · subst e; rw [upd_at]; exact upd_ne _ _ _ (fun e2 => hne ⟨rfl, e2⟩)
    · rw [upd_ne _ _ _ e]
  refine ⟨?_, fun j hj => ?_, fun j hj k hk => ?_, fun j j' hj hj' hne g e => ?_, fun j k j' k' hj hj' hk hk' hne g e => ?_⟩
  · subst hp
    have := (hrow.stored (i * 3 + 1) v').1
    rw [flat3_set _ (fun j => (.bool (nw j), upd fv i v' j, upd av i (upd (av i) ((Z i).nf + 1) (.slice none 0 0)) j 0)) (by decide) v' hi (fun j hj => by simp only [upd_ne _ _ _ hj]) (.inr (.inl ⟨rfl, by simp only [upd_at]; rw [upd_ne _ _ _ (by omega)]⟩))] at this
    exact this
  · by_cases e : j = i
    · subst e
      simp only [upd_at]
      have e1 : (zNew (Z j) f).nf = (Z j).nf + 1 := rfl
      rw [e1, flat3_succ, flat3_congr (Z j).nf (g := fun k => (.int .i64 (I ((Z j).fi k)), .int .i64 (V ((Z j).fi k)), av j (k + 1))) (fun k hk => by
        show (Value.int .i64 (I (upd (Z j).fi (Z j).nf f k)), Value.int .i64 (V (upd (Z j).fi (Z j).nf f k)), upd (av j) ((Z j).nf + 1) (.slice none 0 0) (k + 1)) = _
        rw [upd_ne _ _ _ (by omega), upd_ne _ _ _ (by omega)])]
      show World.ownsRow _ base FN 3 v' _ (_ ++ [.int .i64 (I (upd (Z j).fi (Z j).nf f (Z j).nf)), .int .i64 (V (upd (Z j).fi (Z j).nf f (Z j).nf)), upd (av j) ((Z j).nf + 1) (.slice none 0 0) ((Z j).nf + 1)])
      rw [upd_at, upd_at]
      exact hP.own ho (fun g e1 e2 => own_apart ho hrow (by decide) g e1 (by rw [e2]; exact hgp))
    · simp only [upd_ne _ _ _ e]
      exact keepF j hj e
  · by_cases e : j = i ∧ k = (Z i).nf + 1
    · obtain ⟨rfl, rfl⟩ := e
      simp only [upd_at]
      show World.ownsRow _ base IT 1 _ (upd (Z j).li ((Z j).nf + 1) [] ((Z j).nf + 1)).length (cellsI (upd (Z j).li ((Z j).nf + 1) [] ((Z j).nf + 1)))
      rw [upd_at]
      exact own_nil _ _ _ _
    · rw [hA j k e]
      by_cases e2 : j = i
      · subst e2
        have hk2 : k ≤ (Z j).nf := by rw [upd_at] at hk; have : k ≤ (Z j).nf + 1 := hk; have : k ≠ (Z j).nf + 1 := fun e3 => e ⟨rfl, e3⟩; omega
        rw [upd_at]
        show World.ownsRow _ base IT 1 _ (upd (Z j).li ((Z j).nf + 1) [] k).length (cellsI (upd (Z j).li ((Z j).nf + 1) [] k))
        rw [upd_ne _ _ _ (by omega)]
        exact keepA j hj k hk2
      · rw [upd_ne _ _ _ e2] at hk ⊢
        exact keepA j hj k hk
  · have hnew : ∀ j, j < N → j ≠ i → ∀ g, v'.ownBlock = some g → (fv j).ownBlock ≠ some g := fun j hj hji g e1 e2 => by
      rcases hat with h1 | h1
      · exact h.sepF j i hj hi hji g e2 (by rw [← h1]; exact e1)
      · have := h1 g e1
        have := (own_bd (h.fil j hj) e2).2
        omega
    by_cases e1 : j = i
    · subst e1
      rw [upd_at] at e
      rw [upd_ne _ _ _ (fun e2 => hne e2.symm)]
      exact hnew j' hj' (fun e2 => hne e2.symm) g e
    · rw [upd_ne _ _ _ e1] at e
      by_cases e2 : j' = i
      · subst e2
        rw [upd_at]
        exact fun e3 => hnew j hj e1 g e3 e
      · rw [upd_ne _ _ _ e2]
        exact h.sepF j j' hj hj' hne g e
  · have hle : ∀ j k, k ≤ (upd Z i (zNew (Z i) f) j).nf → ¬ (j = i ∧ k = (Z i).nf + 1) → k ≤ (Z j).nf := fun j k hk hn => by
      by_cases e2 : j = i
      · subst e2
        rw [upd_at] at hk
        have : k ≤ (Z j).nf + 1 := hk
        have : k ≠ (Z j).nf + 1 := fun e3 => hn ⟨rfl, e3⟩
        omega
      · rwa [upd_ne _ _ _ e2] at hk
    by_cases e1 : j = i ∧ k = (Z i).nf + 1
    · obtain ⟨rfl, rfl⟩ := e1
      rw [upd_at, upd_at] at e
      cases e
    · rw [hA j k e1] at e
      by_cases e2 : j' = i ∧ k' = (Z i).nf + 1
      · obtain ⟨rfl, rfl⟩ := e2
        rw [upd_at, upd_at]
        intro h; cases h
      · rw [hA j' k' e2]
        exact h.sepA j k j' k' hj hj' (hle j k hk e1) (hle j' k' hk' e2) hne g e
/-- A list of piece i one longer: a file's blocks (k + 1), or the inodes (0), put at its place. -/
theorem Pm.add (h : Pm w base pv fv av I V N nw Z) {i k gs q : Nat} (hi : i < N) (hk : k ≤ (Z i).nf) {x : Int} {v' : Value}
    (hpl : (k = 0 ∧ ∃ cap, pv = .slice (some ⟨gs, 0, none⟩) N cap ∧ q = i * 3 + 2) ∨ (∃ k', k = k' + 1 ∧ ∃ cap, fv i = .slice (some ⟨gs, 0, none⟩) (Z i).nf cap ∧ q = k' * 3 + 2))
    (ho : w'.ownsRow base IT 1 v' (((Z i).li k).length + 1) (cellsI ((Z i).li k ++ [x]))) (hg : w.grownBy w' (av i k).ownBlock) (hat : v'.ownBlock = (av i k).ownBlock ∨ ∀ g, v'.ownBlock = some g → w.heap.size ≤ g) :
    Pm (w'.setCell ⟨gs, q, none⟩ v') base pv fv (upd av i (upd (av i) k v')) I V N nw (upd Z i (zAdd (Z i) k x)) := by
  have hO : Out (fun g => (av i k).ownBlock = some g) w w' := Out.of_grown hg (fun g e => e)
  have hP : Out (fun g => g = gs) w' (w'.setCell ⟨gs, q, none⟩ v') := out_put _ _ _ rfl
  have hrow : w'.ownsRow base PC 3 pv N _ := hO.own h.row (fun g e1 e2 => own_apart h.row (h.ints i hi k hk) (by decide) g e1 e2)
  have hfil : ∀ j, j < N → w'.ownsRow base FN 3 (fv j) (Z j).nf _ := fun j hj => hO.own (h.fil j hj) (fun g e1 e2 => own_apart (h.fil j hj) (h.ints i hi k hk) (by decide) g e1 e2)
  have hA : ∀ j k', ¬ (j = i ∧ k' = k) → upd av i (upd (av i) k v') j k' = av j k' := fun j k' hne => by
    by_cases e : j = i
    · subst e; rw [upd_at]; exact upd_ne _ _ _ (fun e2 => hne ⟨rfl, e2⟩)
    · rw [upd_ne _ _ _ e]
  have hZ : ∀ j, (upd Z i (zAdd (Z i) k x) j).nf = (Z j).nf ∧ (upd Z i (zAdd (Z i) k x) j).fi = (Z j).fi := fun j => by
    by_cases e : j = i
    · subst e; rw [upd_at]; exact ⟨rfl, rfl⟩
    · rw [upd_ne _ _ _ e]; exact ⟨rfl, rfl⟩
  -- the block that is stored into holds pieces or files
  have hgi : ∀ {v : Value} {n : Nat} {xs : List Value}, w'.ownsRow base IT 1 v n xs → ∀ g, v.ownBlock = some g → ¬ g = gs := fun {v n xs} hv g e1 e2 => by
    rcases hpl with ⟨_, cap, hp, _⟩ | ⟨k', _, cap, hp, _⟩
    · exact own_apart hv hrow (by decide) g e1 (by rw [hp, e2]; rfl)
    · exact own_apart hv (hfil i hi) (by decide) g e1 (by rw [hp, e2]; rfl)
  refine ⟨?_, fun j hj => ?_, fun j hj k' hk' => ?_, h.sepF, fun j k1 j' k2 hj hj' hk1 hk2 hne g e => ?_⟩
  · rcases hpl with ⟨rfl, cap, hp, rfl⟩ | ⟨k', rfl, cap, hp, rfl⟩
    · subst hp
      have := (hrow.stored (i * 3 + 2) v').1
      rw [flat3_set _ (fun j => (.bool (nw j), fv j, upd av i (upd (av i) 0 v') j 0)) (by decide) v' hi (fun j hj => by simp only [upd_ne _ _ _ hj]) (.inr (.inr ⟨rfl, by simp only [upd_at]⟩))] at this
      exact this
    · have h1 := hP.own hrow (fun g e1 e2 => own_apart hrow (hfil i hi) (by decide) g e1 (by rw [hp, e2]; rfl))
      rw [flat3_congr N (f := fun i_1 => (.bool (nw i_1), fv i_1, upd av i (upd (av i) (k' + 1) v') i_1 0)) (g := fun i => (.bool (nw i), fv i, av i 0)) (fun j hj => by rw [hA j 0 (fun e => by omega)])]
      exact h1
  · rw [(hZ j).1, (hZ j).2]
    rcases hpl with ⟨rfl, cap, hp, rfl⟩ | ⟨k', rfl, cap, hp, rfl⟩
    · have h1 := hP.own (hfil j hj) (fun g e1 e2 => own_apart (hfil j hj) hrow (by decide) g e1 (by rw [hp, e2]; rfl))
      rw [flat3_congr (Z j).nf (g := fun k => (.int .i64 (I ((Z j).fi k)), .int .i64 (V ((Z j).fi k)), av j (k + 1))) (fun k hk => by rw [hA j (k + 1) (fun e => by omega)])]
      exact h1
    · by_cases e : j = i
      · subst e
        have hr := hfil j hj
        rw [hp] at hr ⊢
        have := (hr.stored (k' * 3 + 2) v').1
        rw [flat3_set _ (fun q => (.int .i64 (I ((Z j).fi q)), .int .i64 (V ((Z j).fi q)), upd av j (upd (av j) (k' + 1) v') j (q + 1))) (by decide) v' (by omega) (fun q hq => by rw [hA j (q + 1) (fun e => hq (by omega))]) (.inr (.inr ⟨rfl, by simp only [upd_at]⟩))] at this
        exact this
      · have h1 := hP.own (hfil j hj) (fun g e1 e2 => by
          obtain ⟨cs, q1, q2⟩ := own_blo (hfil j hj) e1
          have hs : (fv j).ownBlock = (fv j).ownBlock := rfl
          exact h.sepF j i hj hi e g e1 (by rw [hp, e2]; rfl))
        rw [flat3_congr (Z j).nf (g := fun k => (.int .i64 (I ((Z j).fi k)), .int .i64 (V ((Z j).fi k)), av j (k + 1))) (fun q hq => by rw [hA j (q + 1) (fun e2 => e e2.1)])]
        exact h1
  · rw [(hZ j).1] at hk'
    by_cases e : j = i ∧ k' = k
    · obtain ⟨rfl, rfl⟩ := e
      rw [upd_at, upd_at, upd_at]
      show World.ownsRow _ base IT 1 v' (upd (Z j).li k' ((Z j).li k' ++ [x]) k').length (cellsI (upd (Z j).li k' ((Z j).li k' ++ [x]) k'))
      rw [upd_at, List.length_append, List.length_singleton]
      exact hP.own ho (hgi ho)
    · rw [hA j k' e]
      have hl : (upd Z i (zAdd (Z i) k x) j).li k' = (Z j).li k' := by
        by_cases e2 : j = i
        · subst e2; rw [upd_at]; exact upd_ne _ _ _ (fun e3 => e ⟨rfl, e3⟩)
        · rw [upd_ne _ _ _ e2]
      rw [hl]
      have h1 := hO.own (h.ints j hj k' hk') (fun g e1 e2 => h.sepA j k' i k hj hi hk' hk e g e1 e2)
      exact hP.own h1 (hgi h1)
  · rw [(hZ j).1] at hk1
    rw [(hZ j').1] at hk2
    have hnew : ∀ j k', j < N → k' ≤ (Z j).nf → ¬ (j = i ∧ k' = k) → ∀ g, v'.ownBlock = some g → (av j k').ownBlock ≠ some g := fun j k' hj hk' hn g e1 e2 => by
      rcases hat with h1 | h1
      · exact h.sepA j k' i k hj hi hk' hk hn g e2 (by rw [← h1]; exact e1)
      · have := h1 g e1
        have := (own_bd (h.ints j hj k' hk') e2).2
        omega
    by_cases e1 : j = i ∧ k1 = k
    · obtain ⟨rfl, rfl⟩ := e1
      rw [upd_at, upd_at] at e
      rw [hA j' k2 (fun e2 => hne ⟨e2.1.symm, e2.2.symm⟩)]
      exact hnew j' k2 hj' hk2 (fun e2 => hne ⟨e2.1.symm, e2.2.symm⟩) g e
    · rw [hA j k1 e1] at e
      by_cases e2 : j' = i ∧ k2 = k
      · obtain ⟨rfl, rfl⟩ := e2
        rw [upd_at, upd_at]
        exact fun e3 => hnew j k1 hj hk1 e1 g e3 e
      · rw [hA j' k2 e2]
        exact h.sepA j k1 j' k2 hj hj' hk1 hk2 hne g e
end
end Go.Proofs.Ytonlhkhjdnaojaa
