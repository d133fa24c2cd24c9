/-
  Pack: the pieces as what is read; their sizes.
-/
import Derived.Test.YtonlhkhjdnaojaaPcPlan
namespace Go.Proofs.Ytonlhkhjdnaojaa
open Go.RowKit

def fsZ (I V : Nat → Int) (z : Pz) : List Fi := (List.range z.nf).map fun k => ⟨I (z.fi k), V (z.fi k), z.li (k + 1)⟩
theorem fsZ_len (I V : Nat → Int) (z : Pz) : (fsZ I V z).length = z.nf := by simp [fsZ]
theorem fsZ_get (I V : Nat → Int) (z : Pz) {k : Nat} (hk : k < z.nf) : (fsZ I V z).getD k fi0 = ⟨I (z.fi k), V (z.fi k), z.li (k + 1)⟩ := by
  unfold fsZ
  rw [List.getD_eq_getElem?_getD, List.getElem?_map, List.getElem?_range hk]
  rfl
theorem Pm.reads {w : World} {base N : Nat} {pv : Value} {fv : Nat → Value} {av : Nat → Nat → Value} {I V : Nat → Int} {nw : Nat → Bool} {Z : Nat → Pz} (h : Pm w base pv fv av I V N nw Z) {i : Nat} (hi : i < N) :
    ∃ fa fc ia ic, fv i = .slice fa (Z i).nf fc ∧ av i 0 = .slice ia ((Z i).li 0).length ic ∧ Fis w fa (fsZ I V (Z i)) ∧ Ints w ia ((Z i).li 0) := by
  have hf := h.fil i hi
  have hi0 := h.ints i hi 0 (Nat.zero_le _)
  obtain ⟨fa, fc, e1, _⟩ := own_slice hf
  obtain ⟨ia, ic, e2, _⟩ := own_slice hi0
  rw [e2] at hi0
  refine ⟨fa, fc, ia, ic, e1, e2, fun hne => ?_, Ints.own hi0⟩
  have hpos : 0 < (Z i).nf := by
    rcases Nat.eq_zero_or_pos (Z i).nf with h0 | h0
    · exact absurd (List.eq_nil_of_length_eq_zero (by rw [fsZ_len, h0])) hne
    · exact h0
  obtain ⟨g, cap, e3, -⟩ := h.file hi (k := 0) hpos
  rw [e1] at e3
  cases e3
  refine ⟨g, 0, rfl, fun k hk => ?_⟩
  rw [fsZ_len] at hk
  obtain ⟨g2, c2, e4, -, -, -, q1, q2, q3⟩ := h.file hi hk
  rw [e1] at e4
  cases e4
  have hk1 := h.ints i hi (k + 1) hk
  obtain ⟨a, c, e5, _⟩ := own_slice hk1
  rw [e5] at hk1 q3
  rw [fsZ_get I V (Z i) hk, Nat.zero_add]
  exact ⟨q1, q2, a, c, q3, Ints.own hk1⟩
/-! Sums. -/
def sumR (n : Nat) (g : Nat → Nat) : Nat := ((List.range n).map g).sum
theorem sumR_succ (n : Nat) (g : Nat → Nat) : sumR (n + 1) g = sumR n g + g n := by simp [sumR, List.range_succ]
theorem sumR_congr (n : Nat) {f g : Nat → Nat} (h : ∀ i, i < n → f i = g i) : sumR n f = sumR n g := by
  induction n with
  | zero => rfl
  | succ n ih => rw [sumR_succ, sumR_succ, ih (fun i hi => h i (by omega)), h n (Nat.lt_succ_self n)]
theorem sumR_at (n : Nat) {f g : Nat → Nat} {j d : Nat} (hj : j < n) (h : ∀ i, i ≠ j → f i = g i) (hd : f j = g j + d) : sumR n f = sumR n g + d := by
  induction n with
  | zero => omega
  | succ n ih =>
    rw [sumR_succ, sumR_succ]
    by_cases e : j = n
    · subst e
      rw [sumR_congr j (fun i hi => h i (by omega)), hd]; omega
    · rw [ih (by omega), h n (fun e2 => e e2.symm)]; omega
def blZ (z : Pz) : Nat := sumR z.nf fun k => (z.li (k + 1)).length
def szZ (z : Pz) : Nat := sumR z.nf fun k => 4 + 2 * (z.li (k + 1)).length
theorem szF_fsZ (I V : Nat → Int) (z : Pz) : szF (fsZ I V z) = szZ z := by simp [szF, fsZ, szZ, sumR, List.map_map, Function.comp_def]
theorem blF_fsZ (I V : Nat → Int) (z : Pz) : blF (fsZ I V z) = blZ z := by simp [blF, fsZ, blZ, sumR, List.map_map, Function.comp_def]
structure BsSum (s : Bs) : Prop where
  n : s.n = (s.z.li 0).length + blZ s.z
  wd : s.wd = 10 + (s.z.li 0).length + szZ s.z
theorem zAdd_sum0 (z : Pz) (x : Int) : ((zAdd z 0 x).li 0).length = (z.li 0).length + 1 ∧ blZ (zAdd z 0 x) = blZ z ∧ szZ (zAdd z 0 x) = szZ z := by
  refine ⟨?_, sumR_congr _ fun k _ => ?_, sumR_congr _ fun k _ => ?_⟩
  · show (upd z.li 0 (z.li 0 ++ [x]) 0).length = _
    rw [upd_at, List.length_append]; rfl
  · show (upd z.li 0 (z.li 0 ++ [x]) (k + 1)).length = _
    rw [upd_ne _ _ _ (by omega)]
  · show 4 + 2 * (upd z.li 0 (z.li 0 ++ [x]) (k + 1)).length = _
    rw [upd_ne _ _ _ (by omega)]
theorem zAdd_sum (z : Pz) (q : Nat) (hq : q < z.nf) (x : Int) : ((zAdd z (q + 1) x).li 0).length = (z.li 0).length ∧ blZ (zAdd z (q + 1) x) = blZ z + 1 ∧ szZ (zAdd z (q + 1) x) = szZ z + 2 := by
  refine ⟨?_, sumR_at _ hq (fun k hk => ?_) ?_, sumR_at _ hq (fun k hk => ?_) ?_⟩
  · show (upd z.li (q + 1) (z.li (q + 1) ++ [x]) 0).length = _
    rw [upd_ne _ _ _ (by omega)]
  · show (upd z.li (q + 1) (z.li (q + 1) ++ [x]) (k + 1)).length = _
    rw [upd_ne _ _ _ (by omega)]
  · show (upd z.li (q + 1) (z.li (q + 1) ++ [x]) (q + 1)).length = _
    rw [upd_at, List.length_append]; rfl
  · show 4 + 2 * (upd z.li (q + 1) (z.li (q + 1) ++ [x]) (k + 1)).length = _
    rw [upd_ne _ _ _ (by omega)]
  · show 4 + 2 * (upd z.li (q + 1) (z.li (q + 1) ++ [x]) (q + 1)).length = _
    rw [upd_at, List.length_append, List.length_singleton]; omega
theorem zNew_sum (z : Pz) (f : Nat) : ((zNew z f).li 0).length = (z.li 0).length ∧ blZ (zNew z f) = blZ z ∧ szZ (zNew z f) = szZ z + 4 := by
  refine ⟨?_, ?_, ?_⟩
  · show (upd z.li (z.nf + 1) [] 0).length = _
    rw [upd_ne _ _ _ (by omega)]
  · show sumR (z.nf + 1) (fun k => (upd z.li (z.nf + 1) [] (k + 1)).length) = _
    rw [sumR_succ, upd_at, sumR_congr z.nf (g := fun k => (z.li (k + 1)).length) (fun k hk => by rw [upd_ne _ _ _ (by omega)])]
    rfl
  · show sumR (z.nf + 1) (fun k => 4 + 2 * (upd z.li (z.nf + 1) [] (k + 1)).length) = _
    rw [sumR_succ, upd_at, sumR_congr z.nf (g := fun k => 4 + 2 * (z.li (k + 1)).length) (fun k hk => by rw [upd_ne _ _ _ (by omega)])]
    rfl
theorem bstep_sum {s : Bs} (hO : BsOk s) (h : BsSum s) (x : It) : BsSum (bstep s x) := by
  have h1 := h.n
  have h2 := h.wd
  unfold bstep
  split
  · obtain ⟨q1, q2, q3⟩ := zAdd_sum0 s.z x.n
    exact ⟨by show s.n + 1 = _; rw [q1, q2]; omega, by show s.wd + 1 = _; rw [q1, q3]; omega⟩
  · next hx =>
    split
    · next hl =>
      obtain ⟨c1, -⟩ := hO.cur (by rw [hl]; exact hx)
      obtain ⟨q, hq⟩ : ∃ q, s.z.nf = q + 1 := ⟨s.z.nf - 1, by omega⟩
      obtain ⟨q1, q2, q3⟩ := zAdd_sum s.z q (by omega) x.n
      rw [← hq] at q1 q2 q3
      exact ⟨by show s.n + 1 = _; rw [q1, q2]; omega, by show s.wd + 2 = _; rw [q1, q3]; omega⟩
    · obtain ⟨p1, p2, p3⟩ := zNew_sum s.z x.f
      obtain ⟨q1, q2, q3⟩ := zAdd_sum (zNew s.z x.f) s.z.nf (Nat.lt_succ_self _) x.n
      exact ⟨by show s.n + 1 = _; rw [q1, q2, p1, p2]; omega, by show s.wd + 6 = _; rw [q1, q3, p1, p3]; omega⟩
theorem bs_sum (l : List It) : BsSum (bs l) := by
  refine snoc_ind (p := fun l => BsSum (bs l)) ⟨rfl, rfl⟩ (fun l x h => ?_) l
  rw [bs_snoc]
  exact bstep_sum (bs_ok l) h x
end Go.Proofs.Ytonlhkhjdnaojaa
