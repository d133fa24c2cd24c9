/-
  Swap of a heap of candidates.
-/
import Derived.Test.YtblpfgjjiihjoaaPkOrder
namespace Go.Proofs.Ytblpfgjjiihjoaa
open Go.RowKit

def setR (w : World) (gr i : Nat) (r : Rk) : World :=
  ((((w.setCell ⟨gr, i * 5, none⟩ (.int .i64 r.c.seg)).setCell ⟨gr, i * 5 + 1, none⟩ (.int .i64 r.c.live)).setCell ⟨gr, i * 5 + 2, none⟩ (.int .i64 r.c.cap)).setCell ⟨gr, i * 5 + 3, none⟩ (.int .i64 r.c.age)).setCell ⟨gr, i * 5 + 4, none⟩ (.int .i64 r.at_)
def updR (h : Nat → Rk) (i : Nat) (r : Rk) : Nat → Rk := fun j => if j = i then r else h j
theorem updR_at (h : Nat → Rk) (i : Nat) (r : Rk) : updR h i r i = r := if_pos rfl
theorem updR_ne (h : Nat → Rk) (i : Nat) (r : Rk) {j : Nat} (e : j ≠ i) : updR h i r j = h j := if_neg e
def FrG (g : Nat) (w w' : World) : Prop := ∀ (b : Nat) (t : TypeId) (cs : Array Value), b ≠ g → Blo w b t cs → Blo w' b t cs
section
variable {w w' : World} {gr m cap i j C : Nat} {h : Nat → Rk}
theorem arr_set (cs : Array Value) (a b : Nat) (v u : Value) (hv : cs[b]? = some u) : (cs.setIfInBounds a v)[b]? = some (if a = b then v else u) := by
  have hb : b < cs.size := by
    rcases Nat.lt_or_ge b cs.size with q | q
    · exact q
    · rw [Array.getElem?_eq_none q] at hv; cases hv
  rw [Array.getElem?_setIfInBounds]
  by_cases e : a = b
  · rw [if_pos e, if_pos (by omega), if_pos e]
  · rw [if_neg e, if_neg e]; exact hv
theorem Od.set (hO : Od w gr m h) (hi : i < m) (r : Rk) (hr : GoodC r.c) : Od (setR w gr i r) gr m (updR h i r) := by
  obtain ⟨⟨cs, h1, h2⟩, h3⟩ := hO
  refine ⟨⟨_, ((((h1.put (i * 5) (.int .i64 r.c.seg)).put (i * 5 + 1) (.int .i64 r.c.live)).put (i * 5 + 2) (.int .i64 r.c.cap)).put (i * 5 + 3) (.int .i64 r.c.age)).put (i * 5 + 4) (.int .i64 r.at_), fun k hk => ?_⟩, fun k hk => ?_⟩
  · obtain ⟨a, b, c, d, e⟩ := h2 k hk
    have fa := arr_set _ (i * 5 + 4) (k * 5) (.int .i64 r.at_) _ (arr_set _ (i * 5 + 3) (k * 5) (.int .i64 r.c.age) _ (arr_set _ (i * 5 + 2) (k * 5) (.int .i64 r.c.cap) _ (arr_set _ (i * 5 + 1) (k * 5) (.int .i64 r.c.live) _ (arr_set _ (i * 5) (k * 5) (.int .i64 r.c.seg) _ a))))
    have fb := arr_set _ (i * 5 + 4) (k * 5 + 1) (.int .i64 r.at_) _ (arr_set _ (i * 5 + 3) (k * 5 + 1) (.int .i64 r.c.age) _ (arr_set _ (i * 5 + 2) (k * 5 + 1) (.int .i64 r.c.cap) _ (arr_set _ (i * 5 + 1) (k * 5 + 1) (.int .i64 r.c.live) _ (arr_set _ (i * 5) (k * 5 + 1) (.int .i64 r.c.seg) _ b))))
    have fc := arr_set _ (i * 5 + 4) (k * 5 + 2) (.int .i64 r.at_) _ (arr_set _ (i * 5 + 3) (k * 5 + 2) (.int .i64 r.c.age) _ (arr_set _ (i * 5 + 2) (k * 5 + 2) (.int .i64 r.c.cap) _ (arr_set _ (i * 5 + 1) (k * 5 + 2) (.int .i64 r.c.live) _ (arr_set _ (i * 5) (k * 5 + 2) (.int .i64 r.c.seg) _ c))))
    have fd := arr_set _ (i * 5 + 4) (k * 5 + 3) (.int .i64 r.at_) _ (arr_set _ (i * 5 + 3) (k * 5 + 3) (.int .i64 r.c.age) _ (arr_set _ (i * 5 + 2) (k * 5 + 3) (.int .i64 r.c.cap) _ (arr_set _ (i * 5 + 1) (k * 5 + 3) (.int .i64 r.c.live) _ (arr_set _ (i * 5) (k * 5 + 3) (.int .i64 r.c.seg) _ d))))
    have fe := arr_set _ (i * 5 + 4) (k * 5 + 4) (.int .i64 r.at_) _ (arr_set _ (i * 5 + 3) (k * 5 + 4) (.int .i64 r.c.age) _ (arr_set _ (i * 5 + 2) (k * 5 + 4) (.int .i64 r.c.cap) _ (arr_set _ (i * 5 + 1) (k * 5 + 4) (.int .i64 r.c.live) _ (arr_set _ (i * 5) (k * 5 + 4) (.int .i64 r.c.seg) _ e))))
    by_cases ek : k = i
    · subst ek
      rw [updR_at]
      simp at fa fb fc fd fe
      simp [fa, fb, fc, fd, fe]
    · rw [updR_ne _ _ _ ek]
      rw [if_neg (by omega), if_neg (by omega), if_neg (by omega), if_neg (by omega), if_neg (by omega)] at fa
      rw [if_neg (by omega), if_neg (by omega), if_neg (by omega), if_neg (by omega), if_neg (by omega)] at fb
      rw [if_neg (by omega), if_neg (by omega), if_neg (by omega), if_neg (by omega), if_neg (by omega)] at fc
      rw [if_neg (by omega), if_neg (by omega), if_neg (by omega), if_neg (by omega), if_neg (by omega)] at fd
      rw [if_neg (by omega), if_neg (by omega), if_neg (by omega), if_neg (by omega), if_neg (by omega)] at fe
      exact ⟨fa, fb, fc, fd, fe⟩
  · by_cases ek : k = i
    · subst ek; rw [updR_at]; exact hr
    · rw [updR_ne _ _ _ ek]; exact h3 k hk
theorem Od.drew (hO : Od w gr m h) : Od w.drew gr m h := by
  obtain ⟨⟨cs, h1, h2⟩, h3⟩ := hO
  exact ⟨⟨cs, h1.drew, h2⟩, h3⟩
theorem setR_below {w0 : World} (hb : Below C w0 w) (hC : C ≤ gr) (i : Nat) (r : Rk) : Below C w0 (setR w gr i r) :=
  ((((hb.setCell (p := ⟨gr, i * 5, none⟩) hC _).setCell (p := ⟨gr, i * 5 + 1, none⟩) hC _).setCell (p := ⟨gr, i * 5 + 2, none⟩) hC _).setCell (p := ⟨gr, i * 5 + 3, none⟩) hC _).setCell (p := ⟨gr, i * 5 + 4, none⟩) hC _
theorem setR_fr {w0 : World} (hf : FrG gr w0 w) (i : Nat) (r : Rk) : FrG gr w0 (setR w gr i r) := fun b t cs hb hx =>
  (((((hf b t cs hb hx).far (p := ⟨gr, i * 5, none⟩) hb _).far (p := ⟨gr, i * 5 + 1, none⟩) hb _).far (p := ⟨gr, i * 5 + 2, none⟩) hb _).far (p := ⟨gr, i * 5 + 3, none⟩) hb _).far (p := ⟨gr, i * 5 + 4, none⟩) hb _
theorem Od.frozen (hO : Od w gr m h) (k : Nat) : w.frozen? ⟨gr, k, none⟩ = false := by
  obtain ⟨⟨cs, h1, h2⟩, h3⟩ := hO
  exact h1.frozen k
def swp (h : Nat → Rk) (i j : Nat) : Nat → Rk := updR (updR h i (h j)) j (h i)
def SwpR (C : Nat) (w : World) (gr m : Nat) (h : Nat → Rk) (i j : Nat) (e : Ending) (w' : World) : Prop :=
  e = .returned (.tuple #[]) ∧ Od w' gr m (swp h i j) ∧ Below C w w' ∧ FrG gr w w'
set_option maxHeartbeats 40000000 in
theorem swap_ne (hO : Od w gr m h) (hi : i < m) (hj : j < m) (hm : m ≤ 512) (hne : i ≠ j) (hC : C ≤ gr) :
    Calls Try.prog 49 #[.slice (some ⟨gr, 0, none⟩) m cap, .int .i64 i, .int .i64 j] w (SwpR C w gr m h i j) := by
  obtain ⟨x0, x1, x2, x3, x4⟩ := hO.cells hi
  obtain ⟨y0, y1, y2, y3, y4⟩ := hO.cells hj
  have fx0 := hO.frozen (i * 5)
  have fx1 := hO.frozen (i * 5 + 1)
  have fx2 := hO.frozen (i * 5 + 2)
  have fx3 := hO.frozen (i * 5 + 3)
  have fx4 := hO.frozen (i * 5 + 4)
  have fy0 := hO.frozen (j * 5)
  have fy1 := hO.frozen (j * 5 + 1)
  have fy2 := hO.frozen (j * 5 + 2)
  have fy3 := hO.frozen (j * 5 + 3)
  have fy4 := hO.frozen (j * 5 + 4)
  have i1 : (0 : Int) ≤ (i : Int) := by omega
  have i2 : (i : Int) < (m : Int) := by omega
  have j1 : (0 : Int) ≤ (j : Int) := by omega
  have j2 : (j : Int) < (m : Int) := by omega
  have HO := Lib.hid hO
  clear hO
  go_enter Try.func49, Try.ntmps49
  go_wp2_with fail
  go_region
  all_goals (go_wp2_with fail)
  have good := HO.out.good
  have P := Lib.hid ((HO.out.set hi (h j) (good j hj)).set hj (h i) (good i hi)).drew
  have Q := Lib.hid (setR_below (setR_below (Below.refl C w) hC i (h j)) hC j (h i)).drew
  have R : Hid (FrG gr w (setR (setR w gr i (h j)) gr j (h i)).drew) := fun b t cs hb hx => (setR_fr (setR_fr (w := w) (gr := gr) (w0 := w) (fun _ _ _ _ hx => hx) i (h j)) j (h i) b t cs hb hx).drew
  go_end0
  exact ⟨rfl, P.out, Q.out, R.out⟩
set_option maxHeartbeats 40000000 in
theorem swap_self (hO : Od w gr m h) (hi : i < m) (hm : m ≤ 512) (hC : C ≤ gr) :
    Calls Try.prog 49 #[.slice (some ⟨gr, 0, none⟩) m cap, .int .i64 i, .int .i64 i] w (SwpR C w gr m h i i) := by
  obtain ⟨x0, x1, x2, x3, x4⟩ := hO.cells hi
  have fx0 := hO.frozen (i * 5)
  have fx1 := hO.frozen (i * 5 + 1)
  have fx2 := hO.frozen (i * 5 + 2)
  have fx3 := hO.frozen (i * 5 + 3)
  have fx4 := hO.frozen (i * 5 + 4)
  have i1 : (0 : Int) ≤ (i : Int) := by omega
  have i2 : (i : Int) < (m : Int) := by omega
  have HO := Lib.hid hO
  clear hO
  go_enter Try.func49, Try.ntmps49
  go_wp2_with fail
  go_region
  all_goals (go_wp2_with fail)
  have good := HO.out.good
  have P := Lib.hid ((HO.out.set hi (h i) (good i hi)).set hi (h i) (good i hi)).drew
  have Q := Lib.hid (setR_below (setR_below (Below.refl C w) hC i (h i)) hC i (h i)).drew
  have R : Hid (FrG gr w (setR (setR w gr i (h i)) gr i (h i)).drew) := fun b t cs hb hx => (setR_fr (setR_fr (w := w) (gr := gr) (w0 := w) (fun _ _ _ _ hx => hx) i (h i)) i (h i) b t cs hb hx).drew
  go_end0
  exact ⟨rfl, P.out, Q.out, R.out⟩
theorem swap_any (hO : Od w gr m h) (hi : i < m) (hj : j < m) (hm : m ≤ 512) (hC : C ≤ gr) :
    Calls Try.prog 49 #[.slice (some ⟨gr, 0, none⟩) m cap, .int .i64 i, .int .i64 j] w (SwpR C w gr m h i j) := by
  by_cases e : i = j
  · subst e; exact swap_self hO hi hm hC
  · exact swap_ne hO hi hj hm e hC
end
end Go.Proofs.Ytblpfgjjiihjoaa
