/-
  A summary's bytes, in numbers: there (encM) and back (decM); the document's way back (decR) where what is read is one.
-/
import Derived.Test.YtkdjfhbdcfjnnaaSmCk2
import Derived.Test.YtkdjfhbdcfjnnaaKit
namespace Go.Proofs.Ytkdjfhbdcfjnnaa
open Go.RowKit

/-- A number's bytes, the lowest first. -/
def num (k v : Nat) : List Nat := (List.range k).map fun i => v / 256 ^ i % 256
theorem num_len (k v : Nat) : (num k v).length = k := by simp [num]
theorem num_lt (k v : Nat) : ∀ x ∈ num k v, x < 256 := fun x hx => by
  obtain ⟨i, _, rfl⟩ := List.mem_map.1 hx
  omega
theorem num_succ (k v : Nat) : num (k + 1) v = num k v ++ [v / 256 ^ k % 256] := by simp [num, List.range_succ]
theorem num_1 (v : Nat) : num 1 v = [v % 256] := by simp [num, List.range_succ]
theorem num_2 (v : Nat) : num 2 v = [v % 256, v / 256 % 256] := by simp [num, List.range_succ]
theorem num_4 (v : Nat) : num 4 v = [v % 256, v / 256 % 256, v / 65536 % 256, v / 16777216 % 256] := by simp [num, List.range_succ]
def zpad (c : Nat) (l : List Nat) : List Nat := l ++ List.replicate (c - l.length) 0
theorem zpad_len {c : Nat} {l : List Nat} (h : l.length ≤ c) : (zpad c l).length = c := by simp [zpad]; omega
theorem zpad_lt {c : Nat} {l : List Nat} (h : ∀ x ∈ l, x < 256) : ∀ x ∈ zpad c l, x < 256 := fun x hx => by
  rcases List.mem_append.1 hx with h1 | h1
  · exact h x h1
  · rw [(List.mem_replicate.1 h1).2]; decide
def wL (n : Int) : List Nat := num 2 (n + 1000).toNat
def wI (n : Int) : List Nat := num 1 n.toNat
def wF (f : Fi) : List Nat := num 1 f.ino.toNat ++ num 2 f.ver.toNat ++ num 1 f.lb.length ++ f.lb.flatMap wL
theorem wL_len (n : Int) : (wL n).length = 2 := num_len _ _
theorem wI_len (n : Int) : (wI n).length = 1 := num_len _ _
structure Sm where
  e : Int
  c : Int
  i : Int
  p : Int
  x : Int
  fs : List Fi
  is : List Int
def chkM (m : Sm) : Int := chkC m.e m.c m.i m.p m.x m.fs m.is
def wds (m : Sm) (s : Nat) : List Nat := num 1 m.i.toNat ++ num 1 m.p.toNat ++ num 2 m.x.toNat ++ num 1 m.fs.length ++ num 1 m.is.length ++ num 4 s ++ m.fs.flatMap wF ++ m.is.flatMap wI
theorem flat_len {α : Type} (g : α → List Nat) (k : Nat) (hg : ∀ a, (g a).length = k) (l : List α) : (l.flatMap g).length = k * l.length := by
  induction l with
  | nil => simp
  | cons a l ih => rw [List.flatMap_cons, List.length_append, ih, hg, List.length_cons]; rw [Nat.mul_add]; omega
theorem wF_len (f : Fi) : (wF f).length = 4 + 2 * f.lb.length := by
  unfold wF
  simp only [List.length_append, num_len, flat_len wL 2 (fun a => num_len _ _)]
theorem flat_szF (l : List Fi) : (l.flatMap wF).length = szF l := by
  induction l with
  | nil => rfl
  | cons a l ih => rw [List.flatMap_cons, List.length_append, ih, wF_len]; simp [szF]
theorem wds_len (m : Sm) (s : Nat) : (wds m s).length = 10 + szF m.fs + m.is.length := by
  unfold wds
  simp only [List.length_append, num_len, flat_szF, flat_len wI 1 (fun a => num_len _ _)]
  omega
theorem flat_lt {α : Type} (g : α → List Nat) (hg : ∀ a, ∀ x ∈ g a, x < 256) (l : List α) : ∀ x ∈ l.flatMap g, x < 256 := fun x hx => by
  obtain ⟨a, _, h⟩ := List.mem_flatMap.1 hx
  exact hg a x h
theorem app_lt {a b : List Nat} (ha : ∀ x ∈ a, x < 256) (hb : ∀ x ∈ b, x < 256) : ∀ x ∈ a ++ b, x < 256 := fun x hx => (List.mem_append.1 hx).elim (ha x) (hb x)
theorem wF_lt (f : Fi) : ∀ x ∈ wF f, x < 256 := app_lt (app_lt (app_lt (num_lt _ _) (num_lt _ _)) (num_lt _ _)) (flat_lt wL (fun _ => num_lt _ _) _)
theorem wds_lt (m : Sm) (s : Nat) : ∀ x ∈ wds m s, x < 256 :=
  app_lt (app_lt (app_lt (app_lt (app_lt (app_lt (app_lt (num_lt _ _) (num_lt _ _)) (num_lt _ _)) (num_lt _ _)) (num_lt _ _)) (num_lt _ _)) (flat_lt wF wF_lt _)) (flat_lt wI (fun _ => num_lt _ _) _)
def secM (e c : Int) (w : List Nat) (k : Nat) : List Nat := num 2 e.toNat ++ num 2 c.toNat ++ num 1 k ++ (w.drop (11 * k)).take 11
def secs (e c : Int) (w : List Nat) (n : Nat) : List Nat := (List.range n).flatMap (secM e c w)
def encM (m : Sm) (s : Nat) : List Nat := secs m.e m.c (zpad 88 (wds m s)) 8
theorem secM_len (e c : Int) {w : List Nat} (hw : w.length = 88) {k : Nat} (hk : k < 8) : (secM e c w k).length = 16 := by
  simp only [secM, List.length_append, num_len, List.length_take, List.length_drop, hw]; omega
theorem secs_succ (e c : Int) (w : List Nat) (n : Nat) : secs e c w (n + 1) = secs e c w n ++ secM e c w n := by simp [secs, List.range_succ]
theorem secs_len (e c : Int) {w : List Nat} (hw : w.length = 88) : ∀ n, n ≤ 8 → (secs e c w n).length = 16 * n
  | 0, _ => rfl
  | n + 1, h => by rw [secs_succ, List.length_append, secs_len e c hw n (by omega), secM_len e c hw (by omega)]; omega
theorem secs_lt (e c : Int) {w : List Nat} (hw : ∀ x ∈ w, x < 256) (n : Nat) : ∀ x ∈ secs e c w n, x < 256 := fun x hx => by
  obtain ⟨a, _, h⟩ := List.mem_flatMap.1 hx
  exact app_lt (app_lt (app_lt (num_lt _ _) (num_lt _ _)) (num_lt _ _)) (fun y hy => hw y (List.mem_of_mem_drop (List.mem_of_mem_take hy))) x h
theorem secs_at (e c : Int) {w : List Nat} (hw : w.length = 88) (k : Nat) : ∀ n, n ≤ 8 → k < n → ((secs e c w n).drop (16 * k)).take 16 = secM e c w k
  | 0, _, h => by omega
  | n + 1, hn, hk => by
    have hl := secs_len e c hw n (by omega)
    rw [secs_succ]
    by_cases hkn : k = n
    · subst hkn
      rw [List.drop_append_of_le_length (by omega), List.drop_of_length_le (by omega), List.nil_append, List.take_of_length_le (by rw [secM_len e c hw (by omega)]; exact Nat.le_refl _)]
    · rw [List.drop_append_of_le_length (by omega), List.take_append_of_le_length (by rw [List.length_drop]; omega)]
      exact secs_at e c hw k n (by omega) (by omega)
/-! ### Back -/
def at' (l : List Nat) (i : Nat) : Nat := l.getD i 0
theorem at_drop (l : List Nat) (o i : Nat) : at' (l.drop o) i = at' l (o + i) := by simp [at', List.getD_eq_getElem?_getD]
theorem at_left {a b : List Nat} {i : Nat} (h : i < a.length) : at' (a ++ b) i = at' a i := by simp [at', List.getD_eq_getElem?_getD, List.getElem?_append_left h]
theorem at_right {a b : List Nat} {i : Nat} : at' (a ++ b) (a.length + i) = at' b i := by
  simp only [at', List.getD_eq_getElem?_getD]
  rw [List.getElem?_append_right (by omega), Nat.add_sub_cancel_left]
theorem at_lt {l : List Nat} (h : ∀ x ∈ l, x < 256) (i : Nat) : at' l i < 256 := getD_byte h i
theorem at_cons0 (a : Nat) (l : List Nat) : at' (a :: l) 0 = a := rfl
theorem at_consS (a : Nat) (l : List Nat) (i : Nat) : at' (a :: l) (i + 1) = at' l i := rfl
def v2 (l : List Nat) (o : Nat) : Nat := at' l o + 256 * at' l (o + 1)
theorem v2_drop (l : List Nat) (o i : Nat) : v2 (l.drop o) i = v2 l (o + i) := by simp only [v2, at_drop, Nat.add_assoc]
theorem v2_num (v : Nat) (h : v < 65536) (r : List Nat) : v2 (num 2 v ++ r) 0 = v := by
  rw [num_2]; simp only [v2, List.cons_append, at_cons0, at_consS]; omega
def lbAt (w : List Nat) (o n : Nat) : List Int := (List.range n).map fun j => ((v2 w (o + 2 * j) : Nat) : Int) - 1000
def fiAt (w : List Nat) (o : Nat) : Fi := ⟨(at' w o : Nat), (v2 w (o + 1) : Nat), lbAt w (o + 4) (at' w (o + 3))⟩
def nxt (w : List Nat) (o : Nat) : Nat := o + 4 + 2 * at' w (o + 3)
def pos (w : List Nat) : Nat → Nat
  | 0 => 10
  | k + 1 => nxt w (pos w k)
def filesM (w : List Nat) (n : Nat) : List Fi := (List.range n).map fun k => fiAt w (pos w k)
def inosM (w : List Nat) (o n : Nat) : List Int := (List.range n).map fun j => ((at' w (o + j) : Nat) : Int)
def sumM (w : List Nat) : Nat := at' w 6 + 256 * at' w 7 + 65536 * at' w 8 + 16777216 * at' w 9
def gat (b : List Nat) (n : Nat) : List Nat := (List.range n).flatMap fun k => (b.drop (16 * k + 5)).take 11
def parM (w : List Nat) (e c : Int) : Sm := ⟨e, c, (at' w 0 : Nat), (at' w 1 : Nat), (v2 w 2 : Nat), filesM w (at' w 4), inosM w (pos w (at' w 4)) (at' w 5)⟩
def decM (b : List Nat) : Sm := parM (gat b 8) (v2 b 0 : Nat) (v2 b 2 : Nat)
/-- Is it a summary's block? -/
def okB (b : List Nat) : Bool := decide (b.length = 128) && (decide (chkM (decM b) = 0) && decide (encM (decM b) (sumM (gat b 8)) = b))
theorem num_at1 {v : Nat} (h : v < 256) (r : List Nat) : at' (num 1 v ++ r) 0 = v := by rw [num_1]; simp only [List.cons_append, at_cons0]; omega
theorem lb_back : ∀ (l : List Int) (r : List Nat), (∀ n ∈ l, 0 ≤ n + 1000 ∧ n + 1000 < 65536) → lbAt (l.flatMap wL ++ r) 0 l.length = l
  | [], _, _ => rfl
  | n :: l, r, h => by
    have h0 := h n (List.mem_cons_self ..)
    unfold lbAt
    rw [List.length_cons, List.range_succ_eq_map, List.map_cons, List.map_map]
    have hw : (n :: l).flatMap wL ++ r = wL n ++ (l.flatMap wL ++ r) := by rw [List.flatMap_cons, List.append_assoc]
    have e1 : v2 ((n :: l).flatMap wL ++ r) (0 + 2 * 0) = (n + 1000).toNat := by
      rw [hw]
      exact v2_num _ (by omega) _
    rw [e1]
    congr 1
    · omega
    · have := lb_back l r (fun x hx => h x (List.mem_cons_of_mem _ hx))
      conv => rhs; rw [← this]
      unfold lbAt
      refine List.map_congr_left fun j _ => ?_
      have e2 : v2 ((n :: l).flatMap wL ++ r) (0 + 2 * (j + 1)) = v2 (l.flatMap wL ++ r) (0 + 2 * j) := by
        rw [hw, show 0 + 2 * (j + 1) = 2 + (0 + 2 * j) by omega, ← v2_drop, List.drop_left' (wL_len _)]
      show ((v2 _ (0 + 2 * (j + 1)) : Nat) : Int) - 1000 = _
      rw [e2]
theorem ino_back : ∀ (l : List Int) (r : List Nat), (∀ n ∈ l, 0 ≤ n ∧ n < 256) → inosM (l.flatMap wI ++ r) 0 l.length = l
  | [], _, _ => rfl
  | n :: l, r, h => by
    have h0 := h n (List.mem_cons_self ..)
    unfold inosM
    rw [List.length_cons, List.range_succ_eq_map, List.map_cons, List.map_map]
    have hw : (n :: l).flatMap wI ++ r = wI n ++ (l.flatMap wI ++ r) := by rw [List.flatMap_cons, List.append_assoc]
    have e1 : at' ((n :: l).flatMap wI ++ r) (0 + 0) = n.toNat := by
      rw [hw]
      exact num_at1 (by omega) _
    rw [e1]
    congr 1
    · omega
    · have := ino_back l r (fun x hx => h x (List.mem_cons_of_mem _ hx))
      conv => rhs; rw [← this]
      unfold inosM
      refine List.map_congr_left fun j _ => ?_
      have e2 : at' ((n :: l).flatMap wI ++ r) (0 + (j + 1)) = at' (l.flatMap wI ++ r) (0 + j) := by
        rw [hw, show 0 + (j + 1) = 1 + (0 + j) by omega, ← at_drop, List.drop_left' (wI_len _)]
      show ((at' _ (0 + (j + 1)) : Nat) : Int) = _
      rw [e2]
theorem lbAt_drop (w : List Nat) (o i n : Nat) : lbAt (w.drop o) i n = lbAt w (o + i) n := by
  unfold lbAt
  refine List.map_congr_left fun j _ => ?_
  rw [v2_drop, Nat.add_assoc]
theorem inosM_drop (w : List Nat) (o i n : Nat) : inosM (w.drop o) i n = inosM w (o + i) n := by
  unfold inosM
  refine List.map_congr_left fun j _ => ?_
  rw [at_drop, Nat.add_assoc]
theorem fiAt_drop (w : List Nat) (o : Nat) : fiAt (w.drop o) 0 = fiAt w o := by
  unfold fiAt
  rw [at_drop, v2_drop, at_drop, lbAt_drop]
  simp only [Nat.add_zero, Nat.zero_add]
def goodF (f : Fi) : Prop := 0 ≤ f.ino ∧ f.ino < 256 ∧ 0 ≤ f.ver ∧ f.ver < 65536 ∧ f.lb.length < 256 ∧ ∀ n ∈ f.lb, 0 ≤ n + 1000 ∧ n + 1000 < 65536
theorem wF_app (f : Fi) (r : List Nat) : wF f ++ r = num 1 f.ino.toNat ++ (num 2 f.ver.toNat ++ (num 1 f.lb.length ++ (f.lb.flatMap wL ++ r))) := by simp only [wF, List.append_assoc]
theorem wF_d1 (f : Fi) (r : List Nat) : (wF f ++ r).drop 1 = num 2 f.ver.toNat ++ (num 1 f.lb.length ++ (f.lb.flatMap wL ++ r)) := by
  rw [wF_app, List.drop_left' (num_len _ _)]
theorem wF_d3 (f : Fi) (r : List Nat) : (wF f ++ r).drop 3 = num 1 f.lb.length ++ (f.lb.flatMap wL ++ r) := by
  rw [show 3 = 1 + 2 by rfl, ← List.drop_drop, wF_d1, List.drop_left' (num_len _ _)]
theorem wF_d4 (f : Fi) (r : List Nat) : (wF f ++ r).drop 4 = f.lb.flatMap wL ++ r := by
  rw [show 4 = 3 + 1 by rfl, ← List.drop_drop, wF_d3, List.drop_left' (num_len _ _)]
theorem wF_n (f : Fi) (r : List Nat) (h : f.lb.length < 256) : at' (wF f ++ r) 3 = f.lb.length := by
  have := num_at1 h (f.lb.flatMap wL ++ r)
  rw [← wF_d3, at_drop] at this
  exact this
theorem fi_back (f : Fi) (r : List Nat) (h : goodF f) : fiAt (wF f ++ r) 0 = f := by
  obtain ⟨h1, h2, h3, h4, h5, h6⟩ := h
  have a0 : at' (wF f ++ r) 0 = f.ino.toNat := by rw [wF_app]; exact num_at1 (by omega) _
  have a1 : v2 (wF f ++ r) (0 + 1) = f.ver.toNat := by
    have := v2_num f.ver.toNat (by omega) (num 1 f.lb.length ++ (f.lb.flatMap wL ++ r))
    rw [← wF_d1, v2_drop] at this
    exact this
  have a2 : lbAt (wF f ++ r) (0 + 4) f.lb.length = f.lb := by
    have := lb_back f.lb r h6
    rw [← wF_d4, lbAt_drop] at this
    exact this
  unfold fiAt
  rw [a0, a1, show 0 + 3 = 3 by rfl, wF_n f r h5, a2]
  cases f
  simp only [Fi.mk.injEq, and_true]
  simp only at h1 h3
  omega
theorem wds_app (m : Sm) (s : Nat) (c : Nat) : zpad c (wds m s) = (m.i.toNat % 256) :: (m.p.toNat % 256) :: (m.x.toNat % 256) :: (m.x.toNat / 256 % 256) :: (m.fs.length % 256) :: (m.is.length % 256) :: (s % 256) :: (s / 256 % 256) :: (s / 65536 % 256) :: (s / 16777216 % 256) ::
    (m.fs.flatMap wF ++ (m.is.flatMap wI ++ List.replicate (c - (wds m s).length) 0)) := by
  unfold zpad
  generalize List.replicate (c - (wds m s).length) 0 = z
  unfold wds
  rw [num_1, num_1, num_2, num_1, num_1, num_4]
  simp
theorem flat_pos {w : List Nat} {l : List Fi} {r : List Nat} (hw : w.drop 10 = l.flatMap wF ++ r) (hg : ∀ f ∈ l, goodF f) : ∀ k, k ≤ l.length → pos w k = 10 + szF (l.take k) ∧ w.drop (pos w k) = (l.drop k).flatMap wF ++ r
  | 0, _ => ⟨rfl, hw⟩
  | k + 1, h => by
    obtain ⟨i1, i2⟩ := flat_pos hw hg k (by omega)
    have hk : k < l.length := h
    have e1 : l.drop k = l[k] :: l.drop (k + 1) := by rw [List.drop_eq_getElem_cons hk]
    rw [e1, List.flatMap_cons, List.append_assoc] at i2
    have hg' := hg _ (List.getElem_mem hk)
    have e2 : at' w (pos w k + 3) = l[k].lb.length := by
      have := wF_n l[k] ((l.drop (k + 1)).flatMap wF ++ r) hg'.2.2.2.2.1
      rw [← i2, at_drop] at this
      exact this
    have e3 : pos w (k + 1) = pos w k + (4 + 2 * l[k].lb.length) := by
      show nxt w (pos w k) = _
      unfold nxt
      rw [e2]; omega
    refine ⟨?_, ?_⟩
    · rw [e3, i1, take_snocF l fi0 k hk, szF_snoc]
      have : l.getD k fi0 = l[k] := by simp [List.getD_eq_getElem?_getD, hk]
      rw [this]; omega
    · rw [e3, ← List.drop_drop, i2, List.drop_left' (wF_len _)]
theorem files_back {w : List Nat} {l : List Fi} {r : List Nat} (hw : w.drop 10 = l.flatMap wF ++ r) (hg : ∀ f ∈ l, goodF f) : filesM w l.length = l := by
  apply List.ext_getElem
  · simp [filesM]
  · intro k h1 h2
    obtain ⟨i1, i2⟩ := flat_pos hw hg k (by omega)
    have e1 : l.drop k = l[k] :: l.drop (k + 1) := by rw [List.drop_eq_getElem_cons h2]
    rw [e1, List.flatMap_cons, List.append_assoc] at i2
    have := fi_back l[k] ((l.drop (k + 1)).flatMap wF ++ r) (hg _ (List.getElem_mem h2))
    rw [← i2, fiAt_drop] at this
    simpa [filesM] using this
theorem inos_back {w : List Nat} {l : List Fi} {is : List Int} {z : List Nat} (hw : w.drop 10 = l.flatMap wF ++ (is.flatMap wI ++ z)) (hg : ∀ f ∈ l, goodF f) (hi : ∀ n ∈ is, 0 ≤ n ∧ n < 256) : inosM w (pos w l.length) is.length = is := by
  obtain ⟨_, i2⟩ := flat_pos hw hg l.length (Nat.le_refl _)
  rw [List.drop_of_length_le (Nat.le_refl _)] at i2
  have := ino_back is z hi
  rw [show is.flatMap wI ++ z = w.drop (pos w l.length) by rw [i2]; rfl, inosM_drop] at this
  exact this
structure Good (m : Sm) : Prop where
  e : 0 ≤ m.e ∧ m.e ≤ 65535
  c : 0 ≤ m.c ∧ m.c ≤ 65535
  p : 1 ≤ m.p ∧ m.p ≤ 64
  i : 0 ≤ m.i ∧ m.i < m.p
  x : 0 ≤ m.x ∧ m.x ≤ 4095
  fs : ∀ f ∈ m.fs, badF f = false
  is : ∀ n ∈ m.is, badI n = false
  size : 10 + m.is.length + szF m.fs ≤ 88
theorem good_of {m : Sm} (h : chkM m = 0) : Good m := by
  unfold chkM chkC at h
  split at h
  · cases h
  · rename_i h1
    split at h
    · cases h
    · rename_i h2
      split at h
      · cases h
      · rename_i h3
        split at h
        · cases h
        · rename_i h4
          split at h
          · cases h
          · rename_i h5
            split at h
            · cases h
            · rename_i h6
              simp only [Bool.or_eq_true, not_or, Bool.not_eq_true] at h1 h2 h3 h4 h5
              have a1 := out_yes h1.1
              have a2 := out_yes h1.2
              have a3 := out_yes h2.1
              have a4 := out_yes h2.2
              have a5 := out_yes h3
              refine ⟨a1, a2, a3, ⟨a4.1, by omega⟩, a5, fun f hf => ?_, fun n hn => ?_, by omega⟩
              · exact (List.any_eq_false.1 h4 f hf) |> (by simpa using ·)
              · exact (List.any_eq_false.1 h5 n hn) |> (by simpa using ·)
theorem isB_range {n : Int} (h : isB n = true) : -602 ≤ n ∧ n < 600 := by
  unfold isB startsB at h
  split at h
  · have := of_decide_eq_true h
    omega
  · simp only [Bool.or_eq_true, decide_eq_true_eq] at h
    omega
theorem goodF_of {f : Fi} (h : badF f = false) : goodF f ∧ 1 ≤ f.lb.length ∧ f.lb.length ≤ 30 ∧ 1 ≤ f.ino := by
  unfold badF at h
  simp only [Bool.or_eq_false_iff] at h
  obtain ⟨⟨⟨h1, h2⟩, h3⟩, h4⟩ := h
  have a1 := out_yes h1
  have a2 := out_yes h2
  have a3 := out_yes h3
  refine ⟨⟨by omega, by omega, by omega, by omega, by omega, fun n hn => ?_⟩, by omega, by omega, by omega⟩
  have := List.any_eq_false.1 h4 n hn
  have := isB_range (n := n) (by simpa using this)
  omega
theorem wds_back (m : Sm) (s : Nat) (h : Good m) (hs : s < 4294967296) (e c : Int) (he : e = m.e) (hc : c = m.c) : parM (zpad 88 (wds m s)) e c = m ∧ sumM (zpad 88 (wds m s)) = s := by
  have hw := wds_app m s 88
  generalize zpad 88 (wds m s) = w at *
  have hl : m.fs.length ≤ 22 := by have := len_szF m.fs; have := h.size; omega
  have hi : m.is.length ≤ 78 := by have := h.size; omega
  have hg : ∀ f ∈ m.fs, goodF f := fun f hf => (goodF_of (h.fs f hf)).1
  have hi' : ∀ n ∈ m.is, 0 ≤ n ∧ n < 256 := fun n hn => by have := out_yes (h.is n hn); omega
  have h4 : at' w 4 = m.fs.length := by rw [hw]; show m.fs.length % 256 = _; omega
  have h5 : at' w 5 = m.is.length := by rw [hw]; show m.is.length % 256 = _; omega
  have hd : w.drop 10 = m.fs.flatMap wF ++ (m.is.flatMap wI ++ List.replicate (88 - (wds m s).length) 0) := by rw [hw]; rfl
  have q1 := h.p; have q2 := h.i; have q3 := h.x
  refine ⟨?_, ?_⟩
  · unfold parM
    rw [h4, h5, files_back hd hg, inos_back hd hg hi', he, hc]
    have k0 : at' w 0 = m.i.toNat := by rw [hw]; show m.i.toNat % 256 = _; omega
    have k1 : at' w 1 = m.p.toNat := by rw [hw]; show m.p.toNat % 256 = _; omega
    have k2 : v2 w 2 = m.x.toNat := by rw [hw]; show m.x.toNat % 256 + 256 * (m.x.toNat / 256 % 256) = _; omega
    rw [k0, k1, k2]
    cases m
    simp only [Sm.mk.injEq, true_and, and_true]
    simp only at q1 q2 q3
    omega
  · unfold sumM
    rw [hw]
    show s % 256 + 256 * (s / 256 % 256) + 65536 * (s / 65536 % 256) + 16777216 * (s / 16777216 % 256) = s
    omega
theorem gat_succ (b : List Nat) (n : Nat) : gat b (n + 1) = gat b n ++ (b.drop (16 * n + 5)).take 11 := by simp [gat, List.range_succ]
theorem gat_secs (e c : Int) {w : List Nat} (hw : w.length = 88) : ∀ n, n ≤ 8 → gat (secs e c w 8) n = w.take (11 * n)
  | 0, _ => rfl
  | n + 1, h => by
    have hs := secs_at e c hw n 8 (Nat.le_refl _) (by omega)
    rw [gat_succ, gat_secs e c hw n (by omega)]
    have e1 : ((secs e c w 8).drop (16 * n + 5)).take 11 = (w.drop (11 * n)).take 11 := by
      rw [← List.drop_drop]
      have : (((secs e c w 8).drop (16 * n)).drop 5).take 11 = (secM e c w n).drop 5 := by rw [← hs, List.drop_take]
      rw [this]
      unfold secM
      rw [List.drop_left' (by simp only [List.length_append, num_len])]
    rw [e1, ← List.take_add, show 11 * n + 11 = 11 * (n + 1) by omega]
theorem encM_len (m : Sm) (s : Nat) (h : Good m) : (encM m s).length = 128 := secs_len _ _ (zpad_len (by rw [wds_len]; have := h.size; omega)) 8 (Nat.le_refl _)
theorem encM_lt (m : Sm) (s : Nat) : ∀ x ∈ encM m s, x < 256 := secs_lt _ _ (zpad_lt (wds_lt m s)) 8
theorem sec_head (e c : Int) (w : List Nat) (k : Nat) (r : List Nat) (he : 0 ≤ e ∧ e ≤ 65535) (hc : 0 ≤ c ∧ c ≤ 65535) : ((v2 (secM e c w k ++ r) 0 : Nat) : Int) = e ∧ ((v2 (secM e c w k ++ r) 2 : Nat) : Int) = c := by
  have e1 : secM e c w k ++ r = num 2 e.toNat ++ (num 2 c.toNat ++ (num 1 k ++ (w.drop (11 * k)).take 11 ++ r)) := by simp only [secM, List.append_assoc]
  rw [e1]
  refine ⟨by rw [v2_num _ (by omega)]; omega, ?_⟩
  rw [show 2 = 2 + 0 by rfl, ← v2_drop, List.drop_left' (num_len _ _), v2_num _ (by omega)]; omega
theorem enc_back (m : Sm) (s : Nat) (h : Good m) (hs : s < 4294967296) : decM (encM m s) = m ∧ gat (encM m s) 8 = zpad 88 (wds m s) ∧ sumM (gat (encM m s) 8) = s := by
  have hw : (zpad 88 (wds m s)).length = 88 := zpad_len (by rw [wds_len]; have := h.size; omega)
  have hg : gat (encM m s) 8 = zpad 88 (wds m s) := by
    unfold encM
    rw [gat_secs _ _ hw 8 (Nat.le_refl _), List.take_of_length_le (by omega)]
  have hh : encM m s = secM m.e m.c (zpad 88 (wds m s)) 0 ++ (encM m s).drop 16 := by
    have := secs_at m.e m.c hw 0 8 (Nat.le_refl _) (by omega)
    rw [← this]
    show encM m s = (encM m s).take 16 ++ _
    rw [List.take_append_drop]
  have hv := sec_head m.e m.c (zpad 88 (wds m s)) 0 ((encM m s).drop 16) h.e h.c
  rw [← hh] at hv
  have hb := wds_back m s h hs m.e m.c rfl rfl
  refine ⟨?_, hg, by rw [hg]; exact hb.2⟩
  unfold decM
  rw [hv.1, hv.2, hg]
  exact hb.1
theorem ok_enc (m : Sm) (s : Nat) (h : chkM m = 0) (hs : s < 4294967296) : okB (encM m s) = true := by
  have hg := good_of h
  obtain ⟨h1, h2, h3⟩ := enc_back m s hg hs
  unfold okB
  rw [h1, h3, encM_len m s hg, h]
  simp
end Go.Proofs.Ytkdjfhbdcfjnnaa
