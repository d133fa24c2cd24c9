/-
  Pack: what is written, item by item; the pieces, told by functions of their places.
-/
import Derived.Test.YtonlhkhjdnaojaaMem
namespace Go.Proofs.Ytonlhkhjdnaojaa
open Go.RowKit

def upd {α : Type} (f : Nat → α) (i : Nat) (x : α) : Nat → α := fun j => if j = i then x else f j
theorem upd_at {α : Type} (f : Nat → α) (i : Nat) (x : α) : upd f i x i = x := if_pos rfl
theorem upd_ne {α : Type} (f : Nat → α) (i : Nat) (x : α) {j : Nat} (h : j ≠ i) : upd f i x j = f j := if_neg h
/-- An item: of file f - 1, or (f = 0) an inode. -/
structure It where
  f : Nat
  n : Int
/-- A piece's files and inodes: li 0 the inodes, li (k + 1) the k-th file's blocks, fi k its number. -/
structure Pz where
  nf : Nat
  fi : Nat → Nat
  li : Nat → List Int
/-- A piece, gone through item by item. -/
structure Bs where
  z : Pz
  n : Nat
  last : Nat
  wd : Nat
  sm : Nat
def z0 : Pz := ⟨0, fun _ => 0, fun _ => []⟩
def bs0 : Bs := ⟨z0, 0, 0, 10, 0⟩
def zAdd (z : Pz) (k : Nat) (x : Int) : Pz := ⟨z.nf, z.fi, upd z.li k (z.li k ++ [x])⟩
def zNew (z : Pz) (f : Nat) : Pz := ⟨z.nf + 1, upd z.fi z.nf f, upd z.li (z.nf + 1) []⟩
def bstep (s : Bs) (x : It) : Bs :=
  if x.f = 0 then ⟨zAdd s.z 0 x.n, s.n + 1, 0, s.wd + 1, s.sm⟩
  else if s.last = x.f then ⟨zAdd s.z s.z.nf x.n, s.n + 1, x.f, s.wd + 2, s.sm + 1⟩
  else ⟨zAdd (zNew s.z x.f) (s.z.nf + 1) x.n, s.n + 1, x.f, s.wd + 6, 1⟩
def bs (l : List It) : Bs := l.foldl bstep bs0
theorem bs_snoc (l : List It) (x : It) : bs (l ++ [x]) = bstep (bs l) x := by simp [bs, List.foldl_append]
theorem snoc_ind {α : Type} {p : List α → Prop} (h0 : p []) (h1 : ∀ l x, p l → p (l ++ [x])) (l : List α) : p l := by
  have : ∀ k (l : List α), l.length = k → p l := by
    intro k
    induction k with
    | zero => intro l hl; rw [List.eq_nil_of_length_eq_zero hl]; exact h0
    | succ k ih =>
      intro l hl
      have hne : l ≠ [] := fun e => by rw [e] at hl; cases hl
      rw [← List.dropLast_concat_getLast hne]
      exact h1 _ _ (ih _ (by simp [hl]))
  exact this _ l rfl
structure BsOk (s : Bs) : Prop where
  wd : 10 + s.n ≤ s.wd
  cur : s.last ≠ 0 → 0 < s.z.nf ∧ s.sm = (s.z.li s.z.nf).length ∧ 0 < s.sm
  nf : s.z.nf ≤ s.n
  li : ∀ k, (s.z.li k).length ≤ s.n
theorem bstep_n (s : Bs) (x : It) : (bstep s x).n = s.n + 1 := by
  unfold bstep
  split
  · rfl
  · split <;> rfl
theorem bstep_ok {s : Bs} (h : BsOk s) (x : It) : BsOk (bstep s x) := by
  have h1 := h.wd
  have h3 := h.nf
  unfold bstep
  split
  · refine ⟨by show 10 + (s.n + 1) ≤ s.wd + 1; omega, fun e => absurd rfl e, by show s.z.nf ≤ s.n + 1; omega, fun k => ?_⟩
    show (upd s.z.li 0 (s.z.li 0 ++ [x.n]) k).length ≤ s.n + 1
    have := h.li k
    by_cases e : k = 0
    · subst e; rw [upd_at, List.length_append, List.length_singleton]; omega
    · rw [upd_ne _ _ _ e]; omega
  · split
    · next hx hl =>
      have hc := h.cur (by rw [hl]; exact hx)
      refine ⟨by show 10 + (s.n + 1) ≤ s.wd + 2; omega, fun _ => ⟨hc.1, ?_, Nat.succ_pos _⟩, by show s.z.nf ≤ s.n + 1; omega, fun k => ?_⟩
      · show s.sm + 1 = (upd s.z.li s.z.nf (s.z.li s.z.nf ++ [x.n]) s.z.nf).length
        rw [upd_at, List.length_append, List.length_singleton, hc.2.1]
      · show (upd s.z.li s.z.nf (s.z.li s.z.nf ++ [x.n]) k).length ≤ s.n + 1
        have := h.li k
        by_cases e : k = s.z.nf
        · subst e; rw [upd_at, List.length_append, List.length_singleton]; omega
        · rw [upd_ne _ _ _ e]; omega
    · refine ⟨by show 10 + (s.n + 1) ≤ s.wd + 6; omega, fun _ => ⟨Nat.succ_pos _, ?_, Nat.one_pos⟩, by show s.z.nf + 1 ≤ s.n + 1; omega, fun k => ?_⟩
      · show 1 = (upd (upd s.z.li (s.z.nf + 1) []) (s.z.nf + 1) (upd s.z.li (s.z.nf + 1) [] (s.z.nf + 1) ++ [x.n]) (s.z.nf + 1)).length
        rw [upd_at, upd_at]; rfl
      · show (upd (upd s.z.li (s.z.nf + 1) []) (s.z.nf + 1) (upd s.z.li (s.z.nf + 1) [] (s.z.nf + 1) ++ [x.n]) k).length ≤ s.n + 1
        have := h.li k
        by_cases e : k = s.z.nf + 1
        · subst e; rw [upd_at, upd_at]; simp
        · rw [upd_ne _ _ _ e, upd_ne _ _ _ e]; omega
theorem bs_ok (l : List It) : BsOk (bs l) := by
  refine snoc_ind (p := fun l => BsOk (bs l)) ?_ (fun l x h => ?_) l
  · exact ⟨by decide, fun e => absurd rfl e, Nat.le_refl _, fun _ => Nat.zero_le _⟩
  · rw [bs_snoc]; exact bstep_ok h x
theorem bs_n (l : List It) : (bs l).n = l.length := by
  refine snoc_ind (p := fun l => (bs l).n = l.length) rfl (fun l x h => ?_) l
  rw [bs_snoc, bstep_n, h, List.length_append]; rfl
/-! The pieces. -/
structure Pl where
  N : Nat
  nw : Nat → Bool
  it : Nat → List It
  left : Int
def fitsB (s : Bs) (x : It) (left : Int) : Bool :=
  decide ((s.n : Int) + 3 ≤ left) && (if x.f = 0 then decide (s.wd + 1 ≤ 88) else if s.last = x.f then decide (s.sm < 30) && decide (s.wd + 2 ≤ 88) else decide (s.wd + 6 ≤ 88))
def left1 (s : Pl) : Int := if s.N = 0 then s.left else s.left - (2 + (s.it (s.N - 1)).length)
def pNext (sz : Int) (s : Pl) (l : List It) : Pl := ⟨s.N + 1, upd s.nw s.N (decide (left1 s < 3)), upd s.it s.N l, if left1 s < 3 then sz else left1 s⟩
def pPut (s : Pl) (x : It) : Pl := ⟨s.N, s.nw, upd s.it (s.N - 1) (s.it (s.N - 1) ++ [x]), s.left⟩
def fitsP (s : Pl) (x : It) : Bool := decide (0 < s.N) && fitsB (bs (s.it (s.N - 1))) x s.left
def pstep (sz : Int) (s : Pl) (x : It) : Pl := if fitsP s x = true then pPut s x else pNext sz s [x]
def runP (sz : Int) : Pl → List It → Option Pl
  | s, [] => some s
  | s, x :: r => if (pstep sz s x).N ≤ 64 then runP sz (pstep sz s x) r else none
theorem runP_append (sz : Int) : ∀ (l m : List It) (s : Pl), runP sz s (l ++ m) = (runP sz s l).bind fun s' => runP sz s' m
  | [], _, _ => rfl
  | x :: l, m, s => by
    rw [List.cons_append, runP, runP]
    split
    · exact runP_append sz l m _
    · rfl
def p0 (left : Int) : Pl := ⟨0, fun _ => false, fun _ => [], left⟩
structure PlOk (sz : Int) (s : Pl) : Prop where
  sz1 : 8 ≤ sz
  sz2 : sz ≤ 64
  lf1 : 0 ≤ s.left
  lf2 : s.left ≤ sz
  n : s.N ≤ 64
  cur : 0 < s.N → ((s.it (s.N - 1)).length : Int) + 2 ≤ s.left ∧ (bs (s.it (s.N - 1))).wd ≤ 88 ∧ 0 < (s.it (s.N - 1)).length ∧ (bs (s.it (s.N - 1))).sm ≤ 30
theorem pNext_cur (sz : Int) (s : Pl) (l : List It) : (pNext sz s l).it ((pNext sz s l).N - 1) = l := by
  show upd s.it s.N l (s.N + 1 - 1) = l
  rw [Nat.add_sub_cancel, upd_at]
theorem pPut_cur (s : Pl) (x : It) : (pPut s x).it ((pPut s x).N - 1) = s.it (s.N - 1) ++ [x] := upd_at _ _ _
theorem left1_bd {sz : Int} {s : Pl} (h : PlOk sz s) : 0 ≤ left1 s ∧ left1 s ≤ sz := by
  have h1 := h.lf1
  have h2 := h.lf2
  unfold left1
  split
  · exact ⟨h1, h2⟩
  · have := (h.cur (by omega)).1
    omega
theorem one_wd (x : It) : (bs [x]).wd ≤ 16 := by
  show (bstep bs0 x).wd ≤ 16
  unfold bstep
  split
  · show 10 + 1 ≤ 16; omega
  · split
    · show 10 + 2 ≤ 16; omega
    · show 10 + 6 ≤ 16; omega
theorem one_sm (x : It) : (bs [x]).sm ≤ 30 := by
  show (bstep bs0 x).sm ≤ 30
  unfold bstep
  split
  · show 0 ≤ 30; omega
  · split
    · show 0 + 1 ≤ 30; omega
    · show 1 ≤ 30; omega
theorem pstep_ok {sz : Int} {s : Pl} (h : PlOk sz s) (x : It) (hn : (pstep sz s x).N ≤ 64) : PlOk sz (pstep sz s x) := by
  have h1 := h.lf1
  have h2 := h.lf2
  have h3 := h.sz1
  unfold pstep at hn ⊢
  split
  · next hf =>
    unfold fitsP fitsB at hf
    simp only [Bool.and_eq_true, decide_eq_true_eq] at hf
    refine ⟨h.sz1, h.sz2, h1, h2, h.n, fun _ => ?_⟩
    rw [pPut_cur, bs_snoc, List.length_append, List.length_singleton]
    have hb := bs_n (s.it (s.N - 1))
    have hsm := (h.cur hf.1).2.2.2
    have hw := hf.2.2
    refine ⟨by have := hf.2.1; rw [hb] at this; show _ ≤ s.left; omega, ?_, Nat.succ_pos _, ?_⟩
    · unfold bstep
      split
      · next hx => rw [if_pos hx] at hw; simpa using hw
      · next hx =>
        rw [if_neg hx] at hw
        split
        · next hl => rw [if_pos hl] at hw; simp only [Bool.and_eq_true, decide_eq_true_eq] at hw; exact hw.2
        · next hl => rw [if_neg hl] at hw; simpa using hw
    · unfold bstep
      split
      · exact hsm
      · next hx =>
        rw [if_neg hx] at hw
        split
        · next hl => rw [if_pos hl] at hw; simp only [Bool.and_eq_true, decide_eq_true_eq] at hw; exact hw.1
        · show 1 ≤ 30; omega
  · next hf =>
    rw [if_neg hf] at hn
    have hl := left1_bd h
    have hlf : (pNext sz s [x]).left = if left1 s < 3 then sz else left1 s := rfl
    refine ⟨h.sz1, h.sz2, ?_, ?_, hn, fun _ => ?_⟩
    · rw [hlf]; split <;> omega
    · rw [hlf]; split <;> omega
    · rw [pNext_cur, hlf]
      refine ⟨?_, Nat.le_trans (one_wd x) (by decide), Nat.one_pos, one_sm x⟩
      simp only [List.length_singleton]
      split <;> omega
theorem bstep_last (s : Bs) (x : It) : (bstep s x).last = x.f := by
  unfold bstep
  split
  · next h => exact h.symm
  · split <;> rfl
def lastS (s : Pl) : Nat := (bs (s.it (s.N - 1))).last
theorem pstep_last (sz : Int) (s : Pl) (x : It) : lastS (pstep sz s x) = x.f := by
  unfold pstep lastS
  split
  · rw [pPut_cur, bs_snoc, bstep_last]
  · rw [pNext_cur]; exact bstep_last bs0 x
theorem pstep_pos (sz : Int) (s : Pl) (x : It) : 0 < (pstep sz s x).N := by
  unfold pstep
  split
  · next h => unfold fitsP at h; simp only [Bool.and_eq_true, decide_eq_true_eq] at h; exact h.1
  · exact Nat.succ_pos _
theorem runP_last {sz : Int} : ∀ (l : List It) {s s' : Pl}, runP sz s l = some s' → (lastS s' = lastS s ∨ ∃ x ∈ l, lastS s' = x.f)
  | [], s, s', e => by cases e; exact .inl rfl
  | x :: l, s, s', e => by
    rw [runP] at e
    split at e
    · next hn =>
      rcases runP_last l e with h | ⟨y, hy, h⟩
      · exact .inr ⟨x, List.mem_cons_self, by rw [h, pstep_last]⟩
      · exact .inr ⟨y, List.mem_cons_of_mem _ hy, h⟩
    · cases e
theorem runP_ok {sz : Int} : ∀ (l : List It) {s s' : Pl}, PlOk sz s → runP sz s l = some s' → PlOk sz s'
  | [], s, s', h, e => by cases e; exact h
  | x :: l, s, s', h, e => by
    rw [runP] at e
    split at e
    · next hn => exact runP_ok l (pstep_ok h x hn) e
    · cases e
end Go.Proofs.Ytonlhkhjdnaojaa
