/-
  What the document's Decode of a summary's words tells, in numbers; of a summary's own words it is that summary.
-/
import Derived.Test.YtkdjfhbdcfjnnaaSwMath
namespace Go.Proofs.Ytkdjfhbdcfjnnaa
open Go.RowKit

/-- How many numbers are read, where 88 bytes are all. -/
def cntD (o n : Nat) : Nat := min n ((89 - o) / 2)
def fiD (w : List Nat) (o : Nat) : Fi := ⟨(at' w o : Nat), (v2 w (o + 1) : Nat), lbAt w (o + 4) (cntD (o + 4) (at' w (o + 3)))⟩
def nxtD (w : List Nat) (o : Nat) : Nat := o + 4 + 2 * cntD (o + 4) (at' w (o + 3))
def posD (w : List Nat) : Nat → Nat
  | 0 => 10
  | k + 1 => nxtD w (posD w k)
def filesD (w : List Nat) (n : Nat) : List Fi := (List.range n).map fun k => fiD w (posD w k)
structure DocP (w : List Nat) (k kk : Nat) : Prop where
  le : k ≤ at' w 4
  lt : ∀ i, i < k → posD w i < 88
  stop : k = at' w 4 ∨ 88 ≤ posD w k
  le2 : kk ≤ at' w 5
  lt2 : ∀ j, j < kk → posD w k + j < 88
  stop2 : kk = at' w 5 ∨ 88 ≤ posD w k + kk
/-- What the document reads of 128 bytes. -/
def docM (b : List Nat) (k kk : Nat) : Sm := ⟨(v2 b 0 : Nat), (v2 b 2 : Nat), (at' (gat b 8) 0 : Nat), (at' (gat b 8) 1 : Nat), (v2 (gat b 8) 2 : Nat), filesD (gat b 8) k, inosM (gat b 8) (posD (gat b 8) k) kk⟩
theorem posD_pos {w : List Nat} {l : List Fi} {r : List Nat} (hw : w.drop 10 = l.flatMap wF ++ r) (hg : ∀ f ∈ l, goodF f) (hs : 10 + szF l ≤ 88) : ∀ k, k ≤ l.length → posD w k = pos w k ∧ (k < l.length → fiD w (posD w k) = fiAt w (pos w k) ∧ posD w k < 88)
  | k, hk => by
    have hP : posD w k = pos w k := by
      match k, hk with
      | 0, _ => rfl
      | k + 1, hk =>
        obtain ⟨h1, h2⟩ := posD_pos hw hg hs k (by omega)
        obtain ⟨h3, h4⟩ := h2 (by omega)
        show nxtD w (posD w k) = nxt w (pos w k)
        have := congrArg (fun f => f.lb.length) h3
        simp only [fiD, fiAt, lbAt, List.length_map, List.length_range] at this
        unfold nxtD nxt
        rw [this, h1]
    refine ⟨hP, fun hlt => ?_⟩
    obtain ⟨i1, i2⟩ := flat_pos hw hg k hk
    have e1 : l.drop k = l[k] :: l.drop (k + 1) := by rw [List.drop_eq_getElem_cons hlt]
    have i2' := i2
    rw [e1, List.flatMap_cons, List.append_assoc] at i2'
    have hg' := hg _ (List.getElem_mem hlt)
    have e2 : at' w (pos w k + 3) = l[k].lb.length := by
      have := wF_n l[k] ((l.drop (k + 1)).flatMap wF ++ r) hg'.2.2.2.2.1
      rw [← i2', at_drop] at this
      exact this
    have hsz : szF (l.take k) + (4 + 2 * l[k].lb.length) ≤ szF l := by
      have h5 : l.take (k + 1) = l.take k ++ [l.getD k fi0] := take_snocF l fi0 k hlt
      have h6 : l.getD k fi0 = l[k] := by simp [List.getD_eq_getElem?_getD, hlt]
      have h7 : szF (l.take (k + 1)) = szF (l.take k) + (4 + 2 * l[k].lb.length) := by rw [h5, szF_snoc, h6]
      have h8 : szF l = szF (l.take (k + 1)) + szF (l.drop (k + 1)) := by
        rw [← flat_szF l, ← flat_szF (l.take (k + 1)), ← flat_szF (l.drop (k + 1)), ← List.length_append, ← List.flatMap_append, List.take_append_drop]
      omega
    rw [hP, i1]
    refine ⟨?_, by omega⟩
    rw [← i1]
    have hc : cntD (pos w k + 4) (at' w (pos w k + 3)) = at' w (pos w k + 3) := by
      unfold cntD
      rw [e2, i1]
      omega
    unfold fiD fiAt
    rw [hc]
theorem doc_back (m : Sm) (s : Nat) (h : Good m) {k kk : Nat} (hd : DocP (zpad 88 (wds m s)) k kk) : filesD (zpad 88 (wds m s)) k = m.fs ∧ inosM (zpad 88 (wds m s)) (posD (zpad 88 (wds m s)) k) kk = m.is := by
  have hw := wds_app m s 88
  generalize zpad 88 (wds m s) = w at *
  have hl : m.fs.length ≤ 22 := by have := len_szF m.fs; have := h.size; omega
  have hi : m.is.length ≤ 78 := by have := h.size; omega
  have hg : ∀ f ∈ m.fs, goodF f := fun f hf => (goodF_of (h.fs f hf)).1
  have hi' : ∀ n ∈ m.is, 0 ≤ n ∧ n < 256 := fun n hn => by have := out_yes (h.is n hn); omega
  have h4 : at' w 4 = m.fs.length := by rw [hw]; show m.fs.length % 256 = _; omega
  have h5 : at' w 5 = m.is.length := by rw [hw]; show m.is.length % 256 = _; omega
  have hdr : w.drop 10 = m.fs.flatMap wF ++ (m.is.flatMap wI ++ List.replicate (88 - (wds m s).length) 0) := by rw [hw]; rfl
  have hsz := h.size
  have hP := posD_pos hdr hg (by omega)
  have hk : k = m.fs.length := by
    have := hd.le
    rcases hd.stop with e | e
    · omega
    · by_cases hlt : k < m.fs.length
      · have := ((hP k (by omega)).2 hlt).2; omega
      · omega
  subst hk
  have hpe : posD w m.fs.length = pos w m.fs.length := (hP _ (Nat.le_refl _)).1
  have hpv := (flat_pos hdr hg m.fs.length (Nat.le_refl _)).1
  rw [List.take_of_length_le (Nat.le_refl _)] at hpv
  have hkk : kk = m.is.length := by
    have := hd.le2
    rcases hd.stop2 with e | e
    · omega
    · omega
  subst hkk
  refine ⟨?_, by rw [hpe]; exact inos_back hdr hg hi'⟩
  have : filesD w m.fs.length = filesM w m.fs.length := List.map_congr_left fun i hi => by
    have hi2 := List.mem_range.1 hi
    exact ((hP i (by omega)).2 hi2).1
  rw [this]
  exact files_back hdr hg
/-- Where the bytes are a summary's, the document reads that one; else it refuses. -/
theorem doc_same {b : List Nat} (hb : ∀ x ∈ b, x < 256) (hl : b.length = 128) {k kk : Nat} (hd : DocP (gat b 8) k kk) : (okB b = true ↔ (chkM (docM b k kk) = 0 ∧ encM (docM b k kk) (sumM (gat b 8)) = b)) ∧ (okB b = true → docM b k kk = decM b) := by
  have hs : sumM (gat b 8) < 4294967296 := by
    have hg : ∀ i, at' (gat b 8) i < 256 := fun i => at_lt (fun x hx => by
      obtain ⟨j, _, h1⟩ := List.mem_flatMap.1 hx
      exact hb x (List.mem_of_mem_drop (List.mem_of_mem_take h1))) i
    have := hg 6; have := hg 7; have := hg 8; have := hg 9
    unfold sumM; omega
  have key : okB b = true → docM b k kk = decM b := fun h => by
    unfold okB at h
    simp only [Bool.and_eq_true, decide_eq_true_eq] at h
    obtain ⟨-, h1, h2⟩ := h
    have hG := good_of h1
    have e := enc_back (decM b) (sumM (gat b 8)) hG hs
    rw [h2] at e
    have hd2 := hd
    rw [e.2.1] at hd2
    have hh := doc_back (decM b) _ hG hd2
    rw [← e.2.1] at hh
    unfold docM
    rw [hh.1, hh.2]
    rfl
  refine ⟨⟨fun h => ?_, fun h => ?_⟩, key⟩
  · rw [key h]
    unfold okB at h
    simp only [Bool.and_eq_true, decide_eq_true_eq] at h
    exact h.2
  · have := ok_enc (docM b k kk) _ h.1 hs
    rwa [h.2] at this
end Go.Proofs.Ytkdjfhbdcfjnnaa
