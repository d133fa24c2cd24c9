/-
  Paths in numbers: what stands between slashes.
-/
import Derived.Test.YtkgkjjkefifpaaaNmName
import Derived.Lib.FieldsP
import Derived.Lib.Join
import Derived.Lib.RabinKarpLaws
namespace Go.Proofs.Ytkgkjjkefifpaaa
open Go.RowKit

abbrev ba (l : List UInt8) : ByteArray := ⟨l.toArray⟩
theorem ba_data (l : List UInt8) : (ba l).data.toList = l := by simp [ba]
theorem ba_of (s : ByteArray) : ba s.data.toList = s := by cases s; simp [ba]
theorem ba_inj {l m : List UInt8} (h : ba l = ba m) : l = m := by
  have := congrArg (fun s : ByteArray => s.data.toList) h
  simpa using this
theorem str_ext {s t : ByteArray} (h : s.data.toList = t.data.toList) : s = t := by rw [← ba_of s, ← ba_of t, h]
/-- The texts between slashes (cur: what stands ahead). -/
def toks : List UInt8 → List UInt8 → List (List UInt8)
  | cur, [] => if cur = [] then [] else [cur]
  | cur, c :: l => if c = 47 then (if cur = [] then toks [] l else cur :: toks [] l) else toks (cur ++ [c]) l
theorem toks_run : ∀ (a l cur : List UInt8), (∀ c ∈ a, c ≠ 47) → toks cur (a ++ l) = toks (cur ++ a) l
  | [], l, cur, _ => by simp
  | c :: a, l, cur, h => by
    rw [List.cons_append, toks, if_neg (h c List.mem_cons_self), toks_run a l (cur ++ [c]) (fun x hx => h x (List.mem_cons_of_mem _ hx)), List.append_assoc]; rfl
theorem toks_slash (l : List UInt8) : toks [] (47 :: l) = toks [] l := by rw [toks, if_pos rfl, if_pos rfl]
theorem toks_end {cur : List UInt8} (h : cur ≠ []) (l : List UInt8) : toks cur (47 :: l) = cur :: toks [] l := by rw [toks, if_pos rfl, if_neg h]
theorem toks_nil {cur : List UInt8} (h : cur ≠ []) : toks cur [] = [cur] := by rw [toks, if_neg h]
def piece (L : List UInt8) (a b : Nat) : List UInt8 := (L.drop a).take (b - a)
theorem extract_list (s : ByteArray) (a b : Nat) : (s.extract a b).data.toList = piece s.data.toList a b := by
  have h := Go.Proofs.ext_win s a b
  rw [Lib.toList_data] at h
  exact h
theorem piece_add (L : List UInt8) (a b c : Nat) (h1 : a ≤ b) (h2 : b ≤ c) : piece L a b ++ piece L b c = piece L a c := by
  unfold piece
  rw [show c - a = (b - a) + (c - b) by omega, List.take_add, List.drop_drop, show a + (b - a) = b by omega]
theorem piece_len (L : List UInt8) (a b : Nat) (h : b ≤ L.length) : (piece L a b).length = b - a := by
  unfold piece; rw [List.length_take, List.length_drop]; omega
theorem piece_drop (L : List UInt8) (a b : Nat) (h : a ≤ b) : L.drop a = piece L a b ++ L.drop b := by
  unfold piece
  conv => lhs; rw [← List.take_append_drop (b - a) (L.drop a)]
  rw [List.drop_drop, show a + (b - a) = b by omega]
theorem piece_get (L : List UInt8) (a b j : Nat) (h : j < b - a) : (piece L a b)[j]? = L[a + j]? := by
  unfold piece; rw [List.getElem?_take_of_lt h, List.getElem?_drop]
def openP (L : List UInt8) (st : Option Nat) (pos : Nat) : List UInt8 := match st with | some a => piece L a pos | none => []
theorem open_run (s : ByteArray) (pos K : Nat) (st : Option Nat) (hst : ∀ a, st = some a → a < pos) (hK : pos + K ≤ s.size) (hb : ∀ j, pos ≤ j → j < pos + K → s.get! j ≠ 47) :
    toks (openP s.data.toList st pos) (s.data.toList.drop pos) = toks (openP s.data.toList (some (st.getD pos)) (pos + K)) (s.data.toList.drop (pos + K)) := by
  rw [piece_drop s.data.toList pos (pos + K) (by omega), toks_run]
  · congr 1
    cases st with
    | none => rfl
    | some a => exact piece_add _ _ _ _ (Nat.le_of_lt (hst a rfl)) (by omega)
  · intro c hc
    obtain ⟨j, hj, he⟩ := List.getElem_of_mem hc
    have hl := piece_len s.data.toList pos (pos + K) (by rw [← Lib.size_eq]; exact hK)
    have e2 : (piece s.data.toList pos (pos + K))[j]? = some c := by rw [List.getElem?_eq_getElem hj, he]
    rw [piece_get _ _ _ _ (by omega), byte_at s (pos + j) (by omega)] at e2
    cases e2
    exact hb _ (by omega) (by omega)
theorem drop_at (s : ByteArray) (pos : Nat) (h : pos < s.size) : s.data.toList.drop pos = s.get! pos :: s.data.toList.drop (pos + 1) := by
  have hb := byte_at s pos h
  obtain ⟨hl, he⟩ := List.getElem?_eq_some_iff.1 hb
  rw [List.drop_eq_getElem_cons hl, he]
theorem byte_ne {s : ByteArray} {j : Nat} (h : byteAt s j ≠ 47) : s.get! j ≠ 47 := fun e => h (by unfold byteAt; rw [e]; rfl)
theorem spans_toks (s : ByteArray) : ∀ (f pos : Nat) (st : Option Nat) (acc : List (Nat × Nat)), s.size ≤ pos + f → pos ≤ s.size → (∀ a, st = some a → a < pos) →
    (Lib.closeSpans s (Lib.spansFromP (fun x => x == 47) s f pos st acc)).map (fun p => piece s.data.toList p.1 p.2) = acc.map (fun p => piece s.data.toList p.1 p.2) ++ toks (openP s.data.toList st pos) (s.data.toList.drop pos) := by
  have fin : ∀ (st : Option Nat) (acc : List (Nat × Nat)), (∀ a, st = some a → a < s.size) → (Lib.closeSpans s (acc, st)).map (fun p => piece s.data.toList p.1 p.2) = acc.map (fun p => piece s.data.toList p.1 p.2) ++ toks (openP s.data.toList st s.size) (s.data.toList.drop s.size) := fun st acc hst => by
    rw [List.drop_eq_nil_of_le (by rw [← Lib.size_eq]; exact Nat.le_refl _)]
    cases st with
    | none => simp [Lib.closeSpans, openP, toks]
    | some a =>
      have hl := piece_len s.data.toList a s.size (by rw [← Lib.size_eq]; exact Nat.le_refl _)
      have hne : piece s.data.toList a s.size ≠ [] := fun e => by rw [e] at hl; have := hst a rfl; simp at hl; omega
      show (acc ++ [(a, s.size)]).map _ = _ ++ toks (piece s.data.toList a s.size) []
      rw [toks_nil hne, List.map_append]; rfl
  intro f
  induction f with
  | zero =>
    intro pos st acc h1 h2 hst
    obtain rfl : pos = s.size := by omega
    exact fin st acc hst
  | succ f ih =>
    intro pos st acc h1 h2 hst
    by_cases hlt : pos < s.size
    · have nosl : ∀ R K, Utf8.decode s pos = (R, K) → R ≠ 47 → 1 ≤ K → pos + K ≤ s.size → (∀ j, pos ≤ j → j < pos + K → s.get! j ≠ 47) →
          (Lib.closeSpans s (Lib.spansFromP (fun x => x == 47) s (f + 1) pos st acc)).map (fun p => piece s.data.toList p.1 p.2) = acc.map (fun p => piece s.data.toList p.1 p.2) ++ toks (openP s.data.toList st pos) (s.data.toList.drop pos) := by
        intro R K hd hR hK hpk hb
        have hp : ((R == 47) = true) = False := by simp [hR]
        rw [open_run s pos K st hst hpk hb, ← ih (pos + K) (some (st.getD pos)) acc (by omega) hpk (fun a e => by cases e; cases st with | none => show pos < _; omega | some b => have := hst b rfl; show b < _; omega)]
        simp only [Lib.spansFromP, hlt, if_true, hd, hp, if_false]
        cases st <;> rfl
      rcases rune_at s pos hlt with ⟨hb, hd⟩ | ⟨R, K, hd, hR1, hR2, hR3, hK, hpk, hbs⟩
      · by_cases h47 : byteAt s pos = 47
        · have hg : s.get! pos = 47 := UInt8.toNat_inj.1 h47
          rw [drop_at s pos hlt, hg]
          rw [h47] at hd
          simp only [Lib.spansFromP, hlt, if_true, hd, beq_self_eq_true]
          cases st with
          | none =>
            rw [show openP s.data.toList none pos = [] from rfl, toks_slash]
            exact ih (pos + 1) none acc (by omega) hlt (fun a e => by cases e)
          | some a =>
            have hl := piece_len s.data.toList a pos (by rw [← Lib.size_eq]; omega)
            have hne : piece s.data.toList a pos ≠ [] := fun e => by rw [e] at hl; have := hst a rfl; simp at hl; omega
            rw [show openP s.data.toList (some a) pos = piece s.data.toList a pos from rfl, toks_end hne]
            have := ih (pos + 1) none (acc ++ [(a, pos)]) (by omega) hlt (fun a e => by cases e)
            rw [List.map_append, List.append_assoc] at this
            exact this
        · refine nosl _ 1 hd h47 (by omega) (by omega) (fun j h3 h4 => ?_)
          obtain rfl : j = pos := by omega
          exact byte_ne h47
      · refine nosl R K hd (by omega) hK hpk (fun j h3 h4 => byte_ne (by have := hbs j h3 h4; omega))
    · obtain rfl : pos = s.size := by omega
      rw [Lib.spansFromP_end _ s (f + 1) s.size st acc (by omega)]
      exact fin st acc hst
/-- A path's names. -/
def nml (s : ByteArray) : List ByteArray := (toks [] s.data.toList).map ba
theorem fields_nml (s : ByteArray) : Lib.goFieldsP (fun x => x == 47) s = nml s := by
  have h := spans_toks s s.size 0 none [] (by omega) (Nat.zero_le _) (fun a e => by cases e)
  have h2 := congrArg (List.map ba) h
  rw [List.map_map] at h2
  unfold nml Lib.goFieldsP Lib.spansOfP
  simp only [List.map_nil, List.nil_append, List.drop_zero] at h2
  rw [show openP s.data.toList none 0 = [] from rfl] at h2
  rw [← h2]
  refine List.map_congr_left fun p _ => ?_
  simp only [Function.comp_apply]
  rw [← extract_list, ba_of]
/-- The first error of the names. -/
def chkL : List ByteArray → Int
  | [] => 0
  | x :: l => if nmE x = 0 then chkL l else nmE x
theorem chkL_append_ok {l : List ByteArray} (h : chkL l = 0) (m : List ByteArray) : chkL (l ++ m) = chkL m := by
  induction l with
  | nil => rfl
  | cons x l ih =>
    unfold chkL at h
    by_cases hx : nmE x = 0
    · rw [if_pos hx] at h
      rw [List.cons_append, chkL, if_pos hx, ih h]
    · rw [if_neg hx] at h; exact absurd h hx
theorem chkL_one {l : List ByteArray} {x : ByteArray} (h : chkL l = 0) (hx : nmE x = 0) : chkL (l ++ [x]) = 0 := by
  rw [chkL_append_ok h]; simp [chkL, hx]
theorem chkL_bad {l : List ByteArray} {x : ByteArray} (h : chkL l = 0) (hx : nmE x ≠ 0) (m : List ByteArray) : chkL (l ++ x :: m) = nmE x := by
  rw [chkL_append_ok h, chkL, if_neg hx]
theorem chkL_all {l : List ByteArray} : chkL l = 0 ↔ ∀ x ∈ l, nmE x = 0 := by
  induction l with
  | nil => simp [chkL]
  | cons x l ih =>
    rw [chkL]
    by_cases hx : nmE x = 0
    · rw [if_pos hx, ih]; simp [hx]
    · rw [if_neg hx]; simp [hx]
def dirB (s : ByteArray) : Bool := decide (s.get! (s.size - 1) = 47)
/-- What Split answers: the error, the names, whether it is of a directory. -/
def spE (s : ByteArray) : Int := if 255 < s.size then 36 else if s.size = 0 ∨ s.get! 0 ≠ 47 then 22 else chkL (nml s)
def spL (s : ByteArray) : List ByteArray := if spE s = 0 then nml s else []
def spD (s : ByteArray) : Bool := if spE s = 0 then dirB s else false
end Go.Proofs.Ytkgkjjkefifpaaa
