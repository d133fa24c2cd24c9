/-
  Paths in numbers: joined and split again.
-/
import Derived.Test.YtkgkjjkefifpaaaNaJoin
import Derived.Test.YtkgkjjkefifpaaaNaWith
import Derived.Test.YtkgkjjkefifpaaaNaRefS
namespace Go.Proofs.Ytkgkjjkefifpaaa
open Go.RowKit

theorem nmE_good {x : ByteArray} (h : nmE x = 0) : x.data.toList ≠ [] ∧ ∀ c ∈ x.data.toList, c ≠ 47 := by
  have h14 : ¬ 14 < x.size := by have := nmE_size h; omega
  by_cases h2 : x = ⟨#[]⟩ ∨ x = ⟨#[46]⟩ ∨ x = ⟨#[46, 46]⟩
  · rw [nmE_dots h14 h2] at h; exact absurd h (by decide)
  · cases hb : badB x
    · refine ⟨fun e => h2 (.inl (str_ext e)), fun c hc e => ?_⟩
      subst e
      obtain ⟨i, hi, he⟩ := List.getElem_of_mem hc
      have key : ∀ (l : List UInt8), (47 : UInt8) ∈ l → 0 ≤ Lib.indexAny l [0, 47] := by
        intro l
        induction l with
        | nil => intro h; cases h
        | cons c l ih =>
          intro h
          unfold Lib.indexAny
          split
          · decide
          · rename_i hn
            rcases List.mem_cons.1 h with h1 | h1
            · rw [← h1] at hn; exact absurd (by decide) hn
            · have := ih h1
              split
              · rename_i he; simp at he; omega
              · omega
      have h0 := key _ hc
      unfold badB Lib.containsAny at hb
      exact absurd h0 (of_decide_eq_false hb)
    · rw [nmE_bad h14 hb] at h; exact absurd h (by decide)
theorem toks_join : ∀ (l : List ByteArray) (cur : List UInt8), (∀ x ∈ l, nmE x = 0) → toks cur (l.map fun x => (47 : UInt8) :: x.data.toList).flatten = (if cur = [] then [] else [cur]) ++ l.map (·.data.toList)
  | [], cur, _ => by rw [List.map_nil, List.flatten_nil, toks]; simp
  | x :: l, cur, h => by
    obtain ⟨h1, h2⟩ := nmE_good (h x List.mem_cons_self)
    have ih := toks_join l x.data.toList (fun y hy => h y (List.mem_cons_of_mem _ hy))
    rw [if_neg h1] at ih
    have e : toks [] (x.data.toList ++ (l.map fun x => (47 : UInt8) :: x.data.toList).flatten) = x.data.toList :: l.map (·.data.toList) := by
      rw [toks_run _ _ [] h2, List.nil_append, ih]; rfl
    rw [List.map_cons, List.flatten_cons, List.cons_append, toks, if_pos rfl]
    split
    · rw [e]; rfl
    · rw [e]; rfl
theorem nml_joS {l : List ByteArray} (h : chkL l = 0) : nml (joS l) = l := by
  unfold nml joS
  rw [ba_data]
  have hm : ∀ l : List ByteArray, (l.map (·.data.toList)).map ba = l := fun l => by
    rw [List.map_map]
    conv => rhs; rw [← List.map_id l]
    exact List.map_congr_left fun x _ => ba_of x
  unfold jl
  split
  · rename_i hl; subst hl; rfl
  · rw [toks_join l [] (chkL_all.1 h), if_pos rfl, List.nil_append, hm]
theorem joS_head (l : List ByteArray) : (joS l).size ≠ 0 ∧ (joS l).get! 0 = 47 := by
  have h0 : (joS l).size ≠ 0 := by unfold joS; rw [ba_size, jl_join]; simp
  refine ⟨h0, ?_⟩
  have h1 := byte_at (joS l) 0 (by omega)
  rw [show (joS l).data.toList = jl l from ba_data _, jl_join] at h1
  exact (Option.some.inj h1).symm
theorem get_last {s : ByteArray} (h : s.size ≠ 0) : s.data.toList.getLast? = some (s.get! (s.size - 1)) := by
  rw [List.getLast?_eq_getElem?, ← Lib.size_eq, byte_at s _ (by omega)]
theorem dirB_last {s : ByteArray} (h : s.size ≠ 0) : dirB s = decide (s.data.toList.getLast? = some 47) := by
  unfold dirB
  rw [get_last h, Bool.eq_iff_iff]
  simp
theorem dirB_joS {l : List ByteArray} (h : chkL l = 0) : dirB (joS l) = decide (l = []) := by
  rw [dirB_last (joS_head l).1, show (joS l).data.toList = jl l from ba_data _, decide_eq_decide]
  constructor
  · intro he
    apply Classical.byContradiction
    intro hl
    obtain ⟨x, hx⟩ : ∃ x, l.getLast? = some x := by
      cases hh : l.getLast? with
      | none => exact absurd (List.getLast?_eq_none_iff.1 hh) hl
      | some x => exact ⟨x, rfl⟩
    obtain ⟨r, rfl⟩ := List.getLast?_eq_some_iff.1 hx
    obtain ⟨h1, h2⟩ := nmE_good (chkL_all.1 h x (by simp))
    unfold jl at he
    rw [if_neg (by simp), List.map_append, List.flatten_append] at he
    simp only [List.map_cons, List.map_nil, List.flatten_cons, List.flatten_nil, List.append_nil] at he
    obtain ⟨y, hy⟩ : ∃ y, x.data.toList.getLast? = some y := by
      cases hh : x.data.toList.getLast? with
      | none => exact absurd (List.getLast?_eq_none_iff.1 hh) h1
      | some y => exact ⟨y, rfl⟩
    simp [List.getLast?_append, List.getLast?_cons, hy] at he
    have hm : y ∈ x.data.toList := List.mem_of_getLast? hy
    exact h2 y hm he
  · intro he; subst he; rfl
theorem spE_joS {l : List ByteArray} (h : joE l = 0) : spE (joS l) = 0 ∧ spL (joS l) = l ∧ spD (joS l) = decide (l = []) ∧ chkL l = 0 := by
  have hc : chkL l = 0 := Classical.byContradiction fun hn => by rw [joE_chk hn] at h; exact hn h
  have hs : ¬ 255 < (joS l).size := fun hl => by rw [joE_long hc hl] at h; exact absurd h (by decide)
  have hE : spE (joS l) = 0 := by rw [spE_chk hs (fun hh => hh.elim (joS_head l).1 (fun h3 => h3 (joS_head l).2)), nml_joS hc]; exact hc
  exact ⟨hE, by rw [spL_ok hE, nml_joS hc], by rw [spD_ok hE, dirB_joS hc], hc⟩
/-! A path's names joined are no longer than it. -/
def totL (T : List (List UInt8)) : Nat := (T.map fun t => t.length + 1).sum
theorem toks_tot : ∀ (l cur : List UInt8), totL (toks cur l) ≤ 1 + cur.length + l.length
  | [], cur => by rw [toks]; split <;> simp [totL]; omega
  | c :: l, cur => by
    rw [toks]
    split
    · split
      · have := toks_tot l []; simp at this ⊢; omega
      · have := toks_tot l []
        simp [totL] at this ⊢; omega
    · have := toks_tot l (cur ++ [c]); simp at this ⊢; omega
theorem jf_tot (T : List (List UInt8)) : ((T.map ba).map fun x => (47 : UInt8) :: x.data.toList).flatten.length = totL T := by
  induction T with
  | nil => rfl
  | cons t T ih =>
    rw [List.map_cons, List.map_cons, List.flatten_cons, List.length_append, ih]
    simp [totL]
theorem spE_facts {s : ByteArray} (h : spE s = 0) : ¬ 255 < s.size ∧ s.size ≠ 0 ∧ s.get! 0 = 47 ∧ chkL (nml s) = 0 := by
  have h1 : ¬ 255 < s.size := fun hl => by rw [spE_long hl] at h; exact absurd h (by decide)
  have h2 : ¬ (s.size = 0 ∨ s.get! 0 ≠ 47) := fun hl => by rw [spE_rel h1 hl] at h; exact absurd h (by decide)
  refine ⟨h1, fun e => h2 (.inl e), Classical.byContradiction fun e => h2 (.inr e), ?_⟩
  rwa [spE_chk h1 h2] at h
theorem joE_nml {s : ByteArray} (h : spE s = 0) : joE (nml s) = 0 := by
  obtain ⟨h1, h2, h3, h4⟩ := spE_facts h
  refine joE_ok h4 ?_
  unfold joS
  rw [ba_size]
  unfold jl
  split
  · decide
  · have hd := drop_at s 0 (by omega)
    rw [List.drop_zero, h3] at hd
    unfold nml
    rw [jf_tot, hd, toks_slash]
    have h7 : (s.data.toList.drop (0 + 1)).length = s.size - 1 := by rw [List.length_drop, ← Lib.size_eq]
    have h8 := toks_tot (s.data.toList.drop (0 + 1)) []
    rw [h7, List.length_nil] at h8
    omega
/-! More slashes. -/
def dbl (b : Nat → Bool) : Nat → List UInt8 → List UInt8
  | _, [] => []
  | i, c :: l => c :: ((if c = 47 ∧ b i = true then [47] else []) ++ dbl b (i + 1) l)
theorem toks_dbl (b : Nat → Bool) : ∀ (l : List UInt8) (i : Nat) (cur : List UInt8), toks cur (dbl b i l) = toks cur l
  | [], _, _ => rfl
  | c :: l, i, cur => by
    rw [dbl]
    by_cases hc : c = 47
    · subst hc
      have e : toks [] ((if (47 : UInt8) = 47 ∧ b i = true then [47] else []) ++ dbl b (i + 1) l) = toks [] l := by
        split
        · rw [List.cons_append, List.nil_append, toks_slash, toks_dbl b l (i + 1) []]
        · rw [List.nil_append, toks_dbl b l (i + 1) []]
      rw [toks, if_pos rfl, e, toks, if_pos rfl]
    · rw [if_neg (fun h => hc h.1), List.nil_append, toks, if_neg hc, toks_dbl b l (i + 1), toks, if_neg hc]
theorem dbl_snoc (b : Nat → Bool) (c : UInt8) : ∀ (l : List UInt8) (i : Nat), dbl b i (l ++ [c]) = dbl b i l ++ c :: (if c = 47 ∧ b (i + l.length) = true then [47] else [])
  | [], i => by simp [dbl]
  | d :: l, i => by
    rw [List.cons_append, dbl, dbl, dbl_snoc b c l (i + 1), List.length_cons, show i + 1 + l.length = i + (l.length + 1) by omega, List.cons_append, List.append_assoc]
theorem dbl_len (b : Nat → Bool) : ∀ (l : List UInt8) (i : Nat), l.length ≤ (dbl b i l).length ∧ (dbl b i l).length ≤ 2 * l.length
  | [], _ => by simp [dbl]
  | c :: l, i => by
    have := dbl_len b l (i + 1)
    simp only [dbl, List.length_cons, List.length_append]
    split <;> simp <;> omega
theorem dbl_last (b : Nat → Bool) (l : List UInt8) (i : Nat) : ((dbl b i l).getLast? = some 47) ↔ (l.getLast? = some 47) := by
  rcases List.eq_nil_or_concat l with rfl | ⟨r, c, rfl⟩
  · rfl
  · rw [List.concat_eq_append, dbl_snoc]
    simp only [List.getLast?_append, List.getLast?_singleton]
    split
    · rename_i h; simp [h.1]
    · simp
theorem dbl_head (b : Nat → Bool) (c : UInt8) (l : List UInt8) (i : Nat) : ∃ r, dbl b i (c :: l) = c :: r := ⟨_, rfl⟩
/-- What Split answers of the longer path. -/
theorem spE_dbl (b : Nat → Bool) {s : ByteArray} (h : spE s = 0) (hs : ¬ 255 < (dbl b 0 s.data.toList).length) :
    spE (ba (dbl b 0 s.data.toList)) = 0 ∧ spL (ba (dbl b 0 s.data.toList)) = spL s ∧ spD (ba (dbl b 0 s.data.toList)) = spD s := by
  obtain ⟨h1, h2, h3, h4⟩ := spE_facts h
  have hn : nml (ba (dbl b 0 s.data.toList)) = nml s := by unfold nml; rw [ba_data, toks_dbl]
  have hsz : (ba (dbl b 0 s.data.toList)).size ≠ 0 := by
    rw [ba_size]; have := (dbl_len b s.data.toList 0).1; rw [← Lib.size_eq] at this; omega
  have hh : (ba (dbl b 0 s.data.toList)).get! 0 = 47 := by
    have h5 := byte_at (ba (dbl b 0 s.data.toList)) 0 (by omega)
    have hd := drop_at s 0 (by omega)
    rw [List.drop_zero, h3] at hd
    rw [ba_data] at h5
    have h6 : (dbl b 0 s.data.toList)[0]? = some 47 := by rw [hd]; rfl
    exact Option.some.inj (h5.symm.trans h6)
  have hE : spE (ba (dbl b 0 s.data.toList)) = 0 := by
    rw [spE_chk (by rw [ba_size]; exact hs) (fun hx => hx.elim hsz (fun h6 => h6 hh)), hn]; exact h4
  refine ⟨hE, by rw [spL_ok hE, spL_ok h, hn], ?_⟩
  rw [spD_ok hE, spD_ok h, dirB_last hsz, dirB_last h2, ba_data, decide_eq_decide]
  exact dbl_last b _ 0
end Go.Proofs.Ytkgkjjkefifpaaa
