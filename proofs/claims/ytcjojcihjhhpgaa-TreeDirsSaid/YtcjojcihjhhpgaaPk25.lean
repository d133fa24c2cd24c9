/-
  NaJoM · NaMathP: these texts in one.
-/
import Derived.Test.YtcjojcihjhhpgaaPk01
/-
  The path of names, in numbers.
-/
namespace Go.Proofs.Ytcjojcihjhhpgaa
open Go.RowKit

/-- The path of names. -/
def jl (l : List ByteArray) : List UInt8 := if l = [] then [47] else (l.map fun x => (47 : UInt8) :: x.data.toList).flatten
def joS (l : List ByteArray) : ByteArray := ba (jl l)
def joE (l : List ByteArray) : Int := if chkL l = 0 then (if 255 < (joS l).size then 36 else 0) else chkL l
def joR (l : List ByteArray) : ByteArray := if joE l = 0 then joS l else ⟨#[]⟩
theorem jl_join (l : List ByteArray) : jl l = 47 :: Lib.join (l.map (·.data.toList)) [47] := by
  cases l with
  | nil => rfl
  | cons x r =>
    unfold jl
    rw [if_neg (by simp), List.map_cons, List.map_cons, Lib.join_cons, List.flatten_cons]
    simp [Lib.joinTail, List.map_map, Function.comp_def]
theorem nmE_size {x : ByteArray} (h : nmE x = 0) : x.size ≤ 14 := by
  rcases Nat.lt_or_ge 14 x.size with h1 | h1
  · rw [nmE_long h1] at h; exact absurd h (by decide)
  · exact h1
theorem joinLen (l : List ByteArray) (h : ∀ x ∈ l, x.size ≤ 14) : (jl l).length ≤ l.length * 15 + 1 := by
  have key : ∀ l : List ByteArray, (∀ x ∈ l, x.size ≤ 14) → ((l.map fun x => (47 : UInt8) :: x.data.toList).flatten).length ≤ l.length * 15 := by
    intro l
    induction l with
    | nil => intro _; simp
    | cons x l ih =>
      intro h
      have h1 := ih (fun y hy => h y (List.mem_cons_of_mem _ hy))
      have h2 := h x List.mem_cons_self
      rw [Lib.size_eq] at h2
      rw [List.map_cons, List.flatten_cons, List.length_append, List.length_cons, List.length_cons]
      omega
  unfold jl
  split
  · simp
  · have := key l h; omega
theorem joE_chk {l : List ByteArray} (h : chkL l ≠ 0) : joE l = chkL l := by unfold joE; rw [if_neg h]
theorem joE_long {l : List ByteArray} (h : chkL l = 0) (h1 : 255 < (joS l).size) : joE l = 36 := by unfold joE; rw [if_pos h, if_pos h1]
theorem joE_ok {l : List ByteArray} (h : chkL l = 0) (h1 : ¬ 255 < (joS l).size) : joE l = 0 := by unfold joE; rw [if_pos h, if_neg h1]
theorem joR_bad {l : List ByteArray} (h : joE l ≠ 0) : joR l = ⟨#[]⟩ := by unfold joR; rw [if_neg h]
theorem joR_ok {l : List ByteArray} (h : joE l = 0) : joR l = joS l := by unfold joR; rw [if_pos h]
def JoO (w : World) (l : List ByteArray) (e : Ending) (w' : World) : Prop := e = .returned (.tuple #[.string (joR l), .int .i64 (joE l)]) ∧ Below w.heap.size w w'
end Go.Proofs.Ytcjojcihjhhpgaa
/-
  Paths in numbers: joined and split again.
-/
namespace Go.Proofs.Ytcjojcihjhhpgaa
open Go.RowKit

theorem spL_ok {s : ByteArray} (h : spE s = 0) : spL s = nml s := by unfold spL; rw [if_pos h]
theorem spD_ok {s : ByteArray} (h : spE s = 0) : spD s = dirB s := by unfold spD; rw [if_pos h]
theorem spD_no {s : ByteArray} (h : spE s ≠ 0) : spD s = false := by unfold spD; rw [if_neg h]
theorem ba_size (cur : List UInt8) : (ba cur).size = cur.length := by rw [Lib.size_eq, ba_data]
theorem nmE_good {x : ByteArray} (h : nmE x = 0) : x.data.toList ≠ [] ∧ ∀ c ∈ x.data.toList, c ≠ 47 := by
  have h14 : ¬ 14 < x.size := by have := nmE_size h; omega
  by_cases h2 : x = ⟨#[]⟩ ∨ x = ⟨#[46]⟩ ∨ x = ⟨#[46, 46]⟩
  · rw [nmE_dots h14 h2] at h; exact absurd h (by decide)
  · cases hb : badB x
    · refine ⟨fun e => h2 (.inl (str_ext e)), fun c hc e => ?_⟩
      subst e
      obtain ⟨i, hi, he⟩ := List.getElem_of_mem hc
      have key : ∀ (l : List UInt8), (47 : UInt8) ∈ l → 0 ≤ Lib.indexAny l [0, 47] := by
        intro l
        induction l with
        | nil => intro h; cases h
        | cons c l ih =>
          intro h
          unfold Lib.indexAny
          split
          · decide
          · rename_i hn
            rcases List.mem_cons.1 h with h1 | h1
            · rw [← h1] at hn; exact absurd (by decide) hn
            · have := ih h1
              split
              · rename_i he; simp at he; omega
              · omega
      have h0 := key _ hc
      unfold badB Lib.containsAny at hb
      exact absurd h0 (of_decide_eq_false hb)
    · rw [nmE_bad h14 hb] at h; exact absurd h (by decide)
theorem toks_join : ∀ (l : List ByteArray) (cur : List UInt8), (∀ x ∈ l, nmE x = 0) → toks cur (l.map fun x => (47 : UInt8) :: x.data.toList).flatten = (if cur = [] then [] else [cur]) ++ l.map (·.data.toList)
  | [], cur, _ => by rw [List.map_nil, List.flatten_nil, toks]; simp
  | x :: l, cur, h => by
    obtain ⟨h1, h2⟩ := nmE_good (h x List.mem_cons_self)
    have ih := toks_join l x.data.toList (fun y hy => h y (List.mem_cons_of_mem _ hy))
    rw [if_neg h1] at ih
    have e : toks [] (x.data.toList ++ (l.map fun x => (47 : UInt8) :: x.data.toList).flatten) = x.data.toList :: l.map (·.data.toList) := by
      rw [toks_run _ _ [] h2, List.nil_append, ih]; rfl
    rw [List.map_cons, List.flatten_cons, List.cons_append, toks, if_pos rfl]
    split
    · rw [e]; rfl
    · rw [e]; rfl
theorem nml_joS {l : List ByteArray} (h : chkL l = 0) : nml (joS l) = l := by
  unfold nml joS
  rw [ba_data]
  have hm : ∀ l : List ByteArray, (l.map (·.data.toList)).map ba = l := fun l => by
    rw [List.map_map]
    conv => rhs; rw [← List.map_id l]
    exact List.map_congr_left fun x _ => ba_of x
  unfold jl
  split
  · rename_i hl; subst hl; rfl
  · rw [toks_join l [] (chkL_all.1 h), if_pos rfl, List.nil_append, hm]
theorem joS_head (l : List ByteArray) : (joS l).size ≠ 0 ∧ (joS l).get! 0 = 47 := by
  have h0 : (joS l).size ≠ 0 := by unfold joS; rw [ba_size, jl_join]; simp
  refine ⟨h0, ?_⟩
  have h1 := byte_at (joS l) 0 (by omega)
  rw [show (joS l).data.toList = jl l from ba_data _, jl_join] at h1
  exact (Option.some.inj h1).symm
theorem get_last {s : ByteArray} (h : s.size ≠ 0) : s.data.toList.getLast? = some (s.get! (s.size - 1)) := by
  rw [List.getLast?_eq_getElem?, ← Lib.size_eq, byte_at s _ (by omega)]
theorem dirB_last {s : ByteArray} (h : s.size ≠ 0) : dirB s = decide (s.data.toList.getLast? = some 47) := by
  unfold dirB
  rw [get_last h, Bool.eq_iff_iff]
  simp
theorem dirB_joS {l : List ByteArray} (h : chkL l = 0) : dirB (joS l) = decide (l = []) := by
  rw [dirB_last (joS_head l).1, show (joS l).data.toList = jl l from ba_data _, decide_eq_decide]
  constructor
  · intro he
    apply Classical.byContradiction
    intro hl
    obtain ⟨x, hx⟩ : ∃ x, l.getLast? = some x := by
      cases hh : l.getLast? with
      | none => exact absurd (List.getLast?_eq_none_iff.1 hh) hl
      | some x => exact ⟨x, rfl⟩
    obtain ⟨r, rfl⟩ := List.getLast?_eq_some_iff.1 hx
    obtain ⟨h1, h2⟩ := nmE_good (chkL_all.1 h x (by simp))
    unfold jl at he
    rw [if_neg (by simp), List.map_append, List.flatten_append] at he
    simp only [List.map_cons, List.map_nil, List.flatten_cons, List.flatten_nil, List.append_nil] at he
    obtain ⟨y, hy⟩ : ∃ y, x.data.toList.getLast? = some y := by
      cases hh : x.data.toList.getLast? with
      | none => exact absurd (List.getLast?_eq_none_iff.1 hh) h1
      | some y => exact ⟨y, rfl⟩
    simp [List.getLast?_append, List.getLast?_cons, hy] at he
    have hm : y ∈ x.data.toList := List.mem_of_getLast? hy
    exact h2 y hm he
  · intro he; subst he; rfl
theorem spE_joS {l : List ByteArray} (h : joE l = 0) : spE (joS l) = 0 ∧ spL (joS l) = l ∧ spD (joS l) = decide (l = []) ∧ chkL l = 0 := by
  have hc : chkL l = 0 := Classical.byContradiction fun hn => by rw [joE_chk hn] at h; exact hn h
  have hs : ¬ 255 < (joS l).size := fun hl => by rw [joE_long hc hl] at h; exact absurd h (by decide)
  have hE : spE (joS l) = 0 := by rw [spE_chk hs (fun hh => hh.elim (joS_head l).1 (fun h3 => h3 (joS_head l).2)), nml_joS hc]; exact hc
  exact ⟨hE, by rw [spL_ok hE, nml_joS hc], by rw [spD_ok hE, dirB_joS hc], hc⟩
/-! A path's names joined are no longer than it. -/
def totL (T : List (List UInt8)) : Nat := (T.map fun t => t.length + 1).sum
theorem toks_tot : ∀ (l cur : List UInt8), totL (toks cur l) ≤ 1 + cur.length + l.length
  | [], cur => by rw [toks]; split <;> simp [totL]; omega
  | c :: l, cur => by
    rw [toks]
    split
    · split
      · have := toks_tot l []; simp at this ⊢; omega
      · have := toks_tot l []
        simp [totL] at this ⊢; omega
    · have := toks_tot l (cur ++ [c]); simp at this ⊢; omega
theorem jf_tot (T : List (List UInt8)) : ((T.map ba).map fun x => (47 : UInt8) :: x.data.toList).flatten.length = totL T := by
  induction T with
  | nil => rfl
  | cons t T ih =>
    rw [List.map_cons, List.map_cons, List.flatten_cons, List.length_append, ih]
    simp [totL]
theorem spE_facts {s : ByteArray} (h : spE s = 0) : ¬ 255 < s.size ∧ s.size ≠ 0 ∧ s.get! 0 = 47 ∧ chkL (nml s) = 0 := by
  have h1 : ¬ 255 < s.size := fun hl => by rw [spE_long hl] at h; exact absurd h (by decide)
  have h2 : ¬ (s.size = 0 ∨ s.get! 0 ≠ 47) := fun hl => by rw [spE_rel h1 hl] at h; exact absurd h (by decide)
  refine ⟨h1, fun e => h2 (.inl e), Classical.byContradiction fun e => h2 (.inr e), ?_⟩
  rwa [spE_chk h1 h2] at h
theorem joE_nml {s : ByteArray} (h : spE s = 0) : joE (nml s) = 0 := by
  obtain ⟨h1, h2, h3, h4⟩ := spE_facts h
  refine joE_ok h4 ?_
  unfold joS
  rw [ba_size]
  unfold jl
  split
  · decide
  · have hd := drop_at s 0 (by omega)
    rw [List.drop_zero, h3] at hd
    unfold nml
    rw [jf_tot, hd, toks_slash]
    have h7 : (s.data.toList.drop (0 + 1)).length = s.size - 1 := by rw [List.length_drop, ← Lib.size_eq]
    have h8 := toks_tot (s.data.toList.drop (0 + 1)) []
    rw [h7, List.length_nil] at h8
    omega
/-! More slashes. -/
end Go.Proofs.Ytcjojcihjhhpgaa
