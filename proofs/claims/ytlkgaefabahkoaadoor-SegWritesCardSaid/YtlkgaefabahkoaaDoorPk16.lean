/-
  DrStr · SgWhM · DrNew · DrTells · DrAny: these texts in one.
-/
import Derived.Test.YtlkgaefabahkoaaDoorPk15
import Derived.Test.YtlkgaefabahkoaaDoorPk09
import Derived.Test.YtlkgaefabahkoaaDoorPk08
import Derived.Deep.RegionLaw
import Derived.Test.YtlkgaefabahkoaaDoorPk01
import Derived.Deep.RegionHeld3
/-
  Texts of bytes, their parts; what a crash keeps of a block.
-/
namespace Go.Proofs.YtlkgaefabahkoaaDoor
open Go.RowKit

theorem strOf_append (l m : List Nat) : strOf l ++ strOf m = strOf (l ++ m) := by
  apply ByteArray.ext
  apply Array.toList_inj.1
  rw [strOf_toList]
  have h1 := strOf_toList l
  have h2 := strOf_toList m
  simp only [ByteArray.data_append, Array.toList_append, h1, h2, List.map_append]
theorem strOf_extract (l : List Nat) (a b : Nat) : (strOf l).extract a b = strOf ((l.drop a).take (b - a)) := by
  apply ByteArray.ext
  apply Array.toList_inj.1
  have h1 := strOf_toList l
  rw [strOf_toList]
  simp [ByteArray.data_extract, h1, List.map_take, List.map_drop]
theorem strOf_size (l : List Nat) : (strOf l).size = l.length := by
  show (strOf l).data.size = l.length
  rw [← Array.length_toList, strOf_toList, List.length_map]
def dpart (X : List Nat) (i : Nat) : List Nat := (X.drop (16 * i)).take 16
theorem part_ext {X Y : List Nat} {i : Nat} (hi : i < 4) (hX : X.length = 64) (hY : Y.length = 64) (h : ∀ j, j < 64 → j / 16 = i → X.getD j 0 = Y.getD j 0) : dpart X i = dpart Y i := by
  apply List.ext_getElem?
  intro j
  unfold dpart
  by_cases c : j < 16
  · rw [List.getElem?_take_of_lt c, List.getElem?_take_of_lt c, List.getElem?_drop, List.getElem?_drop]
    have := h (16 * i + j) (by omega) (by omega)
    rw [List.getD_eq_getElem?_getD, List.getD_eq_getElem?_getD, List.getElem?_eq_getElem (by omega), List.getElem?_eq_getElem (by omega)] at this
    rw [List.getElem?_eq_getElem (by omega), List.getElem?_eq_getElem (by omega)]
    simpa using this
  · rw [List.getElem?_eq_none (by simp; omega), List.getElem?_eq_none (by simp; omega)]
theorem pre_part (X : List Nat) (i : Nat) : X.take (16 * i) ++ dpart X i = X.take (16 * (i + 1)) := by
  rw [dpart, show 16 * (i + 1) = 16 * i + 16 by omega, List.take_add]
/-- What a round makes of a block. -/
def crB (kept torn : Bool) (sec : Int) (cur b : List Nat) : List Nat := if kept = true then b else if torn = true then tearK 4 cur b sec else cur
theorem crB_length {kept torn : Bool} {sec : Int} {cur b : List Nat} (h1 : cur.length = 64) (h2 : b.length = 64) : (crB kept torn sec cur b).length = 64 := by
  unfold crB; split
  · exact h2
  · split
    · exact L64_length _
    · exact h1
theorem crB_byte {kept torn : Bool} {sec : Int} {cur b : List Nat} (h1 : ∀ x ∈ cur, x < 256) (h2 : ∀ x ∈ b, x < 256) : ∀ x ∈ crB kept torn sec cur b, x < 256 := by
  unfold crB; split
  · exact h2
  · split
    · exact tearK_byte 4 sec h1 h2
    · exact h1
theorem updB_self (F : Nat → List Nat) (i : Nat) : updB F i (F i) = F := by funext j; unfold updB; split <;> simp_all
theorem crK_succ (S : Nat → List Nat) (Q : List (Nat × List Nat)) (keep : List Bool) (torn sec : Int) (k : Nat) (h : k < Q.length) :
    crK S Q keep torn sec (k + 1) = updB (crK S Q keep torn sec k) Q[k].1 (crB (keep.getD k false) (decide ((k : Int) = torn)) sec (crK S Q keep torn sec k Q[k].1) Q[k].2) := by
  have e : Q.getD k (0, []) = Q[k] := by rw [List.getD_eq_getElem?_getD, List.getElem?_eq_getElem h]; rfl
  rw [crK, e, crB]
  by_cases c : keep.getD k false = true
  · rw [if_pos c, if_pos c]
  · rw [if_neg c, if_neg c]
    by_cases t : (k : Int) = torn
    · rw [if_pos t, if_pos (decide_eq_true t)]
    · rw [if_neg t, if_neg (by simpa using t), updB_self]
theorem crK_good (S : Nat → List Nat) (Q : List (Nat × List Nat)) (keep : List Bool) (torn sec : Int) {n : Nat} (hg : ∀ p ∈ Q, GoodW n p) (h1 : ∀ i, (S i).length = 64) (h2 : ∀ i, ∀ x ∈ S i, x < 256) :
    ∀ k, k ≤ Q.length → (∀ i, (crK S Q keep torn sec k i).length = 64) ∧ (∀ i, ∀ x ∈ crK S Q keep torn sec k i, x < 256)
  | 0, _ => ⟨h1, h2⟩
  | k + 1, hk => by
    obtain ⟨i1, i2⟩ := crK_good S Q keep torn sec hg h1 h2 k (by omega)
    have g := hg Q[k] (List.getElem_mem _)
    rw [crK_succ S Q keep torn sec k hk]
    refine ⟨fun i => ?_, fun i => ?_⟩
    · by_cases e : i = Q[k].1
      · rw [e, updB_at]; exact crB_length (i1 _) g.2.1
      · rw [updB_ne _ _ e]; exact i1 i
    · by_cases e : i = Q[k].1
      · rw [e, updB_at]; exact crB_byte (i2 _) g.2.2
      · rw [updB_ne _ _ e]; exact i2 i
theorem crB_part_kept (torn : Bool) (sec : Int) (cur b : List Nat) : crB true torn sec cur b = b := by simp [crB]
theorem crB_part_bit (sec : Int) (cur b : List Nat) (i : Nat) (hi : i < 4) (hb : b.length = 64) (hbit : bitS sec i = true) : dpart b i = dpart (crB false true sec cur b) i := by
  have e : crB false true sec cur b = tearK 4 cur b sec := by simp [crB]
  rw [e]
  refine part_ext hi hb (L64_length _) (fun j hj hji => ?_)
  rw [tearK, L64_get _ _ hj, if_pos ⟨by omega, by rw [hji]; exact hbit⟩]
theorem crB_part_no (sec : Int) (cur b : List Nat) (i : Nat) (hi : i < 4) (hc : cur.length = 64) (hbit : bitS sec i = false) : dpart cur i = dpart (crB false true sec cur b) i := by
  have e : crB false true sec cur b = tearK 4 cur b sec := by simp [crB]
  rw [e]
  refine part_ext hi hc (L64_length _) (fun j hj hji => ?_)
  rw [tearK, L64_get _ _ hj, if_neg (by rw [hji, hbit]; simp)]
theorem crB_part_off (sec : Int) (cur b : List Nat) : crB false false sec cur b = cur := by simp [crB]
theorem tmod_two (x : Int) : (x.tmod 2 != 0) = decide (x % 2 = 1) := by
  have h : x.tmod 2 = 0 ∧ x % 2 = 0 ∨ (x.tmod 2 = 1 ∨ x.tmod 2 = -1) ∧ x % 2 = 1 := by
    rcases Int.le_total 0 x with c | c
    · rw [Int.tmod_eq_emod_of_nonneg c]; omega
    · obtain ⟨y, rfl⟩ : ∃ y, x = -y := ⟨-x, by omega⟩
      rw [Int.neg_tmod, Int.tmod_eq_emod_of_nonneg (by omega)]; omega
  rcases h with ⟨h1, h2⟩ | ⟨h1 | h1, h2⟩ <;> rw [h1, h2] <;> rfl
theorem cut_text (X : List Nat) (hX : X.length = 64) (j : Nat) (hj : j < 4) (W : World) : (Instr.sliceAt STR (.string (strOf X)) (some (.int .i64 (16 * (j : Int)))) (some (.int .i64 (16 * (j : Int) + 16))) none).run Tryd.prog W = .ok (.string (strOf (dpart X j))) W := by
  rw [run_sliceAt_string _ _ _ _ _ _ Tryd.underlying9, run_slice_string _ _ _ _ _ _ _ Tryd.underlying9 (by omega) (by omega) (by rw [strOf_size, hX]; omega), strOf_extract, dpart]
  rw [show (16 * (j : Int)).toNat = 16 * j by omega, show (16 * (j : Int) + 16).toNat - 16 * j = 16 by omega]
theorem str_step (X Y : List Nat) (j : Nat) (h : dpart X j = dpart Y j) : strOf (Y.take (16 * j)) ++ strOf (dpart X j) = strOf (Y.take (16 * (j + 1))) := by
  rw [h, strOf_append, pre_part]
theorem str_room (X Y : List Nat) (j : Nat) (hj : j < 4) : ¬ 9223372036854775807 < (strOf (Y.take (16 * j))).size + (strOf (dpart X j)).size := by
  rw [strOf_size, strOf_size, List.length_take, dpart, List.length_take]; omega
end Go.Proofs.YtlkgaefabahkoaaDoor
/-
  Partial segments where the power goes: what a Write that is cut off leaves, and what a crash makes of it.
-/
namespace Go.Proofs.YtlkgaefabahkoaaDoor
open Go.RowKit

/-! A block of which some sectors are zeros is a summary's only if it is the whole one. -/
def MxZ (H b : List Nat) : Prop := b.length = 128 ∧ ∃ z : Nat → Bool, ∀ j, j < 128 → b.getD j 0 = if z (j / 16) = true then 0 else H.getD j 0
theorem secM_four (e c : Int) (w : List Nat) (k : Nat) (hk : k < 8) : (secM e c w k).getD 4 0 = k := by
  unfold secM
  rw [num_2, num_2, num_1]
  simp [List.getD_eq_getElem?_getD]
  omega
theorem chk_p {m : Sm} (h : chkM m = 0) : 1 ≤ m.p := by
  unfold chkM chkC at h
  by_cases h1 : (outB m.e 0 65535 || outB m.c 0 65535) = true
  · rw [if_pos h1] at h; cases h
  · rw [if_neg h1] at h
    by_cases h2 : (outB m.p 1 64 || outB m.i 0 (m.p - 1)) = true
    · rw [if_pos h2] at h; cases h
    · simp only [Bool.not_eq_true, Bool.or_eq_false_iff] at h2
      exact (out_yes h2.1).1
theorem chk_code (m : Sm) : chkM m = 0 ∨ chkM m = 22 ∨ chkM m = 27 := by
  unfold chkM chkC
  repeat' split
  all_goals simp
theorem okB_four {b : List Nat} (h : okB b = true) (k : Nat) (hk : k < 8) : b.getD (16 * k + 4) 0 = k := by
  unfold okB at h
  simp only [Bool.and_eq_true, decide_eq_true_eq] at h
  obtain ⟨hl, hc, he⟩ := h
  have hg := good_of hc
  have hw : (zpad 88 (wds (decM b) (sumM (gat b 8)))).length = 88 := zpad_len (by rw [wds_len]; have := hg.size; omega)
  have hs := secs_at (decM b).e (decM b).c hw k 8 (Nat.le_refl _) hk
  have he2 : secs (decM b).e (decM b).c (zpad 88 (wds (decM b) (sumM (gat b 8)))) 8 = b := he
  rw [he2] at hs
  have h4 := congrArg (fun l => l.getD 4 0) hs
  rw [secM_four _ _ _ _ hk] at h4
  refine Eq.trans ?_ h4
  rw [List.getD_eq_getElem?_getD, List.getD_eq_getElem?_getD, List.getElem?_take_of_lt (by omega), List.getElem?_drop]
theorem okB_six {b : List Nat} (h : okB b = true) : b.getD 6 0 ≠ 0 := by
  have h0 := h
  unfold okB at h
  simp only [Bool.and_eq_true, decide_eq_true_eq] at h
  obtain ⟨hl, hc, he⟩ := h
  have hp := chk_p hc
  have e1 : (decM b).p = ((at' (gat b 8) 1 : Nat) : Int) := rfl
  have e2 : at' (gat b 8) 1 = b.getD 6 0 := by
    have : gat b 8 = (b.drop (16 * 0 + 5)).take 11 ++ (List.range 7).flatMap fun k => (b.drop (16 * (k + 1) + 5)).take 11 := by
      unfold gat
      rw [show (8 : Nat) = 7 + 1 by rfl, List.range_succ_eq_map, List.flatMap_cons, List.flatMap_map]
    rw [this, at_left (by rw [List.length_take, List.length_drop]; omega)]
    unfold at'
    rw [List.getD_eq_getElem?_getD, List.getD_eq_getElem?_getD, List.getElem?_take_of_lt (by omega), List.getElem?_drop]
  rw [e1, e2] at hp
  omega
theorem okB_mix {H b : List Nat} (hH : H.length = 128) (hm : MxZ H b) (h : okB b = true) : b = H := by
  obtain ⟨hl, z, hz⟩ := hm
  have hz0 : ∀ k, k < 8 → z k = false := fun k hk => by
    cases e : z k with
    | false => rfl
    | true =>
      exfalso
      have h4 := hz (16 * k + 4) (by omega)
      rw [show (16 * k + 4) / 16 = k by omega, e, if_pos rfl, okB_four h k hk] at h4
      subst h4
      have h6 := hz 6 (by omega)
      rw [show 6 / 16 = 0 by rfl, e, if_pos rfl] at h6
      exact okB_six h h6
  apply List.ext_getElem (by omega)
  intro j h1 h2
  have := hz j (by omega)
  rw [hz0 (j / 16) (by omega), if_neg (by simp), List.getD_eq_getElem?_getD, List.getD_eq_getElem?_getD, List.getElem?_eq_getElem h1, List.getElem?_eq_getElem h2] at this
  exact this
theorem okB_zero : okB (zeroB ++ zeroB) = false := by
  cases h : okB (zeroB ++ zeroB) with
  | false => rfl
  | true =>
    have := okB_four h 1 (by decide)
    exact absurd this (by decide)
/-- A block, some sectors of which are zeros. -/
def Mx64 (H b : List Nat) : Prop := b.length = 64 ∧ ∃ z : Nat → Bool, ∀ j, j < 64 → b.getD j 0 = if z (j / 16) = true then 0 else H.getD j 0
theorem Mx64.full {H : List Nat} (h : H.length = 64) : Mx64 H H := ⟨h, fun _ => false, fun j _ => by rw [if_neg (by simp)]⟩
theorem Mx64.none (H : List Nat) : Mx64 H zeroB := ⟨zeroB_length, fun _ => true, fun j _ => by rw [if_pos rfl, zeroB_get]⟩
theorem Mx64.tear {H cur : List Nat} {sec : Int} (h : Mx64 H cur) : Mx64 H (tearK 4 cur H sec) := by
  obtain ⟨hl, z, hz⟩ := h
  refine ⟨L64_length _, fun k => if k < 4 ∧ bitS sec k = true then false else z k, fun j hj => ?_⟩
  unfold tearK
  rw [L64_get _ _ hj]
  by_cases c : j / 16 < 4 ∧ bitS sec (j / 16) = true
  · rw [if_pos c]; simp only [c, and_self, if_true]; rw [if_neg (by simp)]
  · rw [if_neg c, hz j hj]; simp only [c, if_false]
theorem mx_app {H b1 b2 : List Nat} (hH : H.length = 128) (h1 : Mx64 (H.take 64) b1) (h2 : Mx64 (H.drop 64) b2) : MxZ H (b1 ++ b2) := by
  obtain ⟨l1, z1, e1⟩ := h1
  obtain ⟨l2, z2, e2⟩ := h2
  refine ⟨by rw [List.length_append]; omega, fun k => if k < 4 then z1 k else z2 (k - 4), fun j hj => ?_⟩
  by_cases c : j < 64
  · have := e1 j c
    show _ = if (if j / 16 < 4 then z1 (j / 16) else z2 (j / 16 - 4)) = true then 0 else H.getD j 0
    rw [List.getD_eq_getElem?_getD, List.getElem?_append_left (by omega), ← List.getD_eq_getElem?_getD, this, if_pos (show j / 16 < 4 by omega)]
    rw [List.getD_eq_getElem?_getD (l := H.take 64), List.getElem?_take_of_lt c, ← List.getD_eq_getElem?_getD]
  · have := e2 (j - 64) (by omega)
    show _ = if (if j / 16 < 4 then z1 (j / 16) else z2 (j / 16 - 4)) = true then 0 else H.getD j 0
    rw [List.getD_eq_getElem?_getD, List.getElem?_append_right (by omega), l1, ← List.getD_eq_getElem?_getD, this, if_neg (show ¬ j / 16 < 4 by omega), show (j - 64) / 16 = j / 16 - 4 by omega]
    rw [List.getD_eq_getElem?_getD (l := H.drop 64), List.getElem?_drop, ← List.getD_eq_getElem?_getD, show 64 + (j - 64) = j by omega]
/-! Queues. -/
theorem flushQ_out (S : Nat → List Nat) : ∀ (Q : List (Nat × List Nat)) (i : Nat), (∀ p ∈ Q, p.1 ≠ i) → flushQ S Q i = S i := fun Q => by
  induction Q generalizing S with
  | nil => intro i _; rfl
  | cons p Q ih =>
    intro i h
    show flushQ (updB S p.1 p.2) Q i = _
    rw [ih _ i (fun q hq => h q (List.mem_cons_of_mem _ hq)), updB_ne _ _ (fun e => h p (List.mem_cons_self ..) e.symm)]
theorem crK_out (S : Nat → List Nat) (Q : List (Nat × List Nat)) (keep : List Bool) (torn sec : Int) (i : Nat) (h : ∀ p ∈ Q, p.1 ≠ i) : ∀ k, k ≤ Q.length → crK S Q keep torn sec k i = S i
  | 0, _ => rfl
  | k + 1, hk => by
    have ih := crK_out S Q keep torn sec i h k (by omega)
    have hne : i ≠ (Q.getD k (0, [])).1 := by
      rw [List.getD_eq_getElem?_getD, List.getElem?_eq_getElem (by omega)]
      exact fun e => h _ (List.getElem_mem (by omega)) e.symm
    unfold crK
    split
    · rw [updB_ne _ _ hne, ih]
    · split
      · rw [updB_ne _ _ hne, ih]
      · exact ih
theorem crash_out (d : Dm) (keep : List Bool) (torn sec : Int) (i : Nat) (h : ∀ p ∈ d.Q, p.1 ≠ i) : (crashD d keep torn sec).N i = d.S i := crK_out _ _ _ _ _ _ h _ (Nat.le_refl _)
theorem crash_SN (d : Dm) (keep : List Bool) (torn sec : Int) : (crashD d keep torn sec).S = (crashD d keep torn sec).N := rfl
theorem crash_n (d : Dm) (keep : List Bool) (torn sec : Int) : (crashD d keep torn sec).n = d.n := rfl
/-! What stands now is what is sure with the queue put onto it. -/
def Nf (d : Dm) : Prop := ∀ i, d.N i = flushQ d.S d.Q i
theorem Nf.put {d : Dm} (h : Nf d) (k : Nat) (l : List Nat) : Nf (putD d k l) := fun i => by
  show updB d.N k l i = flushQ d.S (d.Q ++ [(k, l)]) i
  rw [flushQ_snoc]
  by_cases e : i = k
  · subst e; rw [updB_at, updB_at]
  · rw [updB_ne _ _ e, updB_ne _ _ e]; exact h i
theorem Nf.write {d : Dm} (h : Nf d) (k : Int) (l : List Nat) : Nf (writeD d k l).1 := by
  unfold writeD
  split
  · exact h
  · split
    · exact h
    · exact h.put _ _
theorem Nf.puts : ∀ (ls : List (List Nat)) {d : Dm} (k : Int), Nf d → Nf (putsD d k ls).1
  | [], _, _, h => h
  | l :: ls, d, k, h => by
    rw [putsD_cons]
    split
    · exact Nf.puts ls _ (h.write k l)
    · exact h.write k l
theorem Nf.bar {d : Dm} (h : Nf d) : Nf (barrD d).1 := by
  unfold barrD
  split
  · exact h
  · exact h
theorem barr_zero {d : Dm} (h : Nf d) (hc : (barrD d).2 = 0) : (barrD d).1.Q = [] ∧ ∀ i, (barrD d).1.S i = (barrD d).1.N i := by
  unfold barrD at hc ⊢
  by_cases hd : deadB d = true
  · rw [if_pos hd] at hc; cases hc
  · rw [if_neg hd]; exact ⟨rfl, fun i => (h i).symm⟩
/-- Nothing waits. -/
structure Sur (d : Dm) : Prop where
  q : d.Q = []
  s : ∀ i, d.S i = d.N i
theorem Sur.nf {d : Dm} (h : Sur d) : Nf d := fun i => by rw [h.q]; exact (h.s i).symm
theorem Sur.new (n : Nat) : Sur (newD n) := ⟨rfl, fun _ => rfl⟩
theorem Sur.sure {d : Dm} (h : Nf d) {k : Int} {ls : List (List Nat)} (hc : (sureD d k ls).2 = 0) : Sur (sureD d k ls).1 := by
  unfold sureD at hc ⊢
  by_cases hp : (putsD d k ls).2 = 0
  · rw [if_pos hp] at hc ⊢
    have := barr_zero (Nf.puts ls k h) hc
    exact ⟨this.1, this.2⟩
  · rw [if_neg hp] at hc; exact absurd hc hp
theorem Sur.crash {d : Dm} (h : Sur d) (keep : List Bool) (torn sec : Int) (i : Nat) : (crashD d keep torn sec).N i = d.N i := by
  rw [crash_out d keep torn sec i (by rw [h.q]; simp), h.s]
theorem Sur.seg {d : Dm} (h : Sur d) (ha : d.armed = false) (addr : Int) (m : Sm) (ls : List (List Nat)) : Sur (segW d addr m ls).1 ∧ (segW d addr m ls).1.armed = false ∧ (segW d addr m ls).1.left = d.left := by
  by_cases h1 : chkM m = 0
  · by_cases h2 : wrB d.n addr m.x m.fs m.is ls = true
    · obtain ⟨g1, g2, -, g4⟩ := segW_ok (ls := ls) ha h1 h2
      refine ⟨?_, g2, g4⟩
      unfold segW at g1 ⊢
      rw [if_neg (fun q => q h1), if_neg (by rw [h2]; simp)] at g1 ⊢
      by_cases h3 : (putsD d (addr + 2) ls).2 = 0
      · rw [if_neg (fun q => q h3)] at g1 ⊢
        by_cases h4 : (cleanD (putsD d (addr + 2) ls).1 m.x).2 = 0
        · rw [if_neg (fun q => q h4)] at g1 ⊢
          exact Sur.sure (Sur.sure (Nf.puts ls _ h.nf) h4).nf g1
        · rw [if_pos h4] at g1; exact absurd g1 h4
      · rw [if_pos h3] at g1; exact absurd g1 h3
    · unfold segW
      rw [if_neg (fun q => q h1), if_pos (bool_no h2)]
      exact ⟨h, ha, rfl⟩
  · unfold segW
    rw [if_pos h1]
    exact ⟨h, ha, rfl⟩
end Go.Proofs.YtlkgaefabahkoaaDoor
/-
  The document's disk: New.
-/
namespace Go.Proofs.YtlkgaefabahkoaaDoor
open Go.RowKit

def zeroS : Nat → List Nat := fun _ => zeroB
theorem cellsS_snoc (F : Nat → List Nat) (k : Nat) : cellsS F k ++ [.string (strOf (F k))] = cellsS F (k + 1) := by simp [cellsS, List.range_succ]
theorem rnew_low (k : Int) (hk : k < 1) (w : World) : Calls Tryd.prog 36 #[.int .i64 k] w fun e w' => e = .returned (.tuple #[.agg #[.slice none 0 0, .slice none 0 0, .int .i64 0, .int .i64 0], .int .i64 22]) ∧ Below w.heap.size w w' := by
  go_enter Tryd.func36, Tryd.ntmps36
  go_wp2
  refine bodyPost_ret (v := .tuple #[.agg #[.slice none 0 0, .slice none 0 0, .int .i64 0, .int .i64 0], .int .i64 22]) ?_ rfl ⟨rfl, (Below.refl _ _).alloc (Nat.le_refl _) _⟩
  simp [results, Tryd.results36, go_sem]
theorem rnew_high (k : Int) (hk1 : ¬ k < 1) (hk : 4096 < k) (w : World) : Calls Tryd.prog 36 #[.int .i64 k] w fun e w' => e = .returned (.tuple #[.agg #[.slice none 0 0, .slice none 0 0, .int .i64 0, .int .i64 0], .int .i64 22]) ∧ Below w.heap.size w w' := by
  go_enter Tryd.func36, Tryd.ntmps36
  go_wp2
  refine bodyPost_ret (v := .tuple #[.agg #[.slice none 0 0, .slice none 0 0, .int .i64 0, .int .i64 0], .int .i64 22]) ?_ rfl ⟨rfl, (Below.refl _ _).alloc (Nat.le_refl _) _⟩
  simp [results, Tryd.results36, go_sem]
def RnR (w : World) (n : Nat) (t : Value) (wr : World) : Prop :=
  ∃ (k : Nat) (sv : Value), k ≤ n ∧ t = .int .i64 k ∧ wr.ownsRow (w.heap.size + 2) STR 1 sv k (cellsS zeroS k) ∧ Blo wr w.heap.size RDT #[.slice none 0 0, .slice none 0 0, .int .i64 0, .int .i64 0] ∧ Blo wr (w.heap.size + 1) RDT #[sv, .slice none 0 0, .int .i64 0, .int .i64 (-1)] ∧ Below w.heap.size w wr
def RnO (w : World) (n : Nat) (e : Ending) (w' : World) : Prop :=
  ∃ g c5, e = .returned (.tuple #[.agg #[.slice (some ⟨g, 0, none⟩) n c5, .slice none 0 0, .int .i64 0, .int .i64 (-1)], .int .i64 0]) ∧ Tx w' g n zeroS ∧ Below w.heap.size w w'
theorem conv64 (W : World) : (convert 49 9 (.slice (some ⟨W.heap.size, 0, none⟩) 64 64)).run Tryd.prog (W.alloc (.cells Z64 U8)).drew = .ok (.string (strOf zeroB)) (W.alloc (.cells Z64 U8)).drew := by
  have hB : Bytes (W.alloc (.cells Z64 U8)) (some ⟨W.heap.size, 0, none⟩) zeroB := Bytes.laid W zeroB _ U8 (0, 0) (fun y hy => zeroB_byte y hy) (by decide) (fun i hi => by
    rw [Z64, List.getElem?_toArray, cellsB_get _ _ hi])
  exact run_str _ 49 9 U8 Tryd.underlying49 Tryd.underlying5 Tryd.underlying9 zeroB _ 64 64 (by decide) hB
set_option maxRecDepth 100000 in
set_option maxHeartbeats 2000000 in
theorem rnew_any (n : Nat) (w : World) (hn1 : 1 ≤ n) (hn2 : n ≤ 4096) : Calls Tryd.prog 36 #[.int .i64 n] w (RnO w n) := by
  have g1 : ¬ (n : Int) < 1 := by omega
  have g2 : ¬ (4096 : Int) < (n : Int) := by omega
  have HSt : Hid (RnR w n (.int .i64 0) ((w.alloc (.cells #[.slice none 0 0, .slice none 0 0, .int .i64 0, .int .i64 0] RDT)).alloc (.cells #[.slice none 0 0, .slice none 0 0, .int .i64 0, .int .i64 (-1)] RDT))) := by
    refine ⟨0, .slice none 0 0, Nat.zero_le _, rfl, ⟨rfl, .inl ⟨rfl, rfl⟩⟩, (blo_laid w RDT _).alloc _, ?_, dr_two _ _ _⟩
    have h := blo_laid (w.alloc (.cells #[.slice none 0 0, .slice none 0 0, .int .i64 0, .int .i64 0] RDT)) RDT #[.slice none 0 0, .slice none 0 0, .int .i64 0, .int .i64 (-1)]
    rw [show (w.alloc (.cells #[.slice none 0 0, .slice none 0 0, .int .i64 0, .int .i64 0] RDT)).heap.size = w.heap.size + 1 by simp] at h
    exact h
  go_enter Tryd.func36, Tryd.ntmps36
  go_wp2_with fail
  go_loopw [5] (fun t wr => RnR w n t wr) (fun t _ => n - (intOf t).toNat)
  case atStart => exact HSt.out
  case round =>
    clear HSt g1 g2
    obtain ⟨k, sv, hk, rfl, hO, hZ, hX, hB⟩ := hrel
    have HO := Lib.hid hO
    have HX := Lib.hid hX
    have HZ := Lib.hid hZ
    have HB := Lib.hid hB
    clear hO hX hZ hB
    have k0 : (0 : Int) ≤ (k : Int) := by omega
    have kb : (k : Int) ≤ 4096 := by omega
    by_cases hlt : k < n
    · have k1 : (k : Int) < (n : Int) := by omega
      have x0 := HX.out.cell 0
      simp at x0
      have hmk := run_make64
      have hcv := conv64 wr
      have hlx := HX.out.lt
      obtain ⟨i0, hi0, hz0, hz1, hz2⟩ := info_parts info_str
      have hb1 : Below wr.heap.size wr ((wr.alloc (.cells Z64 U8)).alloc (.cells #[.string (strOf zeroB)] STR)).drew := (((Below.refl _ _).alloc (Nat.le_refl _) _).alloc (by simp) _).drew
      have HNs : Hid (((wr.alloc (.cells Z64 U8)).alloc (.cells #[.string (strOf zeroB)] STR)).drew.heap[wr.heap.size + 1]? = some (.cells #[.string (strOf zeroB)] STR (0, 0))) := by
        have h := heap_alloc_new (wr.alloc (.cells Z64 U8)) (.cells #[.string (strOf zeroB)] STR)
        rw [show (wr.alloc (.cells Z64 U8)).heap.size = wr.heap.size + 1 by simp] at h
        exact h
      have HO1 := Lib.hid (own_later HO.out hb1)
      have HX1 := Lib.hid (HX.out.later hb1)
      have HZ1 := Lib.hid (HZ.out.later hb1)
      have HB1 := Lib.hid (HB.out.trans (hb1.mono HB.out.size))
      have hx1 : (wr.alloc (.cells Z64 U8)).cell? ⟨w.heap.size + 1, 0, none⟩ = some sv := by simpa using (HX.out.alloc (.cells Z64 U8)).cell 0
      have hx2 : ((wr.alloc (.cells Z64 U8)).alloc (.cells #[.string (strOf zeroB)] STR)).cell? ⟨w.heap.size + 1, 0, none⟩ = some sv := by simpa using ((HX.out.alloc (.cells Z64 U8)).alloc (.cells #[.string (strOf zeroB)] STR)).cell 0
      clear hb1
      go_wp2_with fail
      go_region_law (refine step_append_lies _ (by rfl) (.tmp 20) (.tmp 23) 26 (by rfl) (w.heap.size + 2) STR i0 _ 1 16 Tryd.underlying26 hi0 hz0 hz1 hz2 rfl (by decide) sv k (cellsS zeroS k) (by simp [go_sem]) HO1.out ⟨wr.heap.size + 1, 0, none⟩ 1 1 [.string (strOf zeroB)] (by simp [go_sem]) (by rfl) (World.news_of_block (cs := #[.string (strOf zeroB)]) (t := STR) (fr := (0, 0)) HNs.out) (by simp [Value.oneCell']) (by decide) (by unfold maxLen; omega) (by omega) (by simp; omega) (wr.heap.size + 1 + 1) (by simp) ?_; intro g1 cap1 w4 hown hgrow hat hlt1; rw [show cellsS zeroS k ++ [Value.string (strOf zeroB)] = cellsS zeroS (k + 1) from cellsS_snoc zeroS k] at hown; have HOwn := Lib.hid hown; have HX4 := Lib.hid (HX1.out.grown hgrow (HX1.out.row_apart HO1.out (by decide))); have HZ4 := Lib.hid (HZ1.out.grown hgrow (HZ1.out.row_apart HO1.out (by decide))); have HB4 := Lib.hid (HB1.out.grown hgrow HB1.out.size (fun q hq => by have := (own_lt HO1.out hq).1; omega)); have f0 := HX4.out.frozen 0; have x4 := HX4.out.cell 0; simp at x4; clear hown hgrow hat)
      all_goals
        have HXf := Lib.hid (HX4.out.put 0 (.slice (some ⟨g1, 0, none⟩) (k + 1) cap1))
        have HZf := Lib.hid (HZ4.out.far (p := ⟨w.heap.size + 1, 0, none⟩) (by simp) (.slice (some ⟨g1, 0, none⟩) (k + 1) cap1))
        have HBf := Lib.hid (HB4.out.setCell (p := ⟨w.heap.size + 1, 0, none⟩) (Nat.le_succ _) (.slice (some ⟨g1, 0, none⟩) (k + 1) cap1))
        have HOf := Lib.hid (own_off HOwn.out (p := ⟨w.heap.size + 1, 0, none⟩) (Nat.lt_succ_self _) (.slice (some ⟨g1, 0, none⟩) (k + 1) cap1))
        clear f0 x4 hx1 hx2 x0 hmk hcv
        go_wp2_with fail
        go_roundw
        case rel => exact ⟨k + 1, _, hlt, by simp, HOf.out, HZf.out, HXf.out, HBf.out⟩
        case measure => simp [intOf]; omega
    · have hke : k = n := by omega
      subst hke
      have k1 : ¬ (k : Int) < (k : Int) := by omega
      obtain ⟨a', cap', rfl, _⟩ := own_slice HO.out
      obtain ⟨g, rfl, hg, htx⟩ := tx_own (by omega) HO.out
      have HTx := Lib.hid htx
      have d0 := HX.out.cell 0
      have d1 := HX.out.cell 1
      have d2 := HX.out.cell 2
      have d3 := HX.out.cell 3
      have z0 := HZ.out.cell 0
      have z1 := HZ.out.cell 1
      have z2 := HZ.out.cell 2
      have z3 := HZ.out.cell 3
      have e0 := HZ.out.frozen 0
      have e1 := HZ.out.frozen 1
      have e2 := HZ.out.frozen 2
      have e3 := HZ.out.frozen 3
      simp at d0 d1 d2 d3 z0 z1 z2 z3
      clear HX HZ HO htx
      go_wp2
      refine bodyPost_ret (v := .tuple #[.agg #[.slice (some ⟨g, 0, none⟩) k cap', .slice none 0 0, .int .i64 0, .int .i64 (-1)], .int .i64 0]) ?_ rfl ⟨g, cap', rfl, ?_, ?_⟩
      · simp [results, Tryd.results36, go_sem, d0, d1, d2, d3, z0, z1, z2, z3]
      · have hg2 : w.heap.size ≠ g := by omega
        exact ((((HTx.out.far (p := ⟨w.heap.size, 0, none⟩) hg2 _).far (p := ⟨w.heap.size, 1, none⟩) hg2 _).far (p := ⟨w.heap.size, 2, none⟩) hg2 _).far (p := ⟨w.heap.size, 3, none⟩) hg2 _)
      · exact dr_four _ _ _ _ _ _ _ HB.out (Nat.le_refl _)
end Go.Proofs.YtlkgaefabahkoaaDoor
/-
  The document's disk held against the program's: Tells.
-/
namespace Go.Proofs.YtlkgaefabahkoaaDoor
open Go.RowKit

def lfD (d : Dm) : Int := if d.armed = true then d.left else -1
def agR (sa qa : Option Addr) (sc qc : Nat) (d : Dm) : Array Value := #[.slice sa d.n sc, .slice qa d.Q.length qc, .int .i64 d.steps, .int .i64 (lfD d)]
/-- The document's disk, in memory. -/
structure Mr (w : World) (sa qa : Option Addr) (sc qc : Nat) (d : Dm) : Prop where
  s : Rds w sa (cellsS d.S d.n)
  q : Rds w qa (cells2 d.Q)
  sn : sa = none → d.n = 0 ∧ sc = 0
  qn : qa = none → d.Q.length = 0 ∧ qc = 0
  st : ∀ ad, sa = some ad → ∃ cs, Blo w ad.block STR cs
  qt : ∀ ad, qa = some ad → ∃ cs, Blo w ad.block RWT cs
  now : ∀ i, d.N i = flushQ d.S d.Q i
  pos : 0 ≤ d.left
theorem Rds.out {X : Nat → Prop} {w w' : World} {a : Option Addr} {xs : List Value} (h : Rds w a xs) (ho : Out X w w') (hx : ∀ ad, a = some ad → ¬ X ad.block) : Rds w' a xs := fun j u hj => by
  obtain ⟨b, o, ha, hc⟩ := h j u hj
  exact ⟨b, o, ha, ho.cell hc (show ¬ X b from hx ⟨b, o, none⟩ ha)⟩
theorem Mr.out {X : Nat → Prop} {w w' : World} {sa qa : Option Addr} {sc qc : Nat} {d : Dm} (h : Mr w sa qa sc qc d) (ho : Out X w w') (hx : ∀ g cs, Blo w g STR cs ∨ Blo w g RWT cs → ¬ X g) : Mr w' sa qa sc qc d :=
  ⟨h.s.out ho (fun ad e => by obtain ⟨cs, hb⟩ := h.st ad e; exact hx _ _ (.inl hb)), h.q.out ho (fun ad e => by obtain ⟨cs, hb⟩ := h.qt ad e; exact hx _ _ (.inr hb)), h.sn, h.qn,
   fun ad e => by obtain ⟨cs, hb⟩ := h.st ad e; exact ⟨cs, ho.blo hb (hx _ _ (.inl hb))⟩, fun ad e => by obtain ⟨cs, hb⟩ := h.qt ad e; exact ⟨cs, ho.blo hb (hx _ _ (.inr hb))⟩, h.now, h.pos⟩
theorem Tx.typed {w : World} {g n : Nat} {F : Nat → List Nat} (h : Tx w g n F) : ∀ ad, some (⟨g, 0, none⟩ : Addr) = some ad → ∃ cs, Blo w ad.block STR cs := fun ad e => by
  cases e; obtain ⟨cs, h1, _⟩ := h; exact ⟨cs, h1⟩
theorem own_typed {w : World} {base n cap size : Nat} {e : TypeId} {a : Option Addr} {xs : List Value} (h : w.ownsRow base e size (.slice a n cap) n xs) : ∀ ad, a = some ad → ∃ cs, Blo w ad.block e cs := fun ad ha => by
  rcases id h.2 with ⟨h1, _⟩ | ⟨g, c, cur, h1, _, h3, _⟩
  · cases h1; cases ha
  · cases h1; cases ha; exact ⟨cur, h3⟩
theorem Mr.later {w w' : World} {sa qa : Option Addr} {sc qc : Nat} {d : Dm} (h : Mr w sa qa sc qc d) (hb : Below w.heap.size w w') : Mr w' sa qa sc qc d :=
  h.out (X := fun _ => False) (Out.of_below hb) (fun _ _ _ h => h)
def ats (Q : List (Nat × List Nat)) : List Int := Q.map fun p => (p.1 : Int)
theorem ats_length (Q : List (Nat × List Nat)) : (ats Q).length = Q.length := by simp [ats]
theorem ats_snoc (Q : List (Nat × List Nat)) (k : Nat) (h : k < Q.length) : ats (Q.take k) ++ [(Q[k].1 : Int)] = ats (Q.take (k + 1)) := by
  rw [take_snoc' Q k h, ats, ats, List.map_append]; rfl
def TeR (w : World) (d : Dm) (bx : Array Value) (t v : Value) (wr : World) : Prop :=
  ∃ k : Nat, k ≤ d.Q.length ∧ t = .int .i64 k ∧ wr.ownsRow (w.heap.size + 1) 3 1 v k (cellsI (ats (d.Q.take k))) ∧ Blo wr w.heap.size RDT bx ∧ Below w.heap.size w wr
def Te2 (w : World) (d : Dm) (bx : Array Value) (t : Value) (wr : World) : Prop :=
  ∃ k : Nat, k ≤ d.n ∧ t = .int .i64 k ∧ Blo wr w.heap.size RDT bx ∧ Below w.heap.size w wr
theorem info_int' : (Tryd.prog.info? 3).map (fun i => (i.zero, i.size, i.bytes)) = some (some (.int .i64 0), 1, 8) := by kernel_rfl
theorem ints_true (l : List Int) (a b : Option Addr) (n c d : Nat) (w : World) (hl : n = l.length) (hn : n < 1000000000) (ha : Ints w a l) (hb : Ints w b l) :
    Calls Tryd.prog 39 #[.slice a n c, .slice b n d] w fun e w' => e = .returned (.bool true) ∧ Below w.heap.size w w' := by
  have h := ints_same l l a b n c d w hl hl hn ha hb
  rw [decide_eq_true rfl] at h
  exact h
theorem ints_blo {w : World} {g : Nat} {l : List Int} (h : Blo w g 3 (cellsI l).toArray) : Ints w (some ⟨g, 0, none⟩) l := fun _ =>
  ⟨g, 0, rfl, fun i hi => by rw [Nat.zero_add, h.cell, List.getElem?_toArray, cellsI_get l i hi]⟩
theorem bytes_blk {w : World} {g : Nat} {l : List Nat} (h : BBlk w g l) : Bytes w (some ⟨g, 0, none⟩) l :=
  ⟨h.2.2, by rw [h.2.1]; decide, fun _ => ⟨g, 0, rfl, fun i hi => by rw [Nat.zero_add, h.1.cell, List.getElem?_toArray, cellsB_get _ _ hi]⟩⟩
set_option maxRecDepth 100000 in
set_option maxHeartbeats 4000000 in
theorem tells_any {C : Nat} {w : World} {L : Dl} {d : Dm} (sa qa : Option Addr) (sc qc : Nat) (h : Dk C w L d) (hm : Mr w sa qa sc qc d) :
    Calls Tryd.prog 11 #[.pointer (some ⟨L.bd, 0, none⟩), .agg (agR sa qa sc qc d)] w fun e w' => e = .returned (.bool true) ∧ Below w.heap.size w w' := by
  have H := Lib.hid h
  have HM := Lib.hid hm
  have hn1 := h.few.1
  have hn2 := h.few.2
  have hqn := h.len
  have HX := Lib.hid (blo_laid w RDT (agR sa qa sc qc d))
  have hb1 : Below w.heap.size w (w.alloc (.cells (agR sa qa sc qc d) RDT)) := (Below.refl _ _).alloc (Nat.le_refl _) _
  have HSt : Hid (TeR w d (agR sa qa sc qc d) (.int .i64 0) (.slice none 0 0) (w.alloc (.cells (agR sa qa sc qc d) RDT))) :=
    ⟨0, Nat.zero_le _, rfl, ⟨rfl, .inl ⟨rfl, rfl⟩⟩, HX.out, hb1⟩
  clear h hm hb1
  show Calls Tryd.prog 11 #[.pointer (some ⟨L.bd, 0, none⟩), .agg #[.slice sa d.n sc, .slice qa d.Q.length qc, .int .i64 d.steps, .int .i64 (lfD d)]] w _
  go_enter Tryd.func11, Tryd.ntmps11
  go_wp2_with fail
  go_loopw [13, 5] (fun t v wr => TeR w d (agR sa qa sc qc d) t v wr) (fun t _ _ => d.Q.length - (intOf t).toNat)
  case atStart => exact HSt.out
  case round =>
    clear HSt HX
    obtain ⟨k, hk, rfl, hO, hX, hB⟩ := hrel
    have HO := Lib.hid hO
    have HX := Lib.hid hX
    have HB := Lib.hid hB
    clear hO hX hB
    have k0 : (0 : Int) ≤ (k : Int) := by omega
    have kb : (k : Int) ≤ 1000000 := by omega
    have x1 := HX.out.cell 1
    simp [agR] at x1
    by_cases hlt : k < d.Q.length
    · have k1 : (k : Int) < (d.Q.length : Int) := by omega
      have HKq : Hid (k < d.Q.length) := hlt
      obtain ⟨qb, qo, hqa, c0⟩ := (HM.out.later HB.out).q (k * 2) _ (cells2_at d.Q k hlt).1
      subst hqa
      have HL : Hid ((ats (d.Q.take k)).length = k) := by show (ats (d.Q.take k)).length = k; rw [ats_length, List.length_take]; omega
      have HN := Lib.hid (ats_snoc d.Q k hlt)
      generalize d.Q[k].1 = q1 at *
      obtain ⟨va, vc, rfl, hvc⟩ := own_slice HO.out
      go_wp2_with (at_builtin; refine wp_append_int rfl (.tmp 16) (.tmp 23) 34 rfl (w.heap.size + 1) 3 Tryd.underlying34 info_int' (.slice va k vc) k (ats (d.Q.take k)) rfl (own_later HO.out ((Below.refl _ _).alloc (Nat.le_refl _) _)) wr.heap.size (q1 : Int) rfl ((blo_laid wr 3 #[.int .i64 (q1 : Int)]).cell 0) (by omega) (by have := HB.out.size; have := HX.out.lt; simp; omega) ?_; intro g5 c5 w5 hown hgrow hg5 hlt5; have hal : Below wr.heap.size wr (wr.alloc (.cells #[.int .i64 (q1 : Int)] 3)) := (Below.refl _ _).alloc (Nat.le_refl _) _; rw [HN.out] at hown; have HO5 := Lib.hid hown; have HX5 := Lib.hid ((HX.out.later hal).grown hgrow ((HX.out.later hal).row_apart (own_later HO.out hal) (by decide))); have HB5 := Lib.hid ((HB.out.trans (hal.mono HB.out.size)).grown hgrow (Nat.le_trans HB.out.size hal.size) (fun q hq => by have := (own_lt (own_later HO.out hal) hq).1; omega)); clear hown hgrow hg5 hlt5 hal)
      go_roundw
      case rel => exact ⟨k + 1, HKq.out, by simp, HO5.out, HX5.out, HB5.out⟩
      case measure => simp [intOf]; omega
    · have hke : k = d.Q.length := by omega
      subst hke
      have k1 : ¬ (d.Q.length : Int) < (d.Q.length : Int) := by omega
      obtain ⟨va, vc, rfl, hvc⟩ := own_slice HO.out
      have HO2 : Hid (wr.ownsRow (w.heap.size + 1) 3 1 (.slice va d.Q.length vc) d.Q.length (cellsI (ats d.Q))) := by
        have h := HO.out
        rw [List.take_length] at h
        exact h
      have HD := Lib.hid (H.out.later HB.out)
      have KP : Hid (∀ W, Below wr.heap.size wr W → W.cell? ⟨w.heap.size, 0, none⟩ = some (.slice sa d.n sc) ∧ W.cell? ⟨w.heap.size, 2, none⟩ = some (.int .i64 d.steps)) := fun W hb =>
        ⟨by simpa [agR] using (HX.out.later hb).cell 0, by simpa [agR] using (HX.out.later hb).cell 2⟩
      have b0 : ((d.n : Int) != (d.n : Int)) = false := by simp
      have b1 : (d.steps != d.steps) = false := by simp
      have HQn : Hid (d.Q.length = (ats d.Q).length) := (ats_length d.Q).symm
      clear HO x1
      go_wp2_with fail
      go_region_held3 (fun W => W.cell? ⟨w.heap.size, 0, none⟩ = some (.slice sa d.n sc) ∧ W.cell? ⟨w.heap.size, 2, none⟩ = some (.int .i64 d.steps)) ((first | exact KP.out _ ((Below.refl _ _).drew) | exact HKS.out | exact HKS3.out | fail)) ((first
        | (go_at_call 38; (with_reducible refine (dsize_any (HD.out.later ((Below.refl _ _).drew))).mono ?_); rintro e w' ⟨rfl, rfl⟩)
        | (go_at_call 34; (with_reducible refine (steps_any (HD.out.later ((Below.refl _ _).drew))).mono ?_); rintro e w' ⟨rfl, rfl⟩)
        | (go_at_call 40; (with_reducible refine (queue_any (HD.out.later ((Below.refl _ _).drew))).mono ?_); rintro e w2 ⟨g2, rfl, hq2, hg2, hb2⟩; have HB2 : Hid (Below wr.heap.size wr w2) := ((Below.refl _ _).drew).trans hb2; have HKS := Lib.hid (KP.out _ HB2.out); have HQ2 : Hid (Ints w2 (some ⟨g2, 0, none⟩) (ats d.Q)) := ints_blo hq2; have HV2 := Lib.hid (Ints.own (own_later HO2.out HB2.out)); clear hq2 hg2 hb2)
        | (go_at_call 39; (with_reducible refine (ints_true (ats d.Q) _ _ _ _ _ _ HQn.out (by omega) HQ2.out HV2.out).mono ?_); rintro e w3 ⟨rfl, hb3⟩; have HB3 : Hid (Below wr.heap.size wr w3) := HB2.out.trans (hb3.mono HB2.out.size); have HKS3 := Lib.hid (KP.out _ HB3.out); clear hb3)))
      have HX9 := Lib.hid (HX.out.later HB3.out)
      have HB9 := Lib.hid (HB.out.trans (HB3.out.mono HB.out.size))
      have x0 := HX9.out.cell 0
      simp [agR] at x0
      clear HKS HKS3 HB2 HB3 HQ2 HV2 KP HO2 HX HB HD b0 b1 HQn k0 kb k1 hlt hvc
      go_wp2_with fail
      have HSt : Hid (Te2 w d (agR sa qa sc qc d) (.int .i64 0) w3) := ⟨0, Nat.zero_le _, rfl, HX9.out, HB9.out⟩
      clear HX9 HB9 x0
      go_loopw [49] (fun t wr => Te2 w d (agR sa qa sc qc d) t wr) (fun t _ => d.n - (intOf t).toNat)
      case atStart => exact HSt.out
      case round =>
        clear HSt
        obtain ⟨i, hi, rfl, hX, hB⟩ := hrel
        have HX := Lib.hid hX
        have HB := Lib.hid hB
        clear hX hB
        have i0 : (0 : Int) ≤ (i : Int) := by omega
        have ib : (i : Int) ≤ 1000000 := by omega
        by_cases hlt : i < d.n
        · have i1 : (i : Int) < (d.n : Int) := by omega
          have HIn : Hid (i < d.n) := hlt
          go_wp2_with fail
          refine (read_yes i HIn.out (H.out.later HB.out)).mono ?_
          rintro e w4 ⟨g, rfl, hr, hg, hb⟩
          have HR := Lib.hid hr
          have HX4 := Lib.hid (HX.out.later hb)
          have HB4 := Lib.hid (HB.out.trans (hb.mono HB.out.size))
          have HM4 := Lib.hid (HM.out.later HB4.out)
          clear hr hg hb HX HB
          have c0 : ∀ x : Kept w4, x.at_.cell? ⟨w.heap.size, 0, none⟩ = some (.slice sa d.n sc) := fun x => by simpa [agR] using (HX4.out.later x.below).cell 0
          have c1 : ∀ x : Kept w4, x.at_.cell? ⟨w.heap.size, 1, none⟩ = some (.slice qa d.Q.length qc) := fun x => by simpa [agR] using (HX4.out.later x.below).cell 1
          have c2 : ∀ x : Kept w4, x.at_.cell? ⟨w.heap.size, 2, none⟩ = some (.int .i64 d.steps) := fun x => by simpa [agR] using (HX4.out.later x.below).cell 2
          have c3 : ∀ x : Kept w4, x.at_.cell? ⟨w.heap.size, 3, none⟩ = some (.int .i64 (lfD d)) := fun x => by simpa [agR] using (HX4.out.later x.below).cell 3
          have HC := Lib.hid (fun x : Kept w4 => rread_any sa qa d.n sc d.Q.length qc d.steps (lfD d) d.S d.Q i HIn.out x.at_ rfl (HM4.out.later x.below).q (HM4.out.later x.below).s hqn)
          have hcv : ∀ x : Kept w4, (convert 49 9 (.slice (some ⟨g, 0, none⟩) 64 64)).run Tryd.prog x.at_ = .ok (.string (strOf (d.N i))) x.at_ := fun x =>
            run_str x.at_ 49 9 U8 Tryd.underlying49 Tryd.underlying5 Tryd.underlying9 (d.N i) _ 64 64 HR.out.2.1.symm (bytes_blk (HR.out.out (X := fun _ => False) (Out.of_below x.below) (fun h => h)))
          rw [← HM.out.now i] at HC
          generalize d.N i = X at *
          have hs1 : ((strOf X).toList == (strOf X).toList) = true := by simp
          have hs2 : ((strOf X).toList != (strOf X).toList) = false := by simp
          go_wp2_with fail
          refine wp_region_kept (by kernel_rfl) (by kernel_rfl) ?_
          repeat (go_big_quiet_step ((go_at_call 32; exact kept_call _ (HC.out _))))
          refine wpQuiet_nil ?_
          rintro W ⟨wx, rfl⟩
          have HX5 := Lib.hid (HX4.out.later wx.below)
          have HB5 := Lib.hid (HB4.out.trans (wx.below.mono HB4.out.size))
          clear c0 c1 c2 c3 HC hcv hs1 hs2 HR HM4
          go_wp2_with fail
          go_roundw
          case rel => exact ⟨i + 1, HIn.out, by simp, HX5.out, HB5.out⟩
          case measure => simp [intOf]; omega
        · have i1 : ¬ (i : Int) < (d.n : Int) := by omega
          go_wp2
          go_ret
          exact ⟨rfl, HB.out⟩
end Go.Proofs.YtlkgaefabahkoaaDoor
/-
  The program's calls and the document's, each told for every input by a function on the model's disk.
-/
namespace Go.Proofs.YtlkgaefabahkoaaDoor
open Go.RowKit

section
variable {C : Nat} {w : World} {L : Dl} {d : Dm}
theorem write_any (k : Int) (a : Option Addr) (m cap : Nat) (l : List Nat) (hm : m = l.length) (hm2 : m ≤ 9223372036854775807) (hl0 : 0 ≤ d.left) (hs : d.steps < 1000000) (hq : d.Q.length < 1000000) (hb : l.length = 64 → ∃ g, a = some ⟨g, 0, none⟩ ∧ SBlk w g l) (h : Dk C w L d) :
    Calls Tryd.prog 83 #[.pointer (some ⟨L.bd, 0, none⟩), .int .i64 k, .slice a m cap] w (CodeO C w L (writeD d k l).1 (writeD d k l).2) := by
  unfold writeD
  by_cases h1 : k < 0
  · rw [if_pos (.inl h1)]; exact write_low k a m cap h1 h
  · by_cases h2 : (d.n : Int) ≤ k
    · rw [if_pos (.inr (.inl h2))]; exact write_high k a m cap h2 h
    · obtain ⟨i, rfl⟩ : ∃ i : Nat, k = (i : Int) := ⟨k.toNat, by omega⟩
      have hin : i < d.n := by omega
      by_cases h3 : l.length = 64
      · rw [if_neg (by rintro (q | q | q) <;> omega)]
        obtain ⟨g, rfl, hB⟩ := hb h3
        rw [hm, h3]
        by_cases h4 : deadB d = true
        · rw [if_pos h4]; exact write_dead i _ cap hin h4 h
        · rw [if_neg h4]
          have := write_sl i g cap l hin (bool_no h4) hl0 hs hq hB h
          simpa using this
      · rw [if_pos (.inr (.inr h3))]; exact write_len i a m cap hin (by omega) hm2 h
end
/-- What a call of the document's disk leaves. -/
def MrO (w : World) (d' : Dm) (code : Int) (e : Ending) (w' : World) : Prop :=
  ∃ sa qa sc qc, e = .returned (.tuple #[.agg (agR sa qa sc qc d'), .int .i64 code]) ∧ Mr w' sa qa sc qc d' ∧ Below w.heap.size w w'
theorem lf_dead {d : Dm} (h : deadB d = true) : lfD d = 0 := by
  unfold deadB at h
  simp at h
  unfold lfD
  rw [if_pos h.1, h.2]
section
variable {C : Nat} {w w1 : World} {L : Dl} {d : Dm} {sa qa : Option Addr} {sc qc : Nat}
theorem mstep (hd : deadB d = false) (hl : 0 ≤ d.left) (hl2 : d.left ≤ 9223372036854775807) (h1 : 0 ≤ d.steps) (h2 : d.steps < 1000000) (sa qa : Option Addr) (sc qc : Nat) (W : World) :
    Calls Tryd.prog 90 #[.agg #[.slice sa d.n sc, .slice qa d.Q.length qc, .int .i64 d.steps, .int .i64 (lfD d)]] W fun e w' => e = .returned (.tuple #[.agg #[.slice sa d.n sc, .slice qa d.Q.length qc, .int .i64 (d.steps + 1), .int .i64 (lfD (stepD d))], .bool true]) ∧ Below W.heap.size W w' := by
  cases ha : d.armed with
  | false =>
    have e1 : lfD d = -1 := by simp [lfD, ha]
    have e2 : lfD (stepD d) = -1 := by simp [lfD, stepD, ha]
    rw [e1, e2]
    exact rstep_free sa qa d.n sc d.Q.length qc d.steps h1 h2 W
  | true =>
    have e1 : lfD d = d.left := by simp [lfD, ha]
    have e2 : lfD (stepD d) = d.left - 1 := by simp [lfD, stepD, ha]
    have : d.left ≠ 0 := by
      intro e
      simp [deadB, ha, e] at hd
    rw [e1, e2]
    exact rstep_arm sa qa d.n sc d.Q.length qc d.steps d.left h1 h2 (by omega) hl2 W
theorem mstep_dead (hd : deadB d = true) (sa qa : Option Addr) (sc qc : Nat) (W : World) :
    Calls Tryd.prog 90 #[.agg #[.slice sa d.n sc, .slice qa d.Q.length qc, .int .i64 d.steps, .int .i64 (lfD d)]] W fun e w' => e = .returned (.tuple #[.agg #[.slice sa d.n sc, .slice qa d.Q.length qc, .int .i64 d.steps, .int .i64 (lfD d)], .bool false]) ∧ Below W.heap.size W w' := by
  rw [lf_dead hd]
  exact rstep_dead sa qa d.n sc d.Q.length qc d.steps W
theorem MrO.stay {w w' : World} {e : Ending} {code : Int} (hm : Mr w sa qa sc qc d) (h : e = .returned (.tuple #[.agg #[.slice sa d.n sc, .slice qa d.Q.length qc, .int .i64 d.steps, .int .i64 (lfD d)], .int .i64 code]) ∧ Below w.heap.size w w') : MrO w d code e w' :=
  ⟨sa, qa, sc, qc, h.1, hm.later h.2, h.2⟩
/-- What a disk's numbers keep. -/
structure Dn (d : Dm) : Prop where
  few : 1 ≤ d.n ∧ d.n ≤ 4096
  good : ∀ p ∈ d.Q, GoodW d.n p
  stp : 0 ≤ d.steps ∧ d.steps ≤ 1000000
  lft : -1 ≤ d.left ∧ d.left ≤ 9223372036854775807
theorem Dk.nums (h : Dk C w1 L d) : Dn d := ⟨h.few, h.good, h.stp, h.lft⟩
theorem mput_n (k : Int) (l : List Nat) (h : Dn d) (hm : Mr w sa qa sc qc d) (hs : d.steps < 1000000) (hq : d.Q.length ≤ 100000) :
    Calls Tryd.prog 87 #[.agg (agR sa qa sc qc d), .int .i64 k, .string (strOf l)] w (MrO w (writeD d k l).1 (writeD d k l).2) := by
  unfold writeD
  have hsz := strOf_size l
  by_cases h1 : k < 0
  · rw [if_pos (.inl h1)]; exact (rput_low sa qa d.n sc d.Q.length qc d.steps (lfD d) k (strOf l) h1 w).mono fun e w' q => MrO.stay hm q
  · by_cases h2 : (d.n : Int) ≤ k
    · rw [if_pos (.inr (.inl h2))]; exact (rput_high sa qa d.n sc d.Q.length qc d.steps (lfD d) k (strOf l) h1 h2 w).mono fun e w' q => MrO.stay hm q
    · by_cases h3 : l.length = 64
      · rw [if_neg (by rintro (q | q | q) <;> omega)]
        have h64 : (((strOf l).size : Int) != 64) = false := by rw [hsz, h3]; rfl
        by_cases h4 : deadB d = true
        · rw [if_pos h4]
          exact (rput_dead sa qa d.n sc d.Q.length qc d.steps (lfD d) d.steps (lfD d) k (strOf l) h1 h2 h64 w (mstep_dead h4 sa qa sc qc)).mono fun e w' q => MrO.stay hm q
        · rw [if_neg h4]
          obtain ⟨i, rfl⟩ : ∃ i : Nat, k = (i : Int) := ⟨k.toNat, by omega⟩
          refine (rput_yes sa qa d.n sc d.Q.length qc d.steps (lfD d) (d.steps + 1) (lfD (stepD d)) i l d.Q h2 h64 w (mstep (bool_no h4) hm.pos h.lft.2 h.stp.1 hs sa qa sc qc) rfl hm.q hm.qn hq).mono ?_
          rintro e w' ⟨a5, c5, rfl, ⟨base, hO⟩, hN, hB⟩
          have el : (putD d i l).Q.length = d.Q.length + 1 := by simp [putD]
          refine ⟨sa, a5, sc, c5, ?_, ⟨(hm.later hB).s, (show Rds w' a5 (cells2 (d.Q ++ [(i, l)])) from Rds.own hO), hm.sn, fun e => ?_, (hm.later hB).st, own_typed hO, fun j => ?_, putD_pos hm.pos (bool_no h4)⟩, hB⟩
          · simp only [Int.toNat_natCast]
            unfold agR
            rw [el]
            rfl
          · have := hN e; omega
          · show updB d.N i l j = flushQ d.S (d.Q ++ [(i, l)]) j
            rw [flushQ_snoc]
            unfold updB
            split
            · rfl
            · exact hm.now j
      · rw [if_pos (.inr (.inr h3))]
        have h64 : (((strOf l).size : Int) != 64) = true := by rw [hsz, bne_iff_ne]; omega
        exact (rput_len sa qa d.n sc d.Q.length qc d.steps (lfD d) k (strOf l) h1 h2 h64 w).mono fun e w' q => MrO.stay hm q
theorem mput_any (k : Int) (l : List Nat) (h : Dk C w1 L d) (hm : Mr w sa qa sc qc d) (hs : d.steps < 1000000) (hq : d.Q.length ≤ 100000) :
    Calls Tryd.prog 87 #[.agg (agR sa qa sc qc d), .int .i64 k, .string (strOf l)] w (MrO w (writeD d k l).1 (writeD d k l).2) := mput_n k l h.nums hm hs hq
theorem mbar_n (h : Dn d) (hm : Mr w sa qa sc qc d) (hs : d.steps < 1000000) (hq : d.Q.length ≤ 100000) :
    Calls Tryd.prog 58 #[.agg (agR sa qa sc qc d)] w (MrO w (barrD d).1 (barrD d).2) := by
  unfold barrD
  by_cases h4 : deadB d = true
  · rw [if_pos h4]
    exact (rbar_dead sa qa d.n sc d.Q.length qc d.steps (lfD d) d.steps (lfD d) w (mstep_dead h4 sa qa sc qc)).mono fun e w' q => MrO.stay hm q
  · rw [if_neg h4]
    refine (rbar_yes sa qa d.n sc d.Q.length qc d.steps (lfD d) (d.steps + 1) (lfD (stepD d)) d.S d.Q h.few.1 (by have := h.few.2; omega) w (mstep (bool_no h4) hm.pos h.lft.2 h.stp.1 hs sa qa sc qc) rfl hm.q hm.s hm.sn (fun p hp => (h.good p hp).1) hq).mono ?_
    rintro e w' ⟨g, c5, rfl, hR, hB⟩
    refine ⟨some ⟨g, 0, none⟩, none, c5, 0, rfl, ⟨hR.rds, fun j u hj => (by cases hj), fun e => (by cases e), fun _ => ⟨rfl, rfl⟩, hR.typed, fun ad e => (by cases e), fun j => ?_, barD_pos hm.pos (bool_no h4)⟩, hB⟩
    exact hm.now j
theorem mbar_any (h : Dk C w1 L d) (hm : Mr w sa qa sc qc d) (hs : d.steps < 1000000) (hq : d.Q.length ≤ 100000) :
    Calls Tryd.prog 58 #[.agg (agR sa qa sc qc d)] w (MrO w (barrD d).1 (barrD d).2) := mbar_n h.nums hm hs hq
theorem mnew_any (n : Nat) (w : World) (h1 : 1 ≤ n) (h2 : n ≤ 4096) : Calls Tryd.prog 36 #[.int .i64 n] w (MrO w (newD n) 0) := by
  refine (rnew_any n w h1 h2).mono ?_
  rintro e w' ⟨g, c5, rfl, hR, hB⟩
  exact ⟨some ⟨g, 0, none⟩, none, c5, 0, rfl, ⟨hR.rds, fun j u hj => (by cases hj), fun e => (by cases e), fun _ => ⟨rfl, rfl⟩, hR.typed, fun ad e => (by cases e), fun j => rfl, Int.le_refl 0⟩, hB⟩
end
end Go.Proofs.YtlkgaefabahkoaaDoor
