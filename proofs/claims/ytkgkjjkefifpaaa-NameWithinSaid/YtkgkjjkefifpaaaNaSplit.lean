/-
  Split and Parent of the program.
-/
import Derived.Test.YtkgkjjkefifpaaaNaStr
namespace Go.Proofs.Ytkgkjjkefifpaaa
open Go.RowKit

theorem isSlash_any (x : Nat) (w : World) : Calls Try.prog 19 #[.int .i32 (x : Int)] w fun e w' => e = .returned (.bool (x == 47)) ∧ w = w' := by
  have hx : Hid ((((x : Nat) : Int) == 47) = (x == 47)) := by
    show _ = _
    rw [Bool.eq_iff_iff]; simp; omega
  go_enter Try.func19, Try.ntmps19
  go_wp2
  go_ret
  exact ⟨by rw [← hx.out]; rfl, rfl⟩
theorem pred_slash (w : World) : PredAtRunes Try.prog 19 #[] (fun x => x == 47) w := fun W x _ _ =>
  (isSlash_any x W).mono fun e w' ⟨h1, h2⟩ => ⟨h1, 0, by rw [← h2]; rfl⟩
theorem enters_slash : ∀ args w, (callFunc 19 args).run Try.prog w = .ok (.enter 19 args) w := enters_of Try.func19 (by kernel_rfl) rfl
theorem nml_len_le (s : ByteArray) : (nml s).length ≤ s.size := by
  have key : ∀ (l cur : List UInt8), (toks cur l).length ≤ l.length + (if cur = [] then 0 else 1) := by
    intro l
    induction l with
    | nil => intro cur; rw [toks]; split <;> simp
    | cons c l ih =>
      intro cur
      rw [toks]
      split
      · split
        · have := ih []; simp at this ⊢; omega
        · have := ih []; simp at this ⊢; omega
      · have := ih (cur ++ [c]); simp at this ⊢; split <;> omega
  unfold nml
  rw [List.length_map]
  have := key s.data.toList []
  rw [Lib.size_eq]
  simpa using this
/-- FieldsFunc at slashes. -/
theorem fields_any (s : ByteArray) (w : World) (hs : s.size ≤ 255) : Calls Try.prog 18 #[.string s, .func (.func 19) #[] #[]] w fun e w' =>
    ∃ A, e = .returned (.slice (some ⟨A, 0, none⟩) (nml s).length (nml s).length) ∧ Strs w' (some ⟨A, 0, none⟩) (nml s) ∧ Below w.heap.size w w' :=
  (Try.strings_FieldsFunc_runes 19 #[] enters_slash (fun x => x == 47) s w (by omega) (pred_slash w)).mono fun e w' ⟨A, h1, _, h3, h4⟩ => by
    rw [fields_nml] at h1 h3
    exact ⟨A, h1, Strs.own h3, h4⟩
def SpO (w : World) (s : ByteArray) (e : Ending) (w' : World) : Prop := ∃ a n c, e = .returned (.tuple #[.slice a n c, .bool (spD s), .int .i64 (spE s)]) ∧ n = (spL s).length ∧ n ≤ c ∧ Strs w' a (spL s) ∧ (a = none → n = 0 ∧ c = 0) ∧ Below w.heap.size w w'
theorem spE_long {s : ByteArray} (h : 255 < s.size) : spE s = 36 := by unfold spE; rw [if_pos h]
theorem spE_rel {s : ByteArray} (h : ¬ 255 < s.size) (h1 : s.size = 0 ∨ s.get! 0 ≠ 47) : spE s = 22 := by unfold spE; rw [if_neg h, if_pos h1]
theorem spE_chk {s : ByteArray} (h : ¬ 255 < s.size) (h1 : ¬ (s.size = 0 ∨ s.get! 0 ≠ 47)) : spE s = chkL (nml s) := by unfold spE; rw [if_neg h, if_neg h1]
theorem spO_bad {w w' : World} {s : ByteArray} {z : Int} (h : spE s = z) (hz : z ≠ 0) (hb : Below w.heap.size w w') : SpO w s (.returned (.tuple #[.slice none 0 0, .bool false, .int .i64 z])) w' := by
  have h1 : spL s = [] := by unfold spL; rw [if_neg (by rw [h]; exact hz)]
  have h2 : spD s = false := by unfold spD; rw [if_neg (by rw [h]; exact hz)]
  exact ⟨none, 0, 0, by rw [h2, h], by rw [h1]; rfl, Nat.le_refl _, by rw [h1]; exact Strs.nil _ _, fun _ => ⟨rfl, rfl⟩, hb⟩
theorem spO_ok {w w' : World} {s : ByteArray} {a : Option Addr} {n c : Nat} (h : spE s = 0) (hn : n = (nml s).length) (hc : n ≤ c) (hs : Strs w' a (nml s)) (ha : a = none → n = 0 ∧ c = 0) (hb : Below w.heap.size w w') : SpO w s (.returned (.tuple #[.slice a n c, .bool (dirB s), .int .i64 0])) w' := by
  have h1 : spL s = nml s := by unfold spL; rw [if_pos h]
  have h2 : spD s = dirB s := by unfold spD; rw [if_pos h]
  exact ⟨a, n, c, by rw [h2, h], by rw [h1]; exact hn, hc, by rw [h1]; exact hs, ha, hb⟩
theorem get_bang (s : ByteArray) (k : Nat) (h : k < s.size) : s[k]'h = s.get! k := by
  simp [ByteArray.get!, getElem!_pos, h]
  rfl
theorem toList_empty {s : ByteArray} (h : s.size ≠ 0) : s.toList.isEmpty = false ∧ ¬ s.toList = [] := by
  have h1 : ¬ s.toList = [] := fun e => h (by rw [Lib.toList_data] at e; rw [Lib.size_eq, e]; rfl)
  refine ⟨?_, h1⟩
  cases hh : s.toList with
  | nil => exact absurd hh h1
  | cons _ _ => rfl
set_option maxRecDepth 100000 in
set_option maxHeartbeats 4000000 in
theorem split_any (s : ByteArray) (w : World) : Calls Try.prog 10 #[.string s] w (SpO w s) := by
  have HB := Lib.hid (Below.refl w.heap.size w)
  by_cases h1 : 255 < s.size
  · have HE := Lib.hid (spE_long h1)
    have hl : (255 : Int) < (s.size : Int) := by omega
    clear h1
    go_enter Try.func10, Try.ntmps10
    go_wp2
    exact bodyPost_ret (v := .tuple #[.slice none 0 0, .bool false, .int .i64 36]) (by simp [results, Try.results10, go_sem]) rfl (spO_bad HE.out (by decide) HB.out)
  · have hl : ¬ (255 : Int) < (s.size : Int) := by omega
    by_cases h2 : s.size = 0
    · have HE := Lib.hid (spE_rel h1 (.inl h2))
      obtain rfl : s = ⟨#[]⟩ := str_ext (by rw [Lib.size_eq] at h2; rw [List.eq_nil_of_length_eq_zero h2])
      clear h1 h2 hl
      go_enter Try.func10, Try.ntmps10
      go_wp2
      exact bodyPost_ret (v := .tuple #[.slice none 0 0, .bool false, .int .i64 22]) (by simp [results, Try.results10, go_sem]) rfl (spO_bad HE.out (by decide) HB.out)
    · obtain ⟨m0', m0⟩ := toList_empty h2
      have hpos : (0 : Int) < (s.size : Int) := by omega
      have hpos' : 0 < s.size := by omega
      by_cases h3 : s.get! 0 = 47
      · have HE : Hid (spE s = chkL (nml s)) := spE_chk h1 (fun h => h.elim h2 (fun h => h h3))
        have hv : (s[0]'hpos').toNat = 47 := by rw [get_bang s 0 hpos', h3]; rfl
        have HF := Lib.hid (fields_any s w (by omega))
        have HLn : Hid ((nml s).length < 1000000000) := by have := nml_len_le s; show _ < _; omega
        have HD : Hid (∀ h, (((s[s.size - 1]'h).toNat : Int) == 47) = dirB s) := fun h => by
          unfold dirB
          rw [get_bang s _ h, Bool.eq_iff_iff]
          simp
          constructor
          · intro e; exact UInt8.toNat_inj.1 (by show _ = 47; omega)
          · intro e; rw [e]; rfl
        have h255 : s.size ≤ 255 := by omega
        clear h1 h2 h3
        go_enter Try.func10, Try.ntmps10
        go_wp2_with fail
        refine HF.out.mono ?_
        rintro e w1 ⟨A, rfl, hst, hb1⟩
        have HSt := Lib.hid hst
        have HB1 := Lib.hid hb1
        have HCk := Lib.hid (check_any (nml s) (some ⟨A, 0, none⟩) (nml s).length (nml s).length w1 rfl HLn.out hst)
        clear hst hb1 HF
        go_wp2_with fail
        refine HCk.out.mono ?_
        rintro e w2 ⟨rfl, hb2⟩
        have HSt2 := Lib.hid (HSt.out.below hb2)
        have HB2 := Lib.hid (HB1.out.trans (hb2.mono HB1.out.size))
        clear hb2 HSt HB1 HCk HLn
        by_cases hc : chkL (nml s) = 0
        · rw [hc] at HE ⊢
          clear hc
          have hlast : s.size - 1 < s.size := by omega
          have z1 : (0 : Int) ≤ (s.size : Int) - 1 := by omega
          have z2 : (s.size : Int) - 1 < (s.size : Int) := by omega
          have z3 : ((s.size : Int) - 1).toNat = s.size - 1 := by omega
          have z4 : IntKind.i64.wrap ((s.size : Int) - 1) = (s.size : Int) - 1 := IntWalk.i64_in _ (by omega)
          have z5 : (1 : Int) ≤ (s.size : Int) := by omega
          go_wp2_with fail
          go_region
          go_wp2
          refine bodyPost_ret (v := .tuple #[.slice (some ⟨A, 0, none⟩) (nml s).length (nml s).length, .bool (dirB s), .int .i64 0]) ?_ rfl (spO_ok HE.out rfl (Nat.le_refl _) HSt2.out (fun e => by cases e) (sDrewN HB2.out _))
          simp [results, Try.results10, go_sem]
          exact HD.out _
        · have h4 : (chkL (nml s) == 0) = false := beq_eq_false_iff_ne.2 hc
          have HZ := Lib.hid hc
          clear hc
          generalize chkL (nml s) = z at *
          go_wp2
          exact bodyPost_ret (v := .tuple #[.slice none 0 0, .bool false, .int .i64 z]) (by simp [results, Try.results10, go_sem]) rfl (spO_bad HE.out HZ.out HB2.out)
      · have HE := Lib.hid (spE_rel h1 (.inr h3))
        have hv : (((s[0]'hpos').toNat : Int) == 47) = false := by
          rw [get_bang s 0 hpos']
          exact beq_eq_false_iff_ne.2 fun e => h3 (UInt8.toNat_inj.1 (by show _ = 47; omega))
        clear h1 h2 h3
        go_enter Try.func10, Try.ntmps10
        go_wp2
        exact bodyPost_ret (v := .tuple #[.slice none 0 0, .bool false, .int .i64 22]) (by simp [results, Try.results10, go_sem]) rfl (spO_bad HE.out (by decide) HB.out)
end Go.Proofs.Ytkgkjjkefifpaaa
