/-
  NameDeep.
-/
import Derived.Test.YtkgkjjkefifpaaaNaMathB
import Derived.Test.YtkgkjjkefifpaaaNaOpen
namespace Go.Proofs.Ytkgkjjkefifpaaa
open Go.RowKit

theorem deep_all {l : List ByteArray} (h : l ≠ []) : l.take (l.length - 1) ++ [l.getD (l.length - 1) ⟨#[]⟩] = l := by
  have h1 : l.length ≠ 0 := fun e => h (List.eq_nil_of_length_eq_zero e)
  have e : l.take (l.length - 1 + 1) = l.take (l.length - 1) ++ [l.getD (l.length - 1) ⟨#[]⟩] := by rw [List.take_add_one, List.getD_eq_getElem?_getD, List.getElem?_eq_getElem (by omega)]; rfl
  rw [← e, List.take_of_length_le (by omega)]
theorem wiB_deep (l : List ByteArray) : wiB (l.take (l.length - 1)) l = true := by
  unfold wiB
  have : (l.take (l.length - 1)).length = l.length - 1 := by rw [List.length_take]; omega
  rw [this]; simp
theorem spL_len2 (s : ByteArray) : (spL s).length ≤ 255 := by
  have h1 := nml_len_le s
  unfold spL
  split
  · rename_i h0
    by_cases h2 : 255 < s.size
    · rw [spE_long h2] at h0; exact absurd h0 (by decide)
    · omega
  · simp
theorem own_emptyD (w : World) : (w.alloc (.cells #[] STR)).ownsRow w.heap.size STR 1 (.slice (some ⟨w.heap.size, 0, none⟩) 0 0) 0 (cellsS []) :=
  ⟨rfl, .inr ⟨w.heap.size, 0, #[], rfl, Nat.le_refl _, heap_alloc_new w _, Nat.le_refl _, by decide, rfl, rfl⟩⟩
set_option maxRecDepth 100000 in
set_option maxHeartbeats 8000000 in
theorem nameDeep_walk (s : ByteArray) (w : World) (_hs : s.size ≤ maxLen) : Calls Try.prog 8 #[.string s] w fun e w' => e = .returned (.bool true) ∧ Below w.heap.size w w' := by
  by_cases hl : 300 < s.size
  · have hl' : (300 : Int) < (s.size : Int) := by omega
    clear hl _hs
    go_enter Try.func8, Try.ntmps8
    go_wp2_with fail
    refine (awake_any _).mono ?_
    rintro e w1 ⟨rfl, hb1⟩
    have HB1 := Lib.hid hb1
    clear hb1
    go_wp2_with fail
    refine (awake_any _).mono ?_
    rintro e w2 ⟨rfl, hb2⟩
    have HB2 := Lib.hid (HB1.out.trans (hb2.mono HB1.out.size))
    clear hb2 HB1
    go_wp2_with fail
    go_ret
    exact ⟨rfl, HB2.out⟩
  · have hl' : ¬ (300 : Int) < (s.size : Int) := by omega
    have HS := Lib.hid (split_any s)
    have HP := Lib.hid (parent_any s)
    unfold SpO at HS
    unfold PaO at HP
    clear hl _hs
    by_cases hz : spE s = 0
    · by_cases hn : spL s = []
      · have e1 := paE_none hz hn
        have e2 : paN s = ⟨#[]⟩ := by unfold paN; rw [hn]; rfl
        have e3 : paL s = [] := by unfold paL; rw [hn]; rfl
        rw [hz, hn] at HS
        rw [e1, e2, e3] at HP
        clear hz hn e1 e2 e3
        generalize spD s = d at *
        go_enter Try.func8, Try.ntmps8
        go_wp2_with fail
        refine (awake_any _).mono ?_
        rintro e w1 ⟨rfl, hb1⟩
        have HB1 := Lib.hid hb1
        clear hb1
        go_wp2_with fail
        refine (HS.out _).mono ?_
        rintro e w2 ⟨a2, n2, c2, rfl, hn2, -, -, -, hb2⟩
        obtain rfl : n2 = 0 := hn2
        have HB2 := Lib.hid (HB1.out.trans (hb2.mono HB1.out.size))
        clear hb2 HB1
        go_wp2_with fail
        refine (HP.out _).mono ?_
        rintro e w3 ⟨a3, n3, c3, rfl, hn3, -, -, -, hb3⟩
        obtain rfl : n3 = 0 := hn3
        have HB3 := Lib.hid (HB2.out.trans (hb3.mono HB2.out.size))
        clear hb3 HB2
        go_wp2_with fail
        go_ret
        exact ⟨rfl, HB3.out⟩
      · have e1 := paE_ok hz hn
        have HJE := Lib.hid (joE_nml hz)
        have HLs := Lib.hid (spL_len2 s)
        rw [← spL_ok hz] at HJE
        have HAll := Lib.hid (deep_all hn)
        have HWd := Lib.hid (wiB_deep (spL s))
        have HPl : Hid (paL s = (spL s).take ((spL s).length - 1)) := rfl
        have HPn : Hid (paN s = (spL s).getD ((spL s).length - 1) ⟨#[]⟩) := rfl
        have HNe : Hid ((spL s).length ≠ 0) := fun e => hn (List.eq_nil_of_length_eq_zero e)
        rw [hz] at HS
        rw [e1] at HP
        rw [← HPl.out, ← HPn.out] at HAll
        rw [← HPl.out] at HWd
        have HPL : Hid ((paL s).length = (spL s).length - 1) := by show _ = _; rw [HPl.out, List.length_take]; omega
        clear hz hn e1 HPl HPn
        generalize spD s = d at *
        generalize spL s = l at *
        generalize paL s = l2 at *
        generalize paN s = nn at *
        go_enter Try.func8, Try.ntmps8
        go_wp2_with fail
        refine (awake_any _).mono ?_
        rintro e w1 ⟨rfl, hb1⟩
        have HB1 := Lib.hid hb1
        clear hb1
        go_wp2_with fail
        refine (HS.out _).mono ?_
        rintro e w2 ⟨a2, n2, c2, rfl, hn2, hc2, hst2, hz2, hb2⟩
        have HN2 := Lib.hid hn2
        have HC2 := Lib.hid hc2
        have HS2 := Lib.hid hst2
        have HZ2 := Lib.hid hz2
        have HB2 := Lib.hid (HB1.out.trans (hb2.mono HB1.out.size))
        clear hn2 hc2 hst2 hz2 hb2 HB1
        go_wp2_with fail
        refine (HP.out _).mono ?_
        rintro e w3 ⟨a3, n3, c3, rfl, hn3, hc3, hst3, hz3, hb3⟩
        have HN3 := Lib.hid hn3
        have HC3 := Lib.hid hc3
        have HS3 := Lib.hid hst3
        have HZ3 := Lib.hid hz3
        have HS23 := Lib.hid (HS2.out.below hb3)
        have HB3 := Lib.hid (HB2.out.trans (hb3.mono HB2.out.size))
        have k0 : ¬ (n2 : Int) = 0 := by have := HN2.out; have := HNe.out; omega
        have k0' : ((n2 : Int) == 0) = false := beq_eq_false_iff_ne.2 k0
        clear hn3 hc3 hst3 hz3 hb3 HB2 HS2
        have hal := (Below.refl w3.heap.size w3).alloc (Nat.le_refl _) (.cells #[] STR)
        have HO := Lib.hid (own_emptyD w3)
        have HR2 := Lib.hid (HS3.out.below hal)
        have HBe := Lib.hid hal
        have HYs : Hid (∀ ad, a3 = some ad → ∀ j u, (cellsS l2)[j]? = some u → (w3.alloc (.cells #[] STR)).cell? (ad.add j) = some u) := fun ad had j u hj => by
          have hjl : j < l2.length := by have := (List.getElem?_eq_some_iff.1 hj).1; rwa [cellsS_length] at this
          obtain ⟨b, o, hao, hc⟩ := HR2.out (fun e => by rw [e] at hjl; cases hjl)
          rw [had] at hao
          cases hao
          rw [Addr.add_lit, hc j hjl]
          rw [cellsS_get l2 j hjl] at hj
          exact hj
        have HLl : Hid ((cellsS l2).length = n3 * 1) := by show _ = _; rw [cellsS_length, ← HN3.out]; omega
        have HRm : Hid (0 + n3 ≤ 1000000 ∧ n3 + 1 ≤ 1000000) := by have := HLs.out; have := HPL.out; have := HN3.out; show _ ∧ _; omega
        clear hal
        go_wp2_with (first
          | (at_builtin; refine wp_append_row rfl (.tmp 61) (.tmp 62) SLS rfl w3.heap.size STR (.string ⟨#[]⟩) 1 16 Try.underlying23 info_strx rfl (by decide) (by decide) _ 0 (cellsS []) rfl HO.out a3 n3 c3 (cellsS l2) rfl HLl.out HYs.out (cellsS_one l2) HZ3.out HRm.out.1 HBe.out.size ?_; intro a5 c5 w5 ho5 hg5; have HO5 := Lib.hid ho5; have HB5 := Lib.hid (HBe.out.grown hg5 HBe.out.size (fun q hq => (HO.out.lt q hq).1)); have hal5 := (Below.refl w5.heap.size w5).alloc (Nat.le_refl _) (.cells #[.string nn] STR); have HO6 : Hid ((w5.alloc (.cells #[.string nn] STR)).ownsRow w3.heap.size STR 1 (.slice a5 n3 c5) n3 (cellsS l2)) := (by (have e := own_later ho5 hal5); (rw [Nat.zero_add] at e); exact e); have HB6 := Lib.hid (HB5.out.trans (hal5.mono HB5.out.size)); have HCl := Lib.hid ((blo_laid w5 STR #[.string nn]).cell 0); clear ho5 hg5 hal5)
          | (at_builtin; refine wp_append_row rfl (.tmp 63) (.tmp 65) SLS rfl w3.heap.size STR (.string ⟨#[]⟩) 1 16 Try.underlying23 info_strx rfl (by decide) (by decide) _ n3 (cellsS l2) rfl HO6.out (some ⟨w5.heap.size, 0, none⟩) 1 1 [.string nn] rfl rfl (fun ad e j u hj => by cases e; rw [Addr.add_lit]; match j, hj with | 0, hj => (cases hj; exact HCl.out) | j + 1, hj => (simp at hj)) (fun u hu => by simp at hu; subst hu; rfl) (fun e => by cases e) HRm.out.2 HB6.out.size ?_; intro a7 c7 w7 ho7 hg7; have HO7 := Lib.hid ho7; have HB7 := Lib.hid (HB6.out.grown hg7 HB6.out.size (fun q hq => (HO6.out.lt q hq).1)); clear ho7 hg7)
          | fail)
        have HRn : Hid (w7.ownsRow w3.heap.size STR 1 (.slice a7 (n3 + 1) c7) (n3 + 1) (cellsS l)) := by
          have e := HO7.out
          rw [show cellsS l2 ++ [Value.string nn] = cellsS l by rw [← HAll.out, ← cellsS_append]; rfl] at e
          exact e
        have HRi := Lib.hid (Strs.own HRn.out)
        have HCp : Hid (n3 + 1 ≤ c7) := by obtain ⟨a', c', hv, hc⟩ := own_slice HRn.out; cases hv; exact hc
        have HN7 : Hid (n3 + 1 = l.length) := by have := HN3.out; have := HPL.out; have := HNe.out; show _ = _; omega
        have HJ := Lib.hid (join_any l a7 (n3 + 1) c7 w7 HN7.out HCp.out (by have := HLs.out; have := HN7.out; omega) HRi.out)
        have HJ2 : Hid (∀ W, Below w7.heap.size w7 W → Calls Try.prog 15 #[.slice a2 n2 c2] W (JoO W l)) := fun W hW => join_any l a2 n2 c2 W HN2.out HC2.out (by have := HLs.out; have := HN2.out; omega) ((HS23.out.below HB7.out).below hW)
        have HWi : Hid (∀ W, Below w7.heap.size w7 W → Calls Try.prog 17 #[.slice a3 n3 c3, .slice a2 n2 c2] W fun e w' => e = .returned (.bool true) ∧ Below W.heap.size W w') := fun W hW => by
          have := within_any l2 l a3 a2 n3 n2 c3 c2 W HN3.out HN2.out HC2.out (by have := HLs.out; have := HN2.out; omega) (fun _ => strs_add HS23.out (fun e => HNe.out (by rw [e]; rfl))) ((HS3.out.below HB7.out).below hW) ((HS23.out.below HB7.out).below hW)
          rwa [HWd.out] at this
        have HB8 := Lib.hid (HB3.out.trans (HB7.out.mono HB3.out.size))
        have HEq : Hid ((n3 : Int) = (n2 : Int) - 1 ∧ (n2 : Int) < 300 ∧ (0 : Int) < (n2 : Int)) := by have := HN2.out; have := HN7.out; have := HLs.out; show _ ∧ _; omega
        unfold JoO at HJ HJ2
        rw [HJE.out] at HJ HJ2
        clear HO HR2 HBe HYs HLl HRm HO5 HB5 HO6 HB6 HCl HO7 HB7 HB3 HRn HRi HCp HN7 HN2 HN3 HC2 HC3 HS3 HZ3 HZ2 HS23 HNe HPL HWd HAll HLs HJE HP HS
        have hjj : ∀ x : ByteArray, (x.toList == x.toList) = true := fun x => by simp
        have hj1 := hjj (joR l)
        clear hjj
        generalize joR l = jj at *
        refine HJ.out.mono ?_
        rintro e w8 ⟨rfl, hb8⟩
        have HB9 := Lib.hid (HB8.out.trans (hb8.mono HB8.out.size))
        have HY8 := Lib.hid hb8
        clear hb8 HB8 HJ
        go_wp2_with fail
        refine (HJ2.out _ HY8.out).mono ?_
        rintro e w9 ⟨rfl, hb9⟩
        have HB10 := Lib.hid (HB9.out.trans (hb9.mono HB9.out.size))
        have HY9 := Lib.hid (HY8.out.trans (hb9.mono HY8.out.size))
        clear hb9 HB9 HY8 HJ2
        go_wp2_with fail
        refine (HWi.out _ HY9.out).mono ?_
        rintro e w10 ⟨rfl, hb10⟩
        have HB11 := Lib.hid (HB10.out.trans (hb10.mono HB10.out.size))
        obtain ⟨e1, e2, e3⟩ := HEq.out
        have e4 : (((n3 : Int)) == (n2 : Int) - 1) = true := by simp; omega
        have e5 : decide ((n3 : Int) = (n2 : Int) - 1) = true := by simp; omega
        have e6 : IntKind.i64.wrap ((n2 : Int) - 1) = (n2 : Int) - 1 := IntWalk.i64_in _ (by omega)
        clear hb10 HB10 HY9 HWi HEq e1
        go_wp2_with fail
        go_ret
        exact ⟨rfl, HB11.out⟩
    · have e1 := paE_sp hz
      have e2 := spL_nil hz
      have e3 : paN s = ⟨#[]⟩ := by unfold paN; rw [e2]; rfl
      have e4 : paL s = [] := by unfold paL; rw [e2]; rfl
      have h4 : (spE s == 0) = false := beq_eq_false_iff_ne.2 hz
      have h5 : (spE s == spE s) = true := by simp
      rw [e1, e3, e4] at HP
      clear hz e1 e2 e3 e4
      generalize spE s = z at *
      generalize spD s = d at *
      generalize spL s = l at *
      go_enter Try.func8, Try.ntmps8
      go_wp2_with fail
      refine (awake_any _).mono ?_
      rintro e w1 ⟨rfl, hb1⟩
      have HB1 := Lib.hid hb1
      clear hb1
      go_wp2_with fail
      refine (HS.out _).mono ?_
      rintro e w2 ⟨a2, n2, c2, rfl, -, -, -, -, hb2⟩
      have HB2 := Lib.hid (HB1.out.trans (hb2.mono HB1.out.size))
      clear hb2 HB1
      go_wp2_with fail
      refine (HP.out _).mono ?_
      rintro e w3 ⟨a3, n3, c3, rfl, hn3, -, -, -, hb3⟩
      obtain rfl : n3 = 0 := hn3
      have HB3 := Lib.hid (HB2.out.trans (hb3.mono HB2.out.size))
      clear hb3 HB2
      go_wp2_with fail
      go_ret
      exact ⟨rfl, HB3.out⟩
end Go.Proofs.Ytkgkjjkefifpaaa
