/-
  NameSplits.
-/
import Derived.Test.YtkgkjjkefifpaaaNaRefP
import Derived.Test.YtkgkjjkefifpaaaNaWith
namespace Go.Proofs.Ytkgkjjkefifpaaa
open Go.RowKit

theorem spL_len (s : ByteArray) : (spL s).length ≤ 255 := by
  have h1 := nml_len_le s
  unfold spL
  split
  · rename_i h0
    by_cases h2 : 255 < s.size
    · rw [spE_long h2] at h0; exact absurd h0 (by decide)
    · omega
  · simp
theorem paL_len (s : ByteArray) : (paL s).length ≤ 255 := by
  unfold paL; rw [List.length_take]; have := spL_len s; omega
set_option maxRecDepth 100000 in
set_option maxHeartbeats 8000000 in
theorem nameSplits_walk (s : ByteArray) (w : World) (_hs : s.size ≤ maxLen) : Calls Try.prog 3 #[.string s] w fun e w' => e = .returned (.bool true) ∧ Below w.heap.size w w' := by
  by_cases hl : 2000 < s.size
  · have hl' : (2000 : Int) < (s.size : Int) := by omega
    clear hl _hs
    go_enter Try.func3, Try.ntmps3
    go_wp2_with fail
    refine (awake_any _).mono ?_
    rintro e w1 ⟨rfl, hb1⟩
    have HB1 := Lib.hid hb1
    clear hb1
    go_wp2_with fail
    refine (awake_any _).mono ?_
    rintro e w2 ⟨rfl, hb2⟩
    have HB2 := Lib.hid (HB1.out.trans (hb2.mono HB1.out.size))
    clear hb2 HB1
    go_wp2_with fail
    go_ret
    exact ⟨rfl, HB2.out⟩
  · have hl' : ¬ (2000 : Int) < (s.size : Int) := by omega
    have HS := Lib.hid (split_any s)
    have HR := Lib.hid (refSplit_any s)
    have HP := Lib.hid (parent_any s)
    have HQ := Lib.hid (refParent_any s)
    have HL1 := Lib.hid (spL_len s)
    have HL2 := Lib.hid (paL_len s)
    unfold SpO at HS HR
    unfold PaO at HP HQ
    clear hl _hs
    generalize spE s = z at *
    generalize spL s = l at *
    generalize spD s = dd at *
    generalize paE s = z2 at *
    generalize paL s = l2 at *
    generalize paN s = nn at *
    have hnn : (nn.toList == nn.toList) = true := by simp
    have hzz : (z == z) = true := by simp
    have hz2 : (z2 == z2) = true := by simp
    have hdd : (dd == dd) = true := by simp
    go_enter Try.func3, Try.ntmps3
    go_wp2_with fail
    refine (awake_any _).mono ?_
    rintro e w1 ⟨rfl, hb1⟩
    have HB1 := Lib.hid hb1
    clear hb1
    go_wp2_with fail
    refine (HS.out _).mono ?_
    rintro e w2 ⟨a2, n2, c2, rfl, hn2, -, hst2, -, hb2⟩
    have HN2 := Lib.hid hn2
    have HS2 := Lib.hid hst2
    have HB2 := Lib.hid (HB1.out.trans (hb2.mono HB1.out.size))
    clear hn2 hst2 hb2 HB1
    go_wp2_with fail
    refine (HR.out _).mono ?_
    rintro e w3 ⟨a3, n3, c3, rfl, hn3, -, hst3, -, hb3⟩
    have HT := Lib.hid (texts_any l l a2 a3 n2 n3 c2 c3 w3 HN2.out hn3 (by have := HL1.out; have := HN2.out; omega) (HS2.out.below hb3) hst3)
    have HB3 := Lib.hid (HB2.out.trans (hb3.mono HB2.out.size))
    clear hn3 hst3 hb3 HB2 HS2 HN2
    rw [decide_eq_true (rfl : l = l)] at HT
    go_wp2_with fail
    refine HT.out.mono ?_
    rintro e w4 ⟨rfl, hb4⟩
    have HB4 := Lib.hid (HB3.out.trans (hb4.mono HB3.out.size))
    clear hb4 HB3 HT
    go_wp2_with fail
    refine (HP.out _).mono ?_
    rintro e w5 ⟨a5, n5, c5, rfl, hn5, -, hst5, -, hb5⟩
    have HN5 := Lib.hid hn5
    have HS5 := Lib.hid hst5
    have HB5 := Lib.hid (HB4.out.trans (hb5.mono HB4.out.size))
    clear hn5 hst5 hb5 HB4
    go_wp2_with fail
    refine (HQ.out _).mono ?_
    rintro e w6 ⟨a6, n6, c6, rfl, hn6, -, hst6, -, hb6⟩
    have HT := Lib.hid (texts_any l2 l2 a5 a6 n5 n6 c5 c6 w6 HN5.out hn6 (by have := HL2.out; have := HN5.out; omega) (HS5.out.below hb6) hst6)
    have HB6 := Lib.hid (HB5.out.trans (hb6.mono HB5.out.size))
    clear hn6 hst6 hb6 HB5 HS5 HN5
    rw [decide_eq_true (rfl : l2 = l2)] at HT
    go_wp2_with fail
    refine HT.out.mono ?_
    rintro e w7 ⟨rfl, hb7⟩
    have HB7 := Lib.hid (HB6.out.trans (hb7.mono HB6.out.size))
    clear hb7 HB6 HT
    go_wp2_with fail
    go_ret
    exact ⟨rfl, HB7.out⟩
end Go.Proofs.Ytkgkjjkefifpaaa
