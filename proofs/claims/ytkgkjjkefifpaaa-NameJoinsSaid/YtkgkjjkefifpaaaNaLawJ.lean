/-
  NameJoins.
-/
import Derived.Test.YtkgkjjkefifpaaaNaMathB
import Derived.Test.YtkgkjjkefifpaaaNaOpen
import Derived.Test.YtkgkjjkefifpaaaNaRefJ
namespace Go.Proofs.Ytkgkjjkefifpaaa
open Go.RowKit

theorem joE_zero {l : List ByteArray} : chkL l = 0 → ¬ 255 < (joS l).size → joE l = 0 := fun h1 h2 => joE_ok h1 h2
def JnR (w : World) (l : List ByteArray) (n : Nat) (v23 : Value) (W : World) : Prop := ∃ i : Nat, i ≤ n ∧ v23 = .int .i64 i ∧ w = W
theorem own_emptyS (w : World) : (w.alloc (.cells #[] STR)).ownsRow w.heap.size STR 1 (.slice (some ⟨w.heap.size, 0, none⟩) 0 0) 0 (cellsS []) :=
  ⟨rfl, .inr ⟨w.heap.size, 0, #[], rfl, Nat.le_refl _, heap_alloc_new w _, Nat.le_refl _, by decide, rfl, rfl⟩⟩
set_option maxRecDepth 100000 in
set_option maxHeartbeats 8000000 in
theorem nameJoins_walk (a : Option Addr) (n c : Nat) (l : List ByteArray) (w : World) (ha : StrsIn w a n c l) :
    Calls Try.prog 4 #[.slice a n c] w fun e w' => e = .returned (.bool true) ∧ Below w.heap.size w w' := by
  by_cases hbig : 200 < n
  · have h1' : (200 : Int) < (n : Int) := by omega
    clear hbig ha
    go_enter Try.func4, Try.ntmps4
    go_wp2_with fail
    refine (awake_any _).mono ?_
    rintro e w1 ⟨rfl, hb1⟩
    have HB1 := Lib.hid hb1
    clear hb1
    go_wp2_with fail
    refine (awake_any _).mono ?_
    rintro e w2 ⟨rfl, hb2⟩
    have HB2 := Lib.hid (HB1.out.trans (hb2.mono HB1.out.size))
    clear hb2 HB1
    go_wp2_with fail
    go_ret
    exact ⟨rfl, HB2.out⟩
  · have h1' : ¬ (200 : Int) < (n : Int) := by omega
    have HA := Lib.hid ha
    have HBg := Lib.hid hbig
    have HLn := Lib.hid ha.len
    clear hbig ha
    go_enter Try.func4, Try.ntmps4
    go_wp2_with fail
    refine (awake_any _).mono ?_
    rintro e w1 ⟨rfl, hb1⟩
    have HB1 := Lib.hid hb1
    have HR1 := Lib.hid (HA.out.rd.below hb1)
    clear hb1
    go_wp2_with fail
    go_loopw [4, 23] (fun _ v23 wr => JnR w1 l n v23 wr) (fun _ v23 _ => n - (intOf v23).toNat)
    case atStart => exact ⟨0, Nat.zero_le _, rfl, rfl⟩
    case round =>
      obtain ⟨i, hi, rfl, rfl⟩ := hrel
      by_cases hlt : i < n
      · have z0 : (0 : Int) ≤ (i : Int) := by omega
        have z1 : (i : Int) < (n : Int) := by omega
        obtain ⟨b1, o1, rfl, c1⟩ := HR1.out (by intro e; have := HLn.out; rw [e] at this; simp at this; omega)
        have x1 := c1 i (by rw [← HLn.out]; exact hlt)
        have HL1 : Hid (i < n) := hlt
        clear c1 hi hlt
        generalize l.getD i ⟨#[]⟩ = x at *
        by_cases hx : 300 < x.size
        · have hx' : (300 : Int) < (x.size : Int) := by omega
          clear hx
          go_wp2_with fail
          go_ret
          exact ⟨rfl, HB1.out⟩
        · have hx' : ¬ (300 : Int) < (x.size : Int) := by omega
          clear hx
          go_wp2_with fail
          go_roundw
          case rel => exact ⟨i + 1, HL1.out, by go_num, rfl⟩
          case measure => simp [intOf]; have := HL1.out; omega
      · obtain rfl : i = n := by omega
        clear hi hlt h1'
        have hal := (Below.refl w1.heap.size w1).alloc (Nat.le_refl _) (.cells #[] STR)
        have HO := Lib.hid (own_emptyS w1)
        have HR2 := Lib.hid (HR1.out.below hal)
        have HB2 := Lib.hid (HB1.out.trans (hal.mono HB1.out.size))
        have HBe := Lib.hid hal
        have HYs : Hid (∀ ad, a = some ad → ∀ j u, (cellsS l)[j]? = some u → (w1.alloc (.cells #[] STR)).cell? (ad.add j) = some u) := fun ad had j u hj => by
          have hjl : j < l.length := by have := (List.getElem?_eq_some_iff.1 hj).1; rwa [cellsS_length] at this
          obtain ⟨b, o, hao, hc⟩ := HR2.out (fun e => by rw [e] at hjl; cases hjl)
          rw [had] at hao
          cases hao
          rw [Addr.add_lit, hc j hjl]
          rw [cellsS_get l j hjl] at hj
          exact hj
        have HNn : Hid (a = none → i = 0 ∧ c = 0) := HA.out.none_
        have HLl : Hid ((cellsS l).length = i * 1) := by show _ = _; rw [cellsS_length, ← HLn.out]; omega
        have HRm : Hid (0 + i ≤ 1000000) := by have := HBg.out; show _ ≤ _; omega
        clear hal
        go_wp2_with (at_builtin; refine wp_append_row rfl (.tmp 31) (.tmp 32) SLS rfl w1.heap.size STR (.string ⟨#[]⟩) 1 16 Try.underlying23 info_strx rfl (by decide) (by decide) _ 0 (cellsS []) rfl HO.out a i c (cellsS l) rfl HLl.out HYs.out (cellsS_one l) HNn.out HRm.out HBe.out.size ?_; intro a5 c5 w5 ho5 hg5; have HO5 := Lib.hid ho5; have HB5 := Lib.hid (HBe.out.grown hg5 HBe.out.size (fun q hq => (HO.out.lt q hq).1)); clear ho5 hg5)
        have HRn : Hid (w5.ownsRow w1.heap.size STR 1 (.slice a5 i c5) i (cellsS l)) := by
          have e := HO5.out
          rw [Nat.zero_add] at e
          exact e
        have HRi := Lib.hid (Strs.own HRn.out)
        have HCp : Hid (i ≤ c5) := by obtain ⟨a', c', hv, hc⟩ := own_slice HRn.out; cases hv; exact hc
        have HR5 := Lib.hid (HR1.out.below HB5.out)
        have HB6 := Lib.hid (HB1.out.trans (HB5.out.mono HB1.out.size))
        have HJ := Lib.hid (join_any l a5 i c5 w5 HLn.out HCp.out (by have := HBg.out; omega) HRi.out)
        clear HB2 HBe HO HR1 HR2 HYs HNn HLl HRm HO5 HB5 HB1 HRn HCp
        unfold JoO at HJ
        refine HJ.out.mono ?_
        rintro e w6 ⟨rfl, hb6⟩
        have HR6 := Lib.hid (HR5.out.below hb6)
        have HRi6 := Lib.hid (HRi.out.below hb6)
        have HB7 := Lib.hid (HB6.out.trans (hb6.mono HB6.out.size))
        have HK := Lib.hid (refJoin_any l a i c w6 HLn.out (by have := HBg.out; omega) HR6.out)
        unfold JoO at HK
        clear hb6 HR5 HRi HB6 HJ
        have HFa := Lib.hid (@spE_joS l)
        have HJr := Lib.hid (@joR_ok l)
        by_cases hz : joE l = 0
        · obtain ⟨q1, q2, q3, q4⟩ := HFa.out hz
          rw [hz] at HK ⊢
          rw [HJr.out hz] at HK ⊢
          have HS := Lib.hid (split_any (joS l))
          unfold SpO at HS
          rw [q1, q2, q3] at HS
          clear q1 q2 q3 q4 hz HFa HJr
          generalize joS l = jj at *
          have hjj : (jj.toList == jj.toList) = true := by simp
          go_wp2_with fail
          refine HK.out.mono ?_
          rintro e w7 ⟨rfl, hb7⟩
          have HR7 := Lib.hid (HR6.out.below hb7)
          have HB8 := Lib.hid (HB7.out.trans (hb7.mono HB7.out.size))
          have HT := Lib.hid (texts_any l l a5 a i i c5 c w7 HLn.out HLn.out (by have := HBg.out; omega) (HRi6.out.below hb7) HR7.out)
          rw [decide_eq_true (rfl : l = l)] at HT
          clear hb7 HR6 HB7 HK HRi6
          go_wp2_with fail
          refine HT.out.mono ?_
          rintro e w8 ⟨rfl, hb8⟩
          have HR8 := Lib.hid (HR7.out.below hb8)
          have HB9 := Lib.hid (HB8.out.trans (hb8.mono HB8.out.size))
          clear hb8 HR7 HB8 HT
          go_wp2_with fail
          refine (HS.out _).mono ?_
          rintro e w9 ⟨a9, n9, c9, rfl, hn9, -, hst9, -, hb9⟩
          have HB10 := Lib.hid (HB9.out.trans (hb9.mono HB9.out.size))
          have HT := Lib.hid (texts_any l l a9 a n9 i c9 c w9 hn9 HLn.out (by have := HBg.out; have := HLn.out; omega) hst9 (HR8.out.below hb9))
          rw [decide_eq_true (rfl : l = l)] at HT
          have hlq : ((.bool (decide (l = [])) : Value)) = .bool (decide (i = 0)) := by
            have := HLn.out
            congr 1
            rw [decide_eq_decide]
            constructor
            · intro h; rw [this, h]; rfl
            · intro h; exact List.eq_nil_of_length_eq_zero (by omega)
          rw [hlq]
          clear hn9 hst9 hb9 HB9 HR8 HS hlq
          have hdd : (decide (i = 0) == decide ((i : Int) = 0)) = true := by simp
          have hdd2 : (decide (i = 0) == ((i : Int) == 0)) = true := by
            by_cases h0 : i = 0
            · subst h0; rfl
            · have : ((i : Int) == 0) = false := beq_eq_false_iff_ne.2 (by omega)
              rw [this, decide_eq_false h0]; rfl
          go_wp2_with fail
          refine HT.out.mono ?_
          rintro e w10 ⟨rfl, hb10⟩
          have HB11 := Lib.hid (HB10.out.trans (hb10.mono HB10.out.size))
          clear hb10 HB10 HT
          go_wp2_with fail
          go_ret
          exact ⟨by simp, HB11.out⟩
        · have h4 : (joE l == 0) = false := beq_eq_false_iff_ne.2 hz
          have h5 : (joE l != joE l) = false := by simp
          clear HFa HJr hz
          generalize joE l = z at *
          generalize joR l = jj at *
          have hjj : (jj.toList == jj.toList) = true := by simp
          go_wp2_with fail
          refine HK.out.mono ?_
          rintro e w7 ⟨rfl, hb7⟩
          have HB8 := Lib.hid (HB7.out.trans (hb7.mono HB7.out.size))
          have HT := Lib.hid (texts_any l l a5 a i i c5 c w7 HLn.out HLn.out (by have := HBg.out; omega) (HRi6.out.below hb7) (HR6.out.below hb7))
          rw [decide_eq_true (rfl : l = l)] at HT
          clear hb7 HR6 HB7 HK HRi6
          go_wp2_with fail
          refine HT.out.mono ?_
          rintro e w8 ⟨rfl, hb8⟩
          have HB9 := Lib.hid (HB8.out.trans (hb8.mono HB8.out.size))
          clear hb8 HB8 HT
          go_wp2_with fail
          go_ret
          exact ⟨rfl, HB9.out⟩
end Go.Proofs.Ytkgkjjkefifpaaa
