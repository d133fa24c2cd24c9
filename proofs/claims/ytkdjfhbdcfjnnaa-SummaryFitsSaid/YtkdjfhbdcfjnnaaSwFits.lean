/-
  The walk of SummaryFits: as many inodes, or blocks of one file, as fit are a summary, and not one more.
-/
import Derived.Test.YtkdjfhbdcfjnnaaSwAwake
import Derived.Deep.DeepCutAuto
namespace Go.Proofs.Ytkdjfhbdcfjnnaa
open Go.RowKit

def upI (n : Nat) : List Int := (List.range n).map fun (i : Nat) => (i : Int) + 1
def lbI (n : Nat) : List Int := (List.range n).map fun (i : Nat) => (i : Int)
theorem upI_snoc (n : Nat) : upI (n + 1) = upI n ++ [(n : Int) + 1] := by simp [upI, List.range_succ]
theorem lbI_snoc (n : Nat) : lbI (n + 1) = lbI n ++ [(n : Int)] := by simp [lbI, List.range_succ]
theorem fits_lb {l : List Fi} (hl : ∀ x ∈ l, ∃ k, x.lb = lbI k) : ∀ x ∈ l, ∀ n ∈ x.lb, -9223372036854775808 ≤ n := fun x hx n hn => by
  obtain ⟨k, h⟩ := hl x hx
  rw [h] at hn
  obtain ⟨i, _, rfl⟩ := List.mem_map.1 hn
  omega
theorem upI_ok (n : Nat) (hn : n ≤ 89) : (upI n).any badI = false := by
  refine List.any_eq_false.2 fun x hx => ?_
  obtain ⟨i, hi, rfl⟩ := List.mem_map.1 hx
  have := List.mem_range.1 hi
  unfold badI outB
  simp
  omega
theorem lbI_ok (k : Nat) (hk : k ≤ 32) : (lbI k).any (fun n => !isB n) = false := by
  refine List.any_eq_false.2 fun x hx => ?_
  obtain ⟨i, hi, rfl⟩ := List.mem_map.1 hx
  have := List.mem_range.1 hi
  unfold isB
  rw [if_pos (by omega), decide_eq_true (by omega)]
  simp
theorem fits_chk0 (n : Nat) (hn : n ≤ 89) : chkC 0 0 0 1 0 [] (upI n) = if 88 < 10 + n then 27 else 0 := by
  unfold chkC
  rw [upI_ok n hn]
  simp [outB, szF, upI]
theorem fits_chk (n k : Nat) (hk0 : 0 < k) (hn : n ≤ 89) (hk : k ≤ 32) : chkC 0 0 0 1 0 [⟨3, 0, lbI k⟩] (upI n) = if 30 < k then 22 else if 88 < 10 + n + (4 + 2 * k) then 27 else 0 := by
  unfold chkC
  rw [upI_ok n hn]
  have e : ([⟨3, 0, lbI k⟩] : List Fi).any badF = decide (30 < k) := by
    simp only [List.any_cons, List.any_nil, Bool.or_false]
    unfold badF
    simp only
    rw [lbI_ok k hk]
    have hl : (lbI k).length = k := by simp [lbI]
    rw [hl]
    by_cases h : 30 < k
    · simp [outB, h]
      omega
    · rw [decide_eq_false h]
      simp [outB]
      omega
  rw [e]
  have hl : (upI n).length = n := by simp [upI]
  have hs : szF [⟨3, 0, lbI k⟩] = 4 + 2 * k := by simp [szF, lbI]
  rw [hl, hs]
  by_cases h : 30 < k
  · simp [outB, h]
  · simp [outB, h]
theorem fis_one (W : World) (u : Option Addr) (i v : Int) (l : List Int) (n c : Nat) (hn : n = l.length) (h : Ints W u l) : Fis (W.alloc (.cells #[.int .i64 i, .int .i64 v, .slice u n c] FN)) (some ⟨W.heap.size, 0, none⟩) [⟨i, v, l⟩] := fun _ => by
  subst hn
  refine ⟨W.heap.size, 0, rfl, fun k hk => ?_⟩
  have hi0 : k = 0 := by simpa using hk
  subst hi0
  have hb := blo_laid W FN #[.int .i64 i, .int .i64 v, .slice u l.length c]
  exact ⟨hb.cell 0, hb.cell 1, u, c, hb.cell 2, h.below (sup_pc W _)⟩
set_option maxRecDepth 100000 in
set_option maxHeartbeats 8000000 in
theorem summaryFits_walk (x y : Int) (w : World) (wx : (Lit.int .i64 x).wf = true) (wy : (Lit.int .i64 y).wf = true) :
    Calls Try.prog 7 #[.int .i64 x, .int .i64 y] w fun e w' => e = .returned (.bool true) ∧ Below w.heap.size w w' := by
  obtain ⟨n, hn, en⟩ := cut_mod x 89 (by decide)
  obtain ⟨k, hk, ek⟩ := cut_mod y 32 (by decide)
  simp at en ek
  go_enter Try.func7, Try.ntmps7
  go_wp2_with fail
  refine (awake_any w).mono ?_
  rintro e w1 ⟨rfl, hb1⟩
  have HB1 := Lib.hid hb1
  clear hb1
  go_wp2_with fail
  rw [en, ek]
  have hB0 : Below w.heap.size w (w1.alloc (.cells #[.int .i64 0, .int .i64 0, .int .i64 0, .int .i64 1, .int .i64 0, .slice none 0 0, .slice none 0 0] 25)) := HB1.out.trans ((sup_pc w1 _).mono HB1.out.size)
  have hX0 := blo_laid w1 25 #[.int .i64 0, .int .i64 0, .int .i64 0, .int .i64 1, .int .i64 0, .slice none 0 0, .slice none 0 0]
  have hP := HB1.out.size
  generalize w1.alloc (.cells #[.int .i64 0, .int .i64 0, .int .i64 0, .int .i64 1, .int .i64 0, .slice none 0 0, .slice none 0 0] 25) = y0 at *
  generalize w1.heap.size = P at *
  have HX0 := Lib.hid hX0
  have HB0 := Lib.hid hB0
  clear hX0 hB0 HB1 en ek
  go_loopw [6] (fun t wr => ∃ j : Nat, j ≤ n ∧ t = .int .i64 j ∧ ∃ ia ic, Blo wr P 25 #[.int .i64 0, .int .i64 0, .int .i64 0, .int .i64 1, .int .i64 0, .slice none 0 0, .slice ia j ic] ∧ wr.ownsRow (P + 1) IT 1 (.slice ia j ic) j (cellsI (upI j)) ∧ Below w.heap.size w wr) (fun t _ => n - (intOf t).toNat)
  case atStart => exact ⟨0, Nat.zero_le _, rfl, none, 0, HX0.out, ⟨by simp [upI, cellsI], .inl ⟨rfl, rfl⟩⟩, HB0.out⟩
  case round =>
    clear HX0 HB0
    obtain ⟨j, hj, rfl, ia, ic, hX, hO, hB⟩ := hrel
    by_cases hjl : j < n
    · have d6 := hX.cell 6
      simp at d6
      have HX := Lib.hid hX
      have HO := Lib.hid hO
      have HB := Lib.hid hB
      have HV := Lib.hid (upI_snoc j)
      have HL := Lib.hid (sup_pc wr (.cells #[.int .i64 ((j : Int) + 1)] IT))
      have hPw := hX.lt
      clear hX hO hB
      go_wp2_with (at_builtin; refine wp_append_rowO rfl (.tmp 28) (.tmp 31) 23 rfl (P + 1) IT _ 1 8 Try.underlying23 info_it (by kernel_rfl) (by decide) (by decide) (.slice ia j ic) j _ rfl (own_later HO.out HL.out) (some ⟨wr.heap.size, 0, none⟩) 1 1 [.int .i64 ((j : Int) + 1)] rfl rfl (laid_srcO wr IT _ _ rfl) (by simp [Value.oneCell']) (fun h => by cases h) (by omega) (by have := HX.out.lt; simp; omega) ?_; intro a5 c5 z3 hr3 hg3 _; have HR3 := Lib.hid hr3; have HX3 := Lib.hid ((HX.out.later HL.out).grown hg3 ((HX.out.later HL.out).row_apart (own_later HO.out HL.out) (by decide))); have HB3 := Lib.hid (((HB.out.trans (HL.out.mono HB.out.size))).grown hg3 (Nat.le_trans HB.out.size HL.out.size) (fun q e => by have := (oblo (own_later HO.out HL.out) e).1; omega)); have e6 := HX3.out.cell 6; have g6 := HX3.out.frozen 6; simp at e6; clear hr3 hg3)
      go_roundw
      case rel => exact ⟨j + 1, by omega, by simp, a5, c5, HX3.out.put 6 _, by rw [HV.out, ← cellsI_append]; exact own_far HR3.out (p := ⟨P, 6, none⟩) (HX3.out.row_apart HR3.out (by decide)) _, HB3.out.setCell (p := ⟨P, 6, none⟩) (by show _ ≤ P; omega) _⟩
      case measure => simp [intOf]; omega
    · obtain rfl : n = j := by omega
      have HX := Lib.hid hX
      have HO := Lib.hid hO
      have HB := Lib.hid hB
      have HIi := Lib.hid (Ints.own hO)
      have hX' := hX
      clear hX hO hB
      by_cases hk0 : k = 0
      · subst hk0
        have HFi := Lib.hid (Fis.nil wr none)
        have c0 := HX.out.cell 0
        have c1 := HX.out.cell 1
        have c2 := HX.out.cell 2
        have c3 := HX.out.cell 3
        have c4 := HX.out.cell 4
        have c5 := HX.out.cell 5
        have c6 := HX.out.cell 6
        simp at c0 c1 c2 c3 c4 c5 c6
        have HC := Lib.hid (check_any (w := _) 0 0 0 1 0 [] (upI n) none 0 0 ia n ic HFi.out (by simp) (by first | (simp [szF, lbI]; done) | (simp [szF, lbI]; omega)) HIi.out (by simp [upI]) (by omega) (fits_lb (fun x hx => by cases hx)))
        have HCv := Lib.hid (fits_chk0 n (by omega))
        go_wp2_with fail
        refine HC.out.mono ?_
        rintro e w9 ⟨rfl, hb9⟩
        rw [HCv.out]
        have HX9 := Lib.hid (HX.out.later hb9)
        have HB9 := Lib.hid (HB.out.trans (hb9.mono HB.out.size))
        have HFi9 := Lib.hid (HFi.out.later hb9)
        clear hb9 HC HX HB HFi c0 c1 c2 c3 c4 c5 c6
        by_cases hsz : 88 < 10 + n
        · rw [if_pos hsz]
          go_wp2
          go_ret
          exact ⟨rfl, HB9.out⟩
        · rw [if_neg hsz]
          have c0 := HX9.out.cell 0
          have c1 := HX9.out.cell 1
          have c2 := HX9.out.cell 2
          have c3 := HX9.out.cell 3
          have c4 := HX9.out.cell 4
          have c5 := HX9.out.cell 5
          have c6 := HX9.out.cell 6
          simp at c0 c1 c2 c3 c4 c5 c6
          go_wp2_with fail
          refine (size_any 0 0 0 1 0 none 0 0 ia n ic HFi9.out (by simp) (by first | (simp [szF, lbI]; done) | (simp [szF, lbI]; omega)) (by omega)).mono ?_
          rintro e w10 ⟨rfl, hb10⟩
          rw [show 10 + n + szF [] = 10 + n by simp [szF, lbI]]
          have HX10 := Lib.hid (HX9.out.later hb10)
          have HB10 := Lib.hid (HB9.out.trans (hb10.mono HB9.out.size))
          have HFi10 := Lib.hid (HFi9.out.later hb10)
          clear hb10 HX9 HB9 HFi9 c0 c1 c2 c3 c4 c5 c6
          have c0 := HX10.out.cell 0
          have c1 := HX10.out.cell 1
          have c2 := HX10.out.cell 2
          have c3 := HX10.out.cell 3
          have c4 := HX10.out.cell 4
          have c5 := HX10.out.cell 5
          have c6 := HX10.out.cell 6
          simp at c0 c1 c2 c3 c4 c5 c6
          go_wp2_with fail
          refine (sblocks_any 0 0 0 1 0 none 0 0 ia n ic HFi10.out (by simp) (by first | (simp [szF, lbI]; done) | (simp [szF, lbI]; omega)) (by omega)).mono ?_
          rintro e w11 ⟨rfl, hb11⟩
          rw [show 2 + n + blF [] = 2 + n by simp [blF, lbI]]
          have HB11 := Lib.hid (HB10.out.trans (hb11.mono HB10.out.size))
          clear hb11 HX10 HB10 HFi10 c0 c1 c2 c3 c4 c5 c6
          go_wp2
          go_ret
          exact ⟨by simp, HB11.out⟩
      · have hk1 : (0 : Int) < (k : Int) := by omega
        have hk2 : 0 < k := by omega
        have hk3 : (0 < k) = True := eq_true hk2
        have hXl := hX'.lt
        have HL := Lib.hid (sup_pc wr (.cells #[.int .i64 3, .int .i64 0, .slice none 0 0] FN))
        have HF0 := Lib.hid (blo_laid wr FN #[.int .i64 3, .int .i64 0, .slice none 0 0])
        have hs0 : (wr.alloc (.cells #[.int .i64 3, .int .i64 0, .slice none 0 0] FN)).heap.size = wr.heap.size + 1 := by simp
        clear hX'
        go_wp2_with fail
        go_loopw [8] (fun t wq => ∃ j : Nat, j ≤ k ∧ t = .int .i64 j ∧ ∃ la lc, Blo wq wr.heap.size FN #[.int .i64 3, .int .i64 0, .slice la j lc] ∧ wq.ownsRow (wr.heap.size + 1) IT 1 (.slice la j lc) j (cellsI (lbI j)) ∧ Below wr.heap.size wr wq) (fun t _ => k - (intOf t).toNat)
        case atStart => exact ⟨0, Nat.zero_le _, rfl, none, 0, HF0.out, ⟨by simp [lbI, cellsI], .inl ⟨rfl, rfl⟩⟩, HL.out⟩
        case round =>
          clear HL HF0 hs0
          rename World => wq
          obtain ⟨j, hj, rfl, la, lc, hX2, hO2, hB2⟩ := hrel
          by_cases hjk : j < k
          · have d2 := hX2.cell 2
            simp at d2
            have HX2 := Lib.hid hX2
            have HO2 := Lib.hid hO2
            have HB2 := Lib.hid hB2
            have HV := Lib.hid (lbI_snoc j)
            have HL := Lib.hid (sup_pc wq (.cells #[.int .i64 (j : Int)] IT))
            have hlw := hX2.lt
            clear hX2 hO2 hB2
            go_wp2_with (at_builtin; refine wp_append_rowO rfl (.tmp 43) (.tmp 45) 23 rfl (wr.heap.size + 1) IT _ 1 8 Try.underlying23 info_it (by kernel_rfl) (by decide) (by decide) (.slice la j lc) j _ rfl (own_later HO2.out HL.out) (some ⟨wq.heap.size, 0, none⟩) 1 1 [.int .i64 (j : Int)] rfl rfl (laid_srcO wq IT _ _ rfl) (by simp [Value.oneCell']) (fun h => by cases h) (by omega) (by simp; omega) ?_; intro a5 c5 z3 hr3 hg3 _; have HR3 := Lib.hid hr3; have HX3 := Lib.hid ((HX2.out.later HL.out).grown hg3 ((HX2.out.later HL.out).row_apart (own_later HO2.out HL.out) (by decide))); have HB3 := Lib.hid (((HB2.out.trans (HL.out.mono HB2.out.size))).grown hg3 (Nat.le_trans HB2.out.size HL.out.size) (fun q e => by have := (oblo (own_later HO2.out HL.out) e).1; omega)); have e2 := HX3.out.cell 2; have g2 := HX3.out.frozen 2; simp at e2; clear hr3 hg3)
            go_roundw
            case rel => exact ⟨j + 1, by omega, by simp, a5, c5, HX3.out.put 2 _, by rw [HV.out, ← cellsI_append]; exact own_far HR3.out (p := ⟨wr.heap.size, 2, none⟩) (HX3.out.row_apart HR3.out (by decide)) _, HB3.out.setCell (p := ⟨wr.heap.size, 2, none⟩) (Nat.le_refl _) _⟩
            case measure => simp [intOf]; omega
          · obtain rfl : k = j := by omega
            have d0 := hX2.cell 0
            have d1 := hX2.cell 1
            have d2 := hX2.cell 2
            have hXq : Blo wq P 25 #[.int .i64 0, .int .i64 0, .int .i64 0, .int .i64 1, .int .i64 0, .slice none 0 0, .slice ia n ic] := HX.out.below hB2 hXl
            have p5 := hXq.cell 5
            have f5 := hXq.frozen 5
            have hPq := hXq.lt
            simp at d0 d1 d2 p5
            have HXq := Lib.hid hXq
            have HO2 := Lib.hid hO2
            have HB2 := Lib.hid (HB.out.trans (hB2.mono HB.out.size))
            have HI2 := Lib.hid (own_later HO.out hB2)
            clear hX2 hO2 hB2 hXq HIi HX HB HO
            go_upto_region 16 with (fail)
            clear d0 d1 d2 p5 f5
            have hap1 := HXq.out.row_apart HI2.out (by decide)
            have hap2 := HXq.out.row_apart HO2.out (by decide)
            have hX4 := HXq.out.put 5 (.slice (some ⟨wq.heap.size, 0, none⟩) 1 1)
            have hB4 := HB2.out.setCell (p := ⟨P, 5, none⟩) (by show _ ≤ P; omega) (.slice (some ⟨wq.heap.size, 0, none⟩) 1 1)
            have hO4 := own_far HO2.out (p := ⟨P, 5, none⟩) hap2 (.slice (some ⟨wq.heap.size, 0, none⟩) 1 1)
            have hI4 := own_far HI2.out (p := ⟨P, 5, none⟩) hap1 (.slice (some ⟨wq.heap.size, 0, none⟩) 1 1)
            have hz4 : (wq.setCell ⟨P, 5, none⟩ (.slice (some ⟨wq.heap.size, 0, none⟩) 1 1)).heap.size = wq.heap.size := World.size_setCell ..
            generalize wq.setCell ⟨P, 5, none⟩ (.slice (some ⟨wq.heap.size, 0, none⟩) 1 1) = z4 at *
            rw [← hz4] at hX4 ⊢
            have hb5 := sup_pc z4 (.cells #[.int .i64 3, .int .i64 0, .slice la k lc] FN)
            have HFi : Hid (Fis (z4.alloc (.cells #[.int .i64 3, .int .i64 0, .slice la k lc] FN)) (some ⟨z4.heap.size, 0, none⟩) [⟨3, 0, lbI k⟩]) := fis_one z4 la 3 0 (lbI k) k lc (by simp [lbI]) (Ints.own hO4)
            have HX := Lib.hid (hX4.later hb5)
            have HB := Lib.hid (hB4.trans (hb5.mono hB4.size))
            have HIi := Lib.hid ((Ints.own hI4).below hb5)
            clear hap1 hap2 hX4 hB4 hO4 hI4 hz4 hb5 HXq HB2 HO2 HI2
            generalize z4.heap.size = A at *
            generalize z4.alloc (.cells #[.int .i64 3, .int .i64 0, .slice la k lc] FN) = W at *
            have c0 := HX.out.cell 0
            have c1 := HX.out.cell 1
            have c2 := HX.out.cell 2
            have c3 := HX.out.cell 3
            have c4 := HX.out.cell 4
            have c5 := HX.out.cell 5
            have c6 := HX.out.cell 6
            simp at c0 c1 c2 c3 c4 c5 c6
            have HC := Lib.hid (check_any (w := _) 0 0 0 1 0 [⟨3, 0, lbI k⟩] (upI n) (some ⟨A, 0, none⟩) 1 1 ia n ic HFi.out (by simp) (by first | (simp [szF, lbI]; done) | (simp [szF, lbI]; omega)) HIi.out (by simp [upI]) (by omega) (fits_lb (fun x hx => by rw [List.mem_singleton.1 hx]; exact ⟨k, rfl⟩)))
            have HCv := Lib.hid (fits_chk n k (by omega) (by omega) (by omega))
            go_wp2_with fail
            refine HC.out.mono ?_
            rintro e w9 ⟨rfl, hb9⟩
            rw [HCv.out]
            have HX9 := Lib.hid (HX.out.later hb9)
            have HB9 := Lib.hid (HB.out.trans (hb9.mono HB.out.size))
            have HFi9 := Lib.hid (HFi.out.later hb9)
            clear hb9 HC HX HB HFi c0 c1 c2 c3 c4 c5 c6
            by_cases hk30 : 30 < k
            · rw [if_pos hk30]
              go_wp2
              go_ret
              exact ⟨rfl, HB9.out⟩
            · rw [if_neg hk30]
              by_cases hsz : 88 < 10 + n + (4 + 2 * k)
              · rw [if_pos hsz]
                go_wp2
                go_ret
                exact ⟨rfl, HB9.out⟩
              · rw [if_neg hsz]
                have c0 := HX9.out.cell 0
                have c1 := HX9.out.cell 1
                have c2 := HX9.out.cell 2
                have c3 := HX9.out.cell 3
                have c4 := HX9.out.cell 4
                have c5 := HX9.out.cell 5
                have c6 := HX9.out.cell 6
                simp at c0 c1 c2 c3 c4 c5 c6
                go_wp2_with fail
                refine (size_any 0 0 0 1 0 (some ⟨A, 0, none⟩) 1 1 ia n ic HFi9.out (by simp) (by first | (simp [szF, lbI]; done) | (simp [szF, lbI]; omega)) (by omega)).mono ?_
                rintro e w10 ⟨rfl, hb10⟩
                rw [show 10 + n + szF [⟨3, 0, lbI k⟩] = 10 + n + (4 + 2 * k) by simp [szF, lbI]]
                have HX10 := Lib.hid (HX9.out.later hb10)
                have HB10 := Lib.hid (HB9.out.trans (hb10.mono HB9.out.size))
                have HFi10 := Lib.hid (HFi9.out.later hb10)
                clear hb10 HX9 HB9 HFi9 c0 c1 c2 c3 c4 c5 c6
                have c0 := HX10.out.cell 0
                have c1 := HX10.out.cell 1
                have c2 := HX10.out.cell 2
                have c3 := HX10.out.cell 3
                have c4 := HX10.out.cell 4
                have c5 := HX10.out.cell 5
                have c6 := HX10.out.cell 6
                simp at c0 c1 c2 c3 c4 c5 c6
                go_wp2_with fail
                refine (sblocks_any 0 0 0 1 0 (some ⟨A, 0, none⟩) 1 1 ia n ic HFi10.out (by simp) (by first | (simp [szF, lbI]; done) | (simp [szF, lbI]; omega)) (by omega)).mono ?_
                rintro e w11 ⟨rfl, hb11⟩
                rw [show 2 + n + blF [⟨3, 0, lbI k⟩] = 2 + n + k by simp [blF, lbI]]
                have HB11 := Lib.hid (HB10.out.trans (hb11.mono HB10.out.size))
                clear hb11 HX10 HB10 HFi10 c0 c1 c2 c3 c4 c5 c6
                go_wp2
                go_ret
                exact ⟨by simp, HB11.out⟩
end Go.Proofs.Ytkdjfhbdcfjnnaa
