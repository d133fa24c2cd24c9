/-
  Pack: awake, few.
-/
import Derived.Test.YtonlhkhjdnaojaaPcRead
import Derived.Test.YtonlhkhjdnaojaaIntsEq
namespace Go.Proofs.Ytonlhkhjdnaojaa
open Go.RowKit

theorem ex_run : ∃ s, runP 16 (p0 4) (items [⟨5, 0, [0, 1, 2]⟩] [5]) = some s ∧ s.N = 2 ∧ s.nw 0 = false ∧ s.nw 1 = true ∧ (zS s 0).nf = 1 ∧ ((zS s 0).li 1).length = 2 ∧ (zS s 1).nf = 1 ∧ ((zS s 1).li 0).length = 1 ∧ ((zS s 1).li 1).length = 1 := by
  refine ⟨_, rfl, rfl, rfl, rfl, rfl, rfl, rfl, rfl, rfl⟩
theorem fis_lit (W : World) (u : Nat) (i v : Int) (l : List Int) (n c : Nat) (hn : n = l.length) (h : Ints W (some ⟨u, 0, none⟩) l) (b : Nat) (hb : b = W.heap.size) : Fis (W.alloc (.cells #[.int .i64 i, .int .i64 v, .slice (some ⟨u, 0, none⟩) n c] FN)) (some ⟨b, 0, none⟩) [⟨i, v, l⟩] := fun _ => by
  subst hb hn
  refine ⟨W.heap.size, 0, rfl, fun k hk => ?_⟩
  have hi0 : k = 0 := by simpa using hk
  subst hi0
  have hb := blo_laid W FN #[.int .i64 i, .int .i64 v, .slice (some ⟨u, 0, none⟩) l.length c]
  exact ⟨hb.cell 0, hb.cell 1, _, _, hb.cell 2, h.below (sup_pc _ _)⟩
set_option maxHeartbeats 4000000 in
theorem awake_any (w : World) : Calls Try.prog 8 #[] w fun e w' => e = .returned (.bool true) ∧ Below w.heap.size w w' := by
  have hF : Fis (((w.alloc (.cells #[.int .i64 0, .int .i64 1, .int .i64 2] IT)).alloc (.cells #[.int .i64 5, .int .i64 0, .slice (some ⟨w.heap.size, 0, none⟩) 3 3] FN)).alloc (.cells #[.int .i64 5] IT)) (some ⟨w.heap.size + 1, 0, none⟩) [⟨5, 0, [0, 1, 2]⟩] :=
    (fis_lit _ w.heap.size 5 0 [0, 1, 2] 3 3 rfl (Ints.laid w [0, 1, 2] _ _ rfl) _ (by simp)).later (sup_pc _ _)
  have hI : Ints (((w.alloc (.cells #[.int .i64 0, .int .i64 1, .int .i64 2] IT)).alloc (.cells #[.int .i64 5, .int .i64 0, .slice (some ⟨w.heap.size, 0, none⟩) 3 3] FN)).alloc (.cells #[.int .i64 5] IT)) (some ⟨w.heap.size + 1 + 1, 0, none⟩) [5] := by
    have := Ints.laid ((w.alloc (.cells #[.int .i64 0, .int .i64 1, .int .i64 2] IT)).alloc (.cells #[.int .i64 5, .int .i64 0, .slice (some ⟨w.heap.size, 0, none⟩) 3 3] FN)) [5] _ IT rfl
    simpa using this
  have HP := Lib.hid (plan_any (fc := 1) (ic := 1) _ 1 _ 1 4 16 (by unfold badP; omega) hF rfl (by decide) (fun x hx => by rw [List.mem_singleton.1 hx]; decide) hI rfl (by decide))
  have HB : Hid (Below w.heap.size w (((w.alloc (.cells #[.int .i64 0, .int .i64 1, .int .i64 2] IT)).alloc (.cells #[.int .i64 5, .int .i64 0, .slice (some ⟨w.heap.size, 0, none⟩) 3 3] FN)).alloc (.cells #[.int .i64 5] IT))) := (((Below.refl _ _).alloc (Nat.le_refl _) _).alloc (by simp) _).alloc (by simp; omega) _
  clear hF hI
  go_enter Try.func8, Try.ntmps8
  go_wp2_with fail
  refine HP.out.mono ?_
  rintro e w2 ⟨hm, hb⟩
  obtain ⟨s, hs, hN, n0, n1, f0, l0, f1, i1, l1⟩ := ex_run
  rw [hs] at hm
  obtain ⟨pv, fv, av, rfl, hpm⟩ := hm
  rw [hN] at hpm
  have HB2 := Lib.hid (HB.out.trans (hb.mono HB.out.size))
  obtain ⟨gp, cap, rfl, -, -, -, a0, a1, -⟩ := hpm.piece (i := 0) (by decide)
  obtain ⟨gp2, cap2, e2, -, -, -, b0, b1, b2⟩ := hpm.piece (i := 1) (by decide)
  cases e2
  obtain ⟨gf, cf, e3, -, -, -, -, -, c2⟩ := hpm.file (i := 0) (k := 0) (by decide) (by rw [f0]; decide)
  obtain ⟨ca, cc, e4, _⟩ := own_slice (hpm.ints 0 (by decide) (0 + 1) (by rw [f0]; decide))
  rw [e4, l0] at c2
  obtain ⟨fa, fc, ia, ic, e5, e6, hF1, hI1⟩ := hpm.reads (i := 1) (by decide)
  rw [f1] at e5
  rw [i1] at e6
  rw [f0] at e3
  have hsum := bs_sum (s.it 1)
  have hz : (zS s 1) = (bs (s.it 1)).z := rfl
  have HBl : Hid (∀ W, Below w2.heap.size w2 W → Calls Try.prog 17 #[.agg #[.bool true, .slice fa 1 fc, .slice ia 1 ic]] W fun en w' => en = .returned (.int .i64 4) ∧ Below W.heap.size W w') := fun W hW => by
    have hb1 : blZ (zS s 1) = 1 := by
      unfold blZ sumR
      rw [f1]
      simp [l1]
    have hs1 : szZ (zS s 1) = 6 := by
      unfold szZ sumR
      rw [f1]
      simp [l1]
    have h1 := blocks_any (l := fsZ (inoOf [⟨5, 0, [0, 1, 2]⟩]) (verOf [⟨5, 0, [0, 1, 2]⟩]) (zS s 1)) fa 1 fc ia 1 ic true (hF1.later hW) (by rw [fsZ_len, f1]) (by rw [szF_fsZ, hs1]; decide) (by decide)
    rw [blF_fsZ, hb1] at h1
    exact h1
  rw [n0] at a0
  rw [n1] at b0
  rw [e3] at a1
  rw [e5] at b1
  rw [e6] at b2
  have x0 : ∀ y : Kept w2, y.at_.cell? ⟨gp, 0, none⟩ = some (.bool false) := fun y => cell_later y.below a0
  have x1 : ∀ y : Kept w2, y.at_.cell? ⟨gp, 1, none⟩ = some (.slice (some ⟨gf, 0, none⟩) 1 cf) := fun y => cell_later y.below a1
  have x3 : ∀ y : Kept w2, y.at_.cell? ⟨gp, 3, none⟩ = some (.bool true) := fun y => cell_later y.below b0
  have x4 : ∀ y : Kept w2, y.at_.cell? ⟨gp, 4, none⟩ = some (.slice fa 1 fc) := fun y => cell_later y.below b1
  have x5 : ∀ y : Kept w2, y.at_.cell? ⟨gp, 5, none⟩ = some (.slice ia 1 ic) := fun y => cell_later y.below b2
  have x6 : ∀ y : Kept w2, y.at_.cell? ⟨gf, 2, none⟩ = some (.slice ca 2 cc) := fun y => cell_later y.below c2
  have z0 : w2.cell? ⟨gp, 0, none⟩ = some (.bool false) := a0
  have z1 : w2.cell? ⟨gp, 1, none⟩ = some (.slice (some ⟨gf, 0, none⟩) 1 cf) := a1
  have z3 : w2.cell? ⟨gp, 3, none⟩ = some (.bool true) := b0
  have z4 : w2.cell? ⟨gp, 4, none⟩ = some (.slice fa 1 fc) := b1
  have z5 : w2.cell? ⟨gp, 5, none⟩ = some (.slice ia 1 ic) := b2
  have z6 : w2.cell? ⟨gf, 2, none⟩ = some (.slice ca 2 cc) := c2
  have HBl2 := Lib.hid (HBl.out w2 (Below.refl _ _))
  clear hs hN n0 n1 f0 l0 f1 i1 l1 hpm hb HB HP a0 a1 b0 b1 b2 c2 e3 e4 e5 e6 hF1 hI1 hsum hz HBl x0 x1 x3 x4 x5 x6
  go_wp2_with fail
  refine HBl2.out.mono ?_
  rintro e w3 ⟨rfl, hb⟩
  have HB3 := Lib.hid (HB2.out.trans (hb.mono HB2.out.size))
  clear hb HBl2 z0 z1 z3 z4 z5 z6
  go_wp2
  go_ret
  exact ⟨rfl, HB3.out⟩
/-! few. -/
def fewB (fs : List Fi) (is : List Int) : Bool := decide (fs.length ≤ 300 ∧ is.length ≤ 300 ∧ is.length + blF fs ≤ 300)
section
variable {w : World} {fs : List Fi} {is : List Int} (fa : Option Addr) (fn fc : Nat) (ia : Option Addr) (inn ic : Nat)
set_option maxHeartbeats 4000000 in
theorem few_any (hF : Fis w fa fs) (hn : fn = fs.length) (hin : inn = is.length) (hx1 : fn ≤ 9223372036854775807) (hx2 : inn ≤ 9223372036854775807) (hfl : ∀ x ∈ fs, x.lb.length ≤ 9223372036854775807) :
    Calls Try.prog 9 #[.slice fa fn fc, .slice ia inn ic] w fun e w' => e = .returned (.bool (fewB fs is)) ∧ Below w.heap.size w w' := by
  unfold fewB
  rw [← hn, ← hin]
  by_cases h1 : fn ≤ 300
  · by_cases h2 : inn ≤ 300
    · have j1 : ¬ (300 : Int) < (fn : Int) := by omega
      have j2 : ¬ (300 : Int) < (inn : Int) := by omega
      have HF := Lib.hid hF
      have HN := Lib.hid hn
      have HL := Lib.hid hfl
      have HE : Hid (decide (fn ≤ 300 ∧ inn ≤ 300 ∧ inn + blF fs ≤ 300) = decide (inn + blF fs ≤ 300)) := by
        show _ = _
        exact decide_eq_decide.2 ⟨fun h => h.2.2, fun h => ⟨h1, h2, h⟩⟩
      rw [HE.out]
      clear hF hn hfl HE hin
      go_enter Try.func9, Try.ntmps9
      go_wp2_with fail
      go_loopw [5, 19] (fun m t wr => ∃ k q : Nat, k ≤ fn ∧ t = .int .i64 k ∧ m = .int .i64 ((inn + blF (fs.take k) : Nat) : Int) ∧ inn + blF (fs.take k) ≤ 300 ∧ wr = w.drewN q) (fun _ t _ => fn - (intOf t).toNat)
      case atStart => exact ⟨0, 0, Nat.zero_le _, rfl, by simp [blF], by simpa [blF] using h2, rfl⟩
      case round =>
        obtain ⟨k, q, hk, rfl, rfl, hle, rfl⟩ := hrel
        by_cases hlt : k < fn
        · have hkl : k < fs.length := by rw [← HN.out]; exact hlt
          obtain ⟨b, o, cc, cp, rfl, -, -, q3, -⟩ := HF.out.at hkl
          have hsn := take_snocF fs fi0 k hkl
          have hmem : fs.getD k fi0 ∈ fs := by rw [List.getD_eq_getElem?_getD, List.getElem?_eq_getElem hkl]; exact List.getElem_mem _
          have hl9 := HL.out _ hmem
          have HSn : Hid (blF (fs.take (k + 1)) = blF (fs.take k) + (fs.getD k fi0).lb.length) := by show _ = _; rw [hsn, blF_snoc]
          have HTo : Hid (blF (fs.take (k + 1)) ≤ blF fs) := blF_take fs (k + 1)
          generalize (fs.getD k fi0).lb.length = m at *
          obtain ⟨M, hM⟩ : ∃ M, blF (fs.take k) = M := ⟨_, rfl⟩
          rw [hM] at HSn hle
          simp only [hM]
          have k0 : (0 : Int) ≤ (k : Int) := by omega
          have k1 : (k : Int) < (fn : Int) := by omega
          clear hkl hsn hmem hM
          by_cases hov : inn + M + m ≤ 300
          · have j3 : ¬ 300 - ((inn + M : Nat) : Int) < (m : Int) := by omega
            have HOv := Lib.hid hov
            go_wp2_with fail
            go_roundw
            case rel => exact ⟨k + 1, _, by omega, by simp, by rw [HSn.out]; congr 1; omega, by rw [HSn.out]; have := HOv.out; omega, rfl⟩
            case measure => simp [intOf]; omega
          · have j3 : 300 - ((inn + M : Nat) : Int) < (m : Int) := by omega
            have HNo : Hid (decide (inn + blF fs ≤ 300) = false) := by
              refine decide_eq_false fun h => ?_
              have h1 := HSn.out
              have h2 := HTo.out
              omega
            clear HSn HTo
            go_wp2
            go_ret
            exact ⟨by rw [HNo.out]; rfl, ie_drewN (Below.refl _ _) _⟩
        · have hkn : fs.take k = fs := by rw [List.take_of_length_le]; have := HN.out; omega
          rw [hkn] at hle
          have HYes : Hid (decide (inn + blF fs ≤ 300) = true) := decide_eq_true hle
          have k1 : ¬ (k : Int) < (fn : Int) := by omega
          clear hkn hle
          go_wp2
          go_ret
          exact ⟨by rw [HYes.out]; rfl, ie_drewN (Below.refl _ _) _⟩
    · have j1 : ¬ (300 : Int) < (fn : Int) := by omega
      have j2 : (300 : Int) < (inn : Int) := by omega
      rw [decide_eq_false (fun h => h2 h.2.1)]
      clear hF hn hfl hin
      go_enter Try.func9, Try.ntmps9
      go_wp2
      go_ret
      exact ⟨rfl, Below.refl _ _⟩
  · have j1 : (300 : Int) < (fn : Int) := by omega
    rw [decide_eq_false (fun h => h1 h.1)]
    clear hF hn hfl hin
    go_enter Try.func9, Try.ntmps9
    go_wp2
    go_ret
    exact ⟨rfl, Below.refl _ _⟩
end
end Go.Proofs.Ytonlhkhjdnaojaa
