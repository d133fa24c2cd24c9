/-
  byKey, and the sorting of keys by it.
-/
import Derived.Test.YtdnkeplmjimjcaaChSrt
import Derived.Deep.RegionHeld3
namespace Go.Proofs.Ytdnkeplmjimjcaa
open Go.RowKit Go.Sort Go.Shelf

/-- The order of keys. -/
def cmpK (p q : Int × Int) : Int := if cmpI p.1 q.1 = 0 then cmpI p.2 q.2 else cmpI p.1 q.1
def ltK (p q : Int × Int) : Prop := p.1 < q.1 ∨ p.1 = q.1 ∧ p.2 < q.2
theorem ltK_dec (p q : Int × Int) : decide (cmpK p q < 0) = true ↔ ltK p q := by
  rw [decide_eq_true_eq]
  unfold cmpK ltK cmpI
  by_cases h1 : p.1 < q.1
  · simp [h1]
  · by_cases h2 : q.1 < p.1
    · simp [h1, h2]
      omega
    · have h3 : p.1 = q.1 := by omega
      by_cases h4 : p.2 < q.2
      · simp [h3, h4]
      · by_cases h5 : q.2 < p.2 <;> simp [h3, h4, h5]
/-- The first that is not zero. -/
def orI (a b : Int) : Int := if a = 0 then b else a
section
variable {w w' W : World}
set_option maxRecDepth 100000 in
set_option maxHeartbeats 4000000 in
theorem or_any (a b : Int) {g : Nat} (h : Blo w g 3 #[.int .i64 a, .int .i64 b]) : Calls Try.prog 47 #[.slice (some ⟨g, 0, none⟩) 2 2] w fun e w' => e = .returned (.int .i64 (orI a b)) ∧ w' = w := by
  unfold orI
  have c0 : w.cell? ⟨g, 0, none⟩ = some (.int .i64 a) := h.cell 0
  have c1 : w.cell? ⟨g, 1, none⟩ = some (.int .i64 b) := h.cell 1
  clear h
  by_cases ha : a = 0
  · rw [if_pos ha]
    subst ha
    by_cases hb : b = 0
    · subst hb
      go_enter Try.func47, Try.ntmps47
      go_wp2_with fail
      refine wp_loop_rounds 3 ?_
      rw [rounds_succ]
      go_wp2_with fail
      rw [rounds_succ]
      go_wp2_with fail
      rw [rounds_succ]
      go_wp2_with fail
      go_ret
      exact ⟨rfl, rfl⟩
    · have hb' : (b != 0) = true := by simpa using hb
      go_enter Try.func47, Try.ntmps47
      go_wp2_with fail
      refine wp_loop_rounds 3 ?_
      rw [rounds_succ]
      go_wp2_with fail
      rw [rounds_succ]
      go_wp2_with fail
      go_ret
      exact ⟨rfl, rfl⟩
  · rw [if_neg ha]
    have ha' : (a != 0) = true := by simpa using ha
    go_enter Try.func47, Try.ntmps47
    go_wp2_with fail
    refine wp_loop_rounds 3 ?_
    rw [rounds_succ]
    go_wp2_with fail
    go_ret
    exact ⟨rfl, rfl⟩
set_option maxRecDepth 100000 in
set_option maxHeartbeats 4000000 in
theorem byKey_any (p q : Int × Int) (w : World) : Calls Try.prog 34 #[.agg #[.int .i64 p.1, .int .i64 p.2], .agg #[.int .i64 q.1, .int .i64 q.2]] w fun e w' => e = .returned (.int .i64 (cmpK p q)) ∧ ∃ n os', w' = grow (w.drewN n) os' := by
  obtain ⟨w1, hw1⟩ : ∃ w1, w1 = (w.alloc (.cells #[.int .i64 p.1, .int .i64 p.2] KT)).alloc (.cells #[.int .i64 q.1, .int .i64 q.2] KT) := ⟨_, rfl⟩
  have hX : Blo w1 w.heap.size KT #[.int .i64 p.1, .int .i64 p.2] := by rw [hw1]; exact (blo_laid w _ _).alloc _
  have hY : Blo w1 (w.heap.size + 1) KT #[.int .i64 q.1, .int .i64 q.2] := by
    rw [hw1]
    have := blo_laid (w.alloc (.cells #[.int .i64 p.1, .int .i64 p.2] KT)) KT #[.int .i64 q.1, .int .i64 q.2]
    rw [show (w.alloc (.cells #[.int .i64 p.1, .int .i64 p.2] KT)).heap.size = w.heap.size + 1 by simp] at this
    exact this
  have HG : Hid (∃ os, w1 = grow w os) := by
    rw [hw1, alloc_eq_grow, alloc_eq_grow, grow_grow]
    exact ⟨_, rfl⟩
  have HKp : Hid (∀ W : World, RowKit.Below w1.heap.size w1 W → W.cell? ⟨w.heap.size, 0, none⟩ = some (.int .i64 p.1) ∧ W.cell? ⟨w.heap.size, 1, none⟩ = some (.int .i64 p.2) ∧ W.cell? ⟨w.heap.size + 1, 0, none⟩ = some (.int .i64 q.1) ∧ W.cell? ⟨w.heap.size + 1, 1, none⟩ = some (.int .i64 q.2)) := fun W hb =>
    ⟨(hX.later hb).cell 0, (hX.later hb).cell 1, (hY.later hb).cell 0, (hY.later hb).cell 1⟩
  have hck : cmpK p q = orI (cmpI p.1 q.1) (cmpI p.2 q.2) := rfl
  obtain ⟨c, hcc⟩ : ∃ c, c = cmpK p q := ⟨_, rfl⟩
  rw [← hcc]
  rw [hck] at hcc
  have HCC := Lib.hid hcc
  clear hcc hck
  have HC1 := Lib.hid (fun W => compare_any p.1 q.1 W)
  have HC2 := Lib.hid (fun W => compare_any p.2 q.2 W)
  have HOr := Lib.hid (fun a b => or_any (w := (w1.alloc (.cells #[.int .i64 a, .int .i64 b] 3)).drew) a b (g := w1.heap.size) (blo_laid w1 _ _).drew)
  have HAl := Lib.hid (fun a b : Int => (sup_pc9 w1 (.cells #[.int .i64 a, .int .i64 b] 3)).drew)
  clear hX hY
  go_enter Try.func34, Try.ntmps34
  go_upto_region 1 with (fail)
  rw [← hw1]
  clear hw1
  generalize cmpI p.1 q.1 = a at *
  generalize cmpI p.2 q.2 = b at *
  generalize p.1 = p1 at *
  generalize p.2 = p2 at *
  generalize q.1 = q1 at *
  generalize q.2 = q2 at *
  generalize w.heap.size + 1 = g2 at *
  generalize w.heap.size = g1 at *
  go_region_held (fun W => W.cell? ⟨g1, 0, none⟩ = some (.int .i64 p1) ∧ W.cell? ⟨g1, 1, none⟩ = some (.int .i64 p2) ∧ W.cell? ⟨g2, 0, none⟩ = some (.int .i64 q1) ∧ W.cell? ⟨g2, 1, none⟩ = some (.int .i64 q2))
    (first | exact HKp.out _ ((RowKit.Below.refl _ _).drew) | exact HKp.out _ (HAl.out _ _))
    (first
      | (go_at_call 33; (with_reducible refine (HC1.out _).mono ?_); rintro e wa ⟨rfl, rfl⟩)
      | (go_at_call 33; (with_reducible refine (HC2.out _).mono ?_); rintro e wa ⟨rfl, rfl⟩)
      | (go_at_call 47; (with_reducible refine (HOr.out _ _).mono ?_); rintro e wa ⟨rfl, rfl⟩))
  all_goals
    rename_i hHeld
    clear hHeld HKp HC1 HC2 HOr HAl
    go_wp2_with fail
    go_ret
    obtain ⟨os, rfl⟩ := HG.out
    have := HCC.out
    subst this
    refine ⟨rfl, 1, os ++ #[.cells #[.int .i64 a, .int .i64 b] 3], ?_⟩
    rw [alloc_eq_grow, grow_grow]
    rfl
def encP (p : Int × Int) : List Value := [.int .i64 p.1, .int .i64 p.2]
theorem ltOfK (p q : Int × Int) : ltOf cmpK p q = true ↔ ltK p q := ltK_dec p q
theorem swoK : SWO (ltOf cmpK) where
  irrefl x := by
    cases h : ltOf cmpK x x with
    | false => rfl
    | true => have := (ltOfK _ _).1 h; unfold ltK at this; omega
  trans x y z h1 h2 := by
    rw [ltOfK] at *
    unfold ltK at *
    omega
  ntrans x y z h1 h2 := by
    have g1 : ¬ ltK x y := fun q => by rw [(ltOfK _ _).2 q] at h1; cases h1
    have g2 : ¬ ltK y z := fun q => by rw [(ltOfK _ _).2 q] at h2; cases h2
    cases h : ltOf cmpK x z with
    | false => rfl
    | true =>
      have := (ltOfK _ _).1 h
      unfold ltK at *
      omega
set_option maxRecDepth 100000 in
set_option maxHeartbeats 4000000 in
theorem srtK_any {v : Value} {C : Nat} {ps : List (Int × Int)} (hown : W.ownsRow C KT 2 v ps.length (flatP ps)) (hlt : ps.length ≤ 4096) :
    Calls Try.prog 31 #[v, .func (.func 34) #[] #[]] W fun e w' => e = .returned (.tuple #[]) ∧ ∃ qs, qs.Perm ps ∧ qs.Pairwise (fun p q => ¬ ltK q p) ∧ w'.ownsRow C KT 2 v ps.length (flatP qs) ∧ Out (fun g => v.ownBlock = some g) W w' := by
  by_cases h0 : ps = []
  · subst h0
    obtain ⟨ao, cap, hv⟩ : ∃ ao cap, v = .slice ao 0 cap := by
      rcases hown.2 with ⟨q, _⟩ | ⟨g, cap, cur, q, _⟩
      · exact ⟨none, 0, q⟩
      · exact ⟨_, cap, q⟩
    subst hv
    have hcon := AnyF.slices_SortFunc_none Try.sortK ao cap (.func (.func 34) #[] #[]) W
    change Calls Try.prog 31 _ _ _ at hcon
    refine hcon.mono ?_
    rintro e w' ⟨rfl, rfl⟩
    exact ⟨rfl, [], List.Perm.refl _, List.Pairwise.nil, hown, Out.refl _ _⟩
  · obtain ⟨d, hd⟩ : ∃ d, d = ps.toArray := ⟨_, rfl⟩
    have hdl : d.toList = ps := by rw [hd]
    have hds : d.size = ps.length := by rw [hd]; simp
    have hk : ∀ b, (encP b).length = 2 := fun _ => rfl
    have hfl : ∀ l : List (Int × Int), l.flatMap encP = flatP l := fun _ => rfl
    obtain ⟨g, cap, hv⟩ : ∃ g cap, v = .slice (some ⟨g, 0, none⟩) ps.length cap := by
      rcases hown.2 with ⟨q, q2⟩ | ⟨g, cap, cur, q, _⟩
      · exact absurd (List.eq_nil_of_length_eq_zero q2) h0
      · exact ⟨g, cap, q⟩
    subst hv
    obtain ⟨hgC, cur, hcur⟩ := own_blo hown (g := g) rfl
    have hH : HoldsK encP 2 W g 0 d := by
      intro j hj
      rw [size_flatK, hds] at hj
      have h1 := hown.cellAt j hj
      rw [Nat.zero_add]
      refine ⟨?_, hown.frozenAt j⟩
      have hj' : j < (flatK encP 2 d).size := by rw [size_flatK, hds]; exact hj
      rw [h1, ← hfl, ← hdl, ← flatK_list _ hk, Array.getElem?_toList, Array.getElem?_eq_getElem hj', getElem!_pos _ j hj']
      rfl
    have eg : ∀ args w, (callFunc 34 args).run Try.prog w = .ok (.enter 34 args) w := enters_of Try.func34 (by kernel_rfl) rfl
    have hcmp : CmpLays Try.prog 34 #[] encP 2 cmpK g 0 d.size W := fun m os dk _ b c => byKey_any b c _
    have hcon := AnyQ.slices_SortFunc Try.sortK 2 Try.isAgg34 Try.sizeOf34 encP hk (fun b u hu => by simp [encP] at hu; rcases hu with rfl | rfl <;> rfl) cmpK swoK 34 #[] g 0 cap d W eg hcmp hH hcur.lt (by omega)
    change Calls Try.prog 31 _ _ _ at hcon
    rw [hds] at hcon
    refine hcon.mono ?_
    rintro e w' ⟨rfl, d', n, os, hp, hs, rfl⟩
    have hp1 : d'.size = d.size := hp.1
    have hp2 : d'.toList.Perm d.toList := by
      have := hp.2.2
      rw [show d'.extract 0 ps.length = d' by rw [← hds, ← hp1]; simp, show d.extract 0 ps.length = d by rw [← hds]; simp] at this
      exact this
    have ho := out_sort encP W g n d' os
    refine ⟨rfl, d'.toList, by rw [← hdl]; exact hp2, ?_, ?_, ho.mono fun i _ e => by rw [e]; rfl⟩
    · rw [List.pairwise_iff_getElem]
      intro i j hi hj hij
      have := hs i j (Nat.zero_le _) hij (by rw [← hds, ← hp1]; simpa using hj)
      rw [getElem!_pos d' j (by simpa using hj), getElem!_pos d' i (by simpa using hi)] at this
      intro q
      have := (ltOfK _ _).2 q
      simp_all
    · have hown' : W.ownsRow C KT 2 (.slice (some ⟨g, 0, none⟩) d.size cap) d.size (flatP ps) := by rw [hds]; exact hown
      have := own_sort encP hk (m := n) (os := os) hown' hH hp1
      rw [hfl, hds] at this
      exact this
end
end Go.Proofs.Ytdnkeplmjimjcaa
