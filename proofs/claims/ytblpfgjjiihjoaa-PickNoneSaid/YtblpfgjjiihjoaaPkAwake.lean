/-
  awake: the document's example; a list that came in.
-/
import Derived.Test.YtblpfgjjiihjoaaPkLaw
import Derived.Test.YtblpfgjjiihjoaaQuads
namespace Go.Proofs.Ytblpfgjjiihjoaa
open Go.RowKit

section
variable {w w' : World} {a : Option Addr} {l : List Cd} {n cap : Nat}
theorem quads_list {z : List Int} (h : Quads w a n z) : ∃ l, Cds w a l ∧ n = l.length ∧ FitL l ∧ n ≤ 9223372036854775807 := by
  obtain ⟨h1, h2, h3⟩ := h
  refine ⟨(List.range n).map (fun i => ⟨z.getD (i * 4) 0, z.getD (i * 4 + 1) 0, z.getD (i * 4 + 2) 0, z.getD (i * 4 + 3) 0⟩), fun hne => ?_, by simp, fun c hc => ?_, h1⟩
  · have hn : n ≠ 0 := fun e => hne (by rw [e]; rfl)
    obtain ⟨b, o, ha, hc⟩ := h3 hn
    refine ⟨b, o, ha, fun i hi => ?_⟩
    have hi' : i < n := by simpa using hi
    have e : ((List.range n).map (fun i => (⟨z.getD (i * 4) 0, z.getD (i * 4 + 1) 0, z.getD (i * 4 + 2) 0, z.getD (i * 4 + 3) 0⟩ : Cd))).getD i c0 = ⟨z.getD (i * 4) 0, z.getD (i * 4 + 1) 0, z.getD (i * 4 + 2) 0, z.getD (i * 4 + 3) 0⟩ := by
      rw [List.getD_eq_getElem?_getD, List.getElem?_map, List.getElem?_range hi']
      rfl
    rw [e]
    exact hc i hi'
  · obtain ⟨i, hi, rfl⟩ := List.mem_map.1 hc
    exact ⟨h2 _, h2 _, h2 _, h2 _⟩
theorem trod_nil {H : Type} {enc : TypeId × Value → H} {P : Program} {w : World} {base : Nat} {spare : Nat → Bool} {held : Bool} {t e : TypeId} {fuel : Nat} {cs : List Value} {x : DataW H × List MemPlace}
    (ht : P.underlying t = some (.slice e)) (h : DataW.trod enc P w base spare held fuel t cs = some x) : ∃ a len cap, cs = [.slice a len cap] ∧ (a = none → len = 0 ∧ cap = 0) := by
  rcases Go.Deep.open_slice ht h with ⟨rfl, _⟩ | ⟨a, len, cap, m, n, D, Pl, rfl, _⟩
  · exact ⟨none, 0, 0, rfl, fun _ => ⟨rfl, rfl⟩⟩
  · exact ⟨some a, len, cap, rfl, (fun h => by cases h)⟩
def exA : Cd := ⟨1, 2, 8, 10⟩
def exB : Cd := ⟨2, 0, 8, 5⟩
theorem ex_ab : betB exA exB = true := by decide
theorem ex_ba : betB exB exA = false := by decide
theorem ex_ord : ordC [exB, exA] = [exA, exB] := rfl
theorem ex_good : GoodC exA ∧ GoodC exB := by unfold GoodC exA exB; decide
theorem cds_two (w : World) (c d : Cd) (t : TypeId) : Cds (w.alloc (.cells #[.int .i64 c.seg, .int .i64 c.live, .int .i64 c.cap, .int .i64 c.age, .int .i64 d.seg, .int .i64 d.live, .int .i64 d.cap, .int .i64 d.age] t)) (some ⟨w.heap.size, 0, none⟩) [c, d] := fun _ => by
  refine ⟨w.heap.size, 0, rfl, fun i hi => ?_⟩
  have h := blo_laid w t #[.int .i64 c.seg, .int .i64 c.live, .int .i64 c.cap, .int .i64 c.age, .int .i64 d.seg, .int .i64 d.live, .int .i64 d.cap, .int .i64 d.age]
  have hi0 : i = 0 ∨ i = 1 := by simp at hi; omega
  rcases hi0 with rfl | rfl
  · exact ⟨h.cell 0, h.cell 1, h.cell 2, h.cell 3⟩
  · exact ⟨h.cell 4, h.cell 5, h.cell 6, h.cell 7⟩
set_option maxHeartbeats 4000000 in
theorem awake_any (w : World) : Calls Try.prog 9 #[] w fun e w' => e = .returned (.bool true) ∧ Below w.heap.size w w' := by
  have hb2 : Below w.heap.size w ((w.alloc (.cells #[.int .i64 1, .int .i64 2, .int .i64 8, .int .i64 10] CD)).alloc (.cells #[.int .i64 2, .int .i64 0, .int .i64 8, .int .i64 5] CD)) := ((Below.refl _ _).alloc (Nat.le_refl _) _).alloc (by simp) _
  have k0 := (blo_laid w CD #[.int .i64 1, .int .i64 2, .int .i64 8, .int .i64 10]).alloc (.cells #[.int .i64 2, .int .i64 0, .int .i64 8, .int .i64 5] CD)
  have k1 := blo_laid (w.alloc (.cells #[.int .i64 1, .int .i64 2, .int .i64 8, .int .i64 10] CD)) CD #[.int .i64 2, .int .i64 0, .int .i64 8, .int .i64 5]
  rw [show (w.alloc (.cells #[.int .i64 1, .int .i64 2, .int .i64 8, .int .i64 10] CD)).heap.size = w.heap.size + 1 by simp] at k1
  have K0 := Lib.hid k0
  have K1 := Lib.hid k1
  have HB2 := Lib.hid hb2
  clear k0 k1 hb2
  go_enter Try.func9, Try.ntmps9
  go_upto_region 2 with (fail)
  generalize ((w.alloc (.cells #[.int .i64 1, .int .i64 2, .int .i64 8, .int .i64 10] CD)).alloc (.cells #[.int .i64 2, .int .i64 0, .int .i64 8, .int .i64 5] CD)) = w2 at *
  have a0 := K0.out.cell 0
  have a1 := K0.out.cell 1
  have a2 := K0.out.cell 2
  have a3 := K0.out.cell 3
  have b0 := K1.out.cell 0
  have b1 := K1.out.cell 1
  have b2 := K1.out.cell 2
  have b3 := K1.out.cell 3
  simp at a0 a1 a2 a3 b0 b1 b2 b3
  have hb3 := sup_pk w2 (.cells #[.int .i64 2, .int .i64 0, .int .i64 8, .int .i64 5, .int .i64 1, .int .i64 2, .int .i64 8, .int .i64 10] CD)
  have HBe := Lib.hid (best_any (cap := 2) 1 (cds_two w2 exB exA CD) rfl (by decide))
  have K3 := Lib.hid (K0.out.later hb3)
  have K4 := Lib.hid (K1.out.later hb3)
  have HB3 := Lib.hid (HB2.out.trans (hb3.mono HB2.out.size))
  clear hb3 K0 K1 HB2
  unfold exA exB at HBe
  go_wp2_with fail
  refine HBe.out.mono ?_
  rintro e w4 ⟨x, m, cp, L, z, hI, rfl, hm, hO, hb4⟩
  have hL : L = [exA] ∧ z = 0 := by
    rcases hI with ⟨h | h, _⟩ | ⟨_, _, h, hz⟩
    · exact absurd ⟨by decide, fun c hc => by
        have : c = exB ∨ c = exA := by simpa [exA, exB] using hc
        rcases this with rfl | rfl
        · exact ex_good.2
        · exact ex_good.1⟩ h
    · exact absurd h (by decide)
    · exact ⟨h, hz⟩
  obtain ⟨rfl, rfl⟩ := hL
  obtain rfl : m = 1 := hm
  obtain ⟨b, o, rfl, y0, y1, y2, y3⟩ := (Cds.own hO).at (i := 0) (by decide)
  simp only [exA, c0, List.getD_cons_zero, Nat.zero_mul, Nat.add_zero] at y0 y1 y2 y3
  have K5 := Lib.hid (K3.out.later hb4)
  have K6 := Lib.hid (K4.out.later hb4)
  have HB4 := Lib.hid (HB3.out.trans (hb4.mono HB3.out.size))
  clear hI hO hb4 HBe K3 K4 HB3 a0 a1 a2 a3 b0 b1 b2 b3
  have a0 : ∀ y : Kept w4, y.at_.cell? ⟨w.heap.size, 0, none⟩ = some (.int .i64 1) := fun y => by simpa using (K5.out.later y.below).cell 0
  have a1 : ∀ y : Kept w4, y.at_.cell? ⟨w.heap.size, 1, none⟩ = some (.int .i64 2) := fun y => by simpa using (K5.out.later y.below).cell 1
  have a2 : ∀ y : Kept w4, y.at_.cell? ⟨w.heap.size, 2, none⟩ = some (.int .i64 8) := fun y => by simpa using (K5.out.later y.below).cell 2
  have a3 : ∀ y : Kept w4, y.at_.cell? ⟨w.heap.size, 3, none⟩ = some (.int .i64 10) := fun y => by simpa using (K5.out.later y.below).cell 3
  have b0 : ∀ y : Kept w4, y.at_.cell? ⟨w.heap.size + 1, 0, none⟩ = some (.int .i64 2) := fun y => by simpa using (K6.out.later y.below).cell 0
  have b1 : ∀ y : Kept w4, y.at_.cell? ⟨w.heap.size + 1, 1, none⟩ = some (.int .i64 0) := fun y => by simpa using (K6.out.later y.below).cell 1
  have b2 : ∀ y : Kept w4, y.at_.cell? ⟨w.heap.size + 1, 2, none⟩ = some (.int .i64 8) := fun y => by simpa using (K6.out.later y.below).cell 2
  have b3 : ∀ y : Kept w4, y.at_.cell? ⟨w.heap.size + 1, 3, none⟩ = some (.int .i64 5) := fun y => by simpa using (K6.out.later y.below).cell 3
  have d0 : ∀ y : Kept w4, y.at_.cell? ⟨b, o, none⟩ = some (.int .i64 1) := fun y => cell_later y.below y0
  have d1 : ∀ y : Kept w4, y.at_.cell? ⟨b, o + 1, none⟩ = some (.int .i64 2) := fun y => cell_later y.below y1
  have d2 : ∀ y : Kept w4, y.at_.cell? ⟨b, o + 2, none⟩ = some (.int .i64 8) := fun y => cell_later y.below y2
  have d3 : ∀ y : Kept w4, y.at_.cell? ⟨b, o + 3, none⟩ = some (.int .i64 10) := fun y => cell_later y.below y3
  have HR1 : Hid (∀ W : World, Calls Try.prog 18 #[.agg #[.int .i64 1, .int .i64 2, .int .i64 8, .int .i64 10], .agg #[.int .i64 2, .int .i64 0, .int .i64 8, .int .i64 5]] W fun e w' => e = .returned (.bool true) ∧ Below W.heap.size W w') := fun W => by
    have := better_any exA exB W ex_good.1 ex_good.2
    rw [ex_ab] at this
    exact this
  have HR2 : Hid (∀ W : World, Calls Try.prog 18 #[.agg #[.int .i64 2, .int .i64 0, .int .i64 8, .int .i64 5], .agg #[.int .i64 1, .int .i64 2, .int .i64 8, .int .i64 10]] W fun e w' => e = .returned (.bool false) ∧ Below W.heap.size W w') := fun W => by
    have := better_any exB exA W ex_good.2 ex_good.1
    rw [ex_ba] at this
    exact this
  have heq : ∀ W, (binOp .eql CD (.agg #[.int .i64 1, .int .i64 2, .int .i64 8, .int .i64 10]) (.agg #[.int .i64 1, .int .i64 2, .int .i64 8, .int .i64 10])).run Try.prog W = .ok (.bool true) W := fun W => by
    obtain ⟨r, h1, h2⟩ := eql_cd exA exA (by unfold FitC FitZ exA; decide) (by unfold FitC FitZ exA; decide) W
    have : r = true := h2.2 rfl
    subst this
    exact h1
  clear y0 y1 y2 y3 K5 K6
  go_wp2_with fail
  refine wp_region_kept (by kernel_rfl) (by kernel_rfl) ?_
  repeat (go_big_quiet_step ((first | (go_at_call 18; with_reducible exact kept_call _ (HR1.out _)) | (go_at_call 18; with_reducible exact kept_call _ (HR2.out _)))))
  refine wpQuiet_nil ?_
  rintro W ⟨wx, rfl⟩
  have HB5 := Lib.hid (HB4.out.trans (wx.below.mono HB4.out.size))
  clear a0 a1 a2 a3 b0 b1 b2 b3 d0 d1 d2 d3 HR1 HR2
  go_wp2
  go_ret
  exact ⟨rfl, HB5.out⟩
end
end Go.Proofs.Ytblpfgjjiihjoaa
