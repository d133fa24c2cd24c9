/-
  The walk of PickOrders.
-/
import Derived.Test.YtblpfgjjiihjoaaPkUntil
namespace Go.Proofs.Ytblpfgjjiihjoaa
open Go.RowKit

section
variable {w w' : World} {l : List Cd} {n cap : Nat}
theorem cds_three (w : World) (c d e : Cd) (t : TypeId) : Cds (w.alloc (.cells #[.int .i64 c.seg, .int .i64 c.live, .int .i64 c.cap, .int .i64 c.age, .int .i64 d.seg, .int .i64 d.live, .int .i64 d.cap, .int .i64 d.age, .int .i64 e.seg, .int .i64 e.live, .int .i64 e.cap, .int .i64 e.age] t)) (some ⟨w.heap.size, 0, none⟩) [c, d, e] := fun _ => by
  refine ⟨w.heap.size, 0, rfl, fun i hi => ?_⟩
  have h := blo_laid w t #[.int .i64 c.seg, .int .i64 c.live, .int .i64 c.cap, .int .i64 c.age, .int .i64 d.seg, .int .i64 d.live, .int .i64 d.cap, .int .i64 d.age, .int .i64 e.seg, .int .i64 e.live, .int .i64 e.cap, .int .i64 e.age]
  have hi0 : i = 0 ∨ i = 1 ∨ i = 2 := by simp at hi; omega
  rcases hi0 with rfl | rfl | rfl
  · exact ⟨h.cell 0, h.cell 1, h.cell 2, h.cell 3⟩
  · exact ⟨h.cell 4, h.cell 5, h.cell 6, h.cell 7⟩
  · exact ⟨h.cell 8, h.cell 9, h.cell 10, h.cell 11⟩
def TrB (x y z : Bool) : Prop := x = true → y = true → z = true
structure Box3 (w : World) (a b c : Cd) (g : Nat) (wr : World) : Prop where
  ba : Blo wr g CD (cdv a)
  bb : Blo wr (g + 1) CD (cdv b)
  bc : Blo wr (g + 1 + 1) CD (cdv c)
  below : Below w.heap.size w wr
theorem Box3.later {a b c : Cd} {g : Nat} {wr : World} (h : Box3 w a b c g wr) (hb : Below wr.heap.size wr w') : Box3 w a b c g w' := ⟨h.ba.later hb, h.bb.later hb, h.bc.later hb, h.below.trans (hb.mono h.below.size)⟩
theorem Box3.start (w : World) (a b c : Cd) : Box3 w a b c w.heap.size (((w.alloc (.cells (cdv a) CD)).alloc (.cells (cdv b) CD)).alloc (.cells (cdv c) CD)) := by
  refine ⟨((blo_laid w CD (cdv a)).alloc _).alloc _, ?_, ?_, (((Below.refl _ _).alloc (Nat.le_refl _) _).alloc (by simp) _).alloc (by simp; omega) _⟩
  · have := (blo_laid (w.alloc (.cells (cdv a) CD)) CD (cdv b)).alloc (.cells (cdv c) CD)
    simpa using this
  · have := blo_laid ((w.alloc (.cells (cdv a) CD)).alloc (.cells (cdv b) CD)) CD (cdv c)
    simpa using this
theorem Box3.cells {a b c : Cd} {g : Nat} {wr : World} (h : Box3 w a b c g wr) :
    (wr.cell? ⟨g, 0, none⟩ = some (.int .i64 a.seg) ∧ wr.cell? ⟨g, 1, none⟩ = some (.int .i64 a.live) ∧ wr.cell? ⟨g, 2, none⟩ = some (.int .i64 a.cap) ∧ wr.cell? ⟨g, 3, none⟩ = some (.int .i64 a.age)) ∧
    (wr.cell? ⟨g + 1, 0, none⟩ = some (.int .i64 b.seg) ∧ wr.cell? ⟨g + 1, 1, none⟩ = some (.int .i64 b.live) ∧ wr.cell? ⟨g + 1, 2, none⟩ = some (.int .i64 b.cap) ∧ wr.cell? ⟨g + 1, 3, none⟩ = some (.int .i64 b.age)) ∧
    (wr.cell? ⟨g + 1 + 1, 0, none⟩ = some (.int .i64 c.seg) ∧ wr.cell? ⟨g + 1 + 1, 1, none⟩ = some (.int .i64 c.live) ∧ wr.cell? ⟨g + 1 + 1, 2, none⟩ = some (.int .i64 c.cap) ∧ wr.cell? ⟨g + 1 + 1, 3, none⟩ = some (.int .i64 c.age)) :=
  ⟨⟨h.ba.cell 0, h.ba.cell 1, h.ba.cell 2, h.ba.cell 3⟩, ⟨h.bb.cell 0, h.bb.cell 1, h.bb.cell 2, h.bb.cell 3⟩, ⟨h.bc.cell 0, h.bc.cell 1, h.bc.cell 2, h.bc.cell 3⟩⟩
set_option maxRecDepth 100000 in
set_option maxHeartbeats 4000000 in
theorem orders_any (a b c : Cd) (W : World) (hfa : FitC a) (hfb : FitC b) (hfc : FitC c) :
    Calls Try.prog 5 #[.agg (cdv a), .agg (cdv b), .agg (cdv c)] W fun e w' => e = .returned (.bool true) ∧ Below W.heap.size W w' := by
  have HS0 := Lib.hid (Box3.start W a b c)
  unfold cdv at HS0 ⊢
  go_enter Try.func5, Try.ntmps5
  go_wp2_with fail
  generalize (((W.alloc (.cells #[.int .i64 a.seg, .int .i64 a.live, .int .i64 a.cap, .int .i64 a.age] CD)).alloc (.cells #[.int .i64 b.seg, .int .i64 b.live, .int .i64 b.cap, .int .i64 b.age] CD)).alloc (.cells #[.int .i64 c.seg, .int .i64 c.live, .int .i64 c.cap, .int .i64 c.age] CD)) = w0 at *
  refine (awake_any _).mono ?_
  rintro e w1 ⟨rfl, hb1⟩
  have HX := Lib.hid (HS0.out.later hb1)
  clear hb1 HS0
  generalize W.heap.size = g at *
  obtain ⟨⟨x0, x1, x2, x3⟩, ⟨y0, y1, y2, y3⟩, ⟨z0, z1, z2, z3⟩⟩ := HX.out.cells
  have HC1 := Lib.hid (check_any (cap := 3) (cds_three w1 a b c CD) rfl (by simp))
  have HX1 := Lib.hid (HX.out.later (sup_pk w1 (.cells #[.int .i64 a.seg, .int .i64 a.live, .int .i64 a.cap, .int .i64 a.age, .int .i64 b.seg, .int .i64 b.live, .int .i64 b.cap, .int .i64 b.age, .int .i64 c.seg, .int .i64 c.live, .int .i64 c.cap, .int .i64 c.age] CD)))
  clear HX
  go_wp2_with fail
  refine HC1.out.mono ?_
  rintro e w2 ⟨z, hz, rfl, hb2⟩
  have HX2 := Lib.hid (HX1.out.later hb2)
  clear x0 x1 x2 x3 y0 y1 y2 y3 z0 z1 z2 z3 hb2 HX1 HC1
  obtain ⟨⟨x0, x1, x2, x3⟩, ⟨y0, y1, y2, y3⟩, ⟨z0, z1, z2, z3⟩⟩ := HX2.out.cells
  have HRf3 := Lib.hid (ref_any (cap := 3) (cds_three w2 a b c CD) rfl (by simp))
  have HX3 := Lib.hid (HX2.out.later (sup_pk w2 (.cells #[.int .i64 a.seg, .int .i64 a.live, .int .i64 a.cap, .int .i64 a.age, .int .i64 b.seg, .int .i64 b.live, .int .i64 b.cap, .int .i64 b.age, .int .i64 c.seg, .int .i64 c.live, .int .i64 c.cap, .int .i64 c.age] CD)))
  clear HX2
  rcases hz with ⟨h1, h2, rfl⟩ | ⟨h1, rfl⟩
  · have ga : GoodC a := h2 a (by simp)
    have gb : GoodC b := h2 b (by simp)
    have gc : GoodC c := h2 c (by simp)
    clear h1 h2
    have HAB : Hid (∀ W : World, Calls Try.prog 18 #[.agg #[.int .i64 a.seg, .int .i64 a.live, .int .i64 a.cap, .int .i64 a.age], .agg #[.int .i64 b.seg, .int .i64 b.live, .int .i64 b.cap, .int .i64 b.age]] W fun e w' => e = .returned (.bool (betB a b)) ∧ Below W.heap.size W w') := fun W => better_any a b W ga gb
    have HBA : Hid (∀ W : World, Calls Try.prog 18 #[.agg #[.int .i64 b.seg, .int .i64 b.live, .int .i64 b.cap, .int .i64 b.age], .agg #[.int .i64 a.seg, .int .i64 a.live, .int .i64 a.cap, .int .i64 a.age]] W fun e w' => e = .returned (.bool (betB b a)) ∧ Below W.heap.size W w') := fun W => better_any b a W gb ga
    have HAA : Hid (∀ W : World, Calls Try.prog 18 #[.agg #[.int .i64 a.seg, .int .i64 a.live, .int .i64 a.cap, .int .i64 a.age], .agg #[.int .i64 a.seg, .int .i64 a.live, .int .i64 a.cap, .int .i64 a.age]] W fun e w' => e = .returned (.bool (betB a a)) ∧ Below W.heap.size W w') := fun W => better_any a a W ga ga
    have HBC : Hid (∀ W : World, Calls Try.prog 18 #[.agg #[.int .i64 b.seg, .int .i64 b.live, .int .i64 b.cap, .int .i64 b.age], .agg #[.int .i64 c.seg, .int .i64 c.live, .int .i64 c.cap, .int .i64 c.age]] W fun e w' => e = .returned (.bool (betB b c)) ∧ Below W.heap.size W w') := fun W => better_any b c W gb gc
    have HAC : Hid (∀ W : World, Calls Try.prog 18 #[.agg #[.int .i64 a.seg, .int .i64 a.live, .int .i64 a.cap, .int .i64 a.age], .agg #[.int .i64 c.seg, .int .i64 c.live, .int .i64 c.cap, .int .i64 c.age]] W fun e w' => e = .returned (.bool (betB a c)) ∧ Below W.heap.size W w') := fun W => better_any a c W ga gc
    have HRf : Hid (∀ W : World, Calls Try.prog 19 #[.agg #[.int .i64 a.seg, .int .i64 a.live, .int .i64 a.cap, .int .i64 a.age], .agg #[.int .i64 b.seg, .int .i64 b.live, .int .i64 b.cap, .int .i64 b.age]] W fun e w' => e = .returned (.bool (betB a b)) ∧ Below W.heap.size W w') := fun W => refBet_any a b W ga gb
    have HTr : Hid (TrB (betB a b) (betB b c) (betB a c)) := fun h1 h2 => bet_trans ga gb gc h1 h2
    rw [bet_self] at HAA
    clear ga gb gc
    go_wp2_with fail
    refine HRf3.out.mono ?_
    rintro e w4 ⟨xr, cpr, rfl, hO, hb4⟩
    have HX4 := Lib.hid (HX3.out.later hb4)
    obtain ⟨br, orr, rfl, p0, p1, p2, p3⟩ := (Cds.own hO).at (i := 0) (by simp)
    obtain ⟨br', orr', hbr, r0, r1, r2, r3⟩ := (Cds.own hO).at (i := 1) (by simp)
    cases hbr
    simp only [List.getD_cons_zero, List.getD_cons_succ, Nat.zero_mul, Nat.add_zero, Nat.one_mul] at p0 p1 p2 p3 r0 r1 r2 r3
    clear x0 x1 x2 x3 y0 y1 y2 y3 z0 z1 z2 z3 hb4 hO HX3 HRf3
    have s0 : ∀ q : Kept w4, q.at_.cell? ⟨br, orr, none⟩ = some (.int .i64 a.seg) := fun q => cell_later q.below p0
    have s1 : ∀ q : Kept w4, q.at_.cell? ⟨br, orr + 1, none⟩ = some (.int .i64 a.live) := fun q => cell_later q.below p1
    have s2 : ∀ q : Kept w4, q.at_.cell? ⟨br, orr + 2, none⟩ = some (.int .i64 a.cap) := fun q => cell_later q.below p2
    have s3 : ∀ q : Kept w4, q.at_.cell? ⟨br, orr + 3, none⟩ = some (.int .i64 a.age) := fun q => cell_later q.below p3
    have t0 : ∀ q : Kept w4, q.at_.cell? ⟨br, orr + 4, none⟩ = some (.int .i64 b.seg) := fun q => cell_later q.below r0
    have t1 : ∀ q : Kept w4, q.at_.cell? ⟨br, orr + 4 + 1, none⟩ = some (.int .i64 b.live) := fun q => cell_later q.below r1
    have t2 : ∀ q : Kept w4, q.at_.cell? ⟨br, orr + 4 + 2, none⟩ = some (.int .i64 b.cap) := fun q => cell_later q.below r2
    have t3 : ∀ q : Kept w4, q.at_.cell? ⟨br, orr + 4 + 3, none⟩ = some (.int .i64 b.age) := fun q => cell_later q.below r3
    have x0 : ∀ q : Kept w4, q.at_.cell? ⟨g, 0, none⟩ = some (.int .i64 a.seg) := fun q => (HX4.out.later q.below).cells.1.1
    have x1 : ∀ q : Kept w4, q.at_.cell? ⟨g, 1, none⟩ = some (.int .i64 a.live) := fun q => (HX4.out.later q.below).cells.1.2.1
    have x2 : ∀ q : Kept w4, q.at_.cell? ⟨g, 2, none⟩ = some (.int .i64 a.cap) := fun q => (HX4.out.later q.below).cells.1.2.2.1
    have x3 : ∀ q : Kept w4, q.at_.cell? ⟨g, 3, none⟩ = some (.int .i64 a.age) := fun q => (HX4.out.later q.below).cells.1.2.2.2
    have y0 : ∀ q : Kept w4, q.at_.cell? ⟨g + 1, 0, none⟩ = some (.int .i64 b.seg) := fun q => (HX4.out.later q.below).cells.2.1.1
    have y1 : ∀ q : Kept w4, q.at_.cell? ⟨g + 1, 1, none⟩ = some (.int .i64 b.live) := fun q => (HX4.out.later q.below).cells.2.1.2.1
    have y2 : ∀ q : Kept w4, q.at_.cell? ⟨g + 1, 2, none⟩ = some (.int .i64 b.cap) := fun q => (HX4.out.later q.below).cells.2.1.2.2.1
    have y3 : ∀ q : Kept w4, q.at_.cell? ⟨g + 1, 3, none⟩ = some (.int .i64 b.age) := fun q => (HX4.out.later q.below).cells.2.1.2.2.2
    have z0 : ∀ q : Kept w4, q.at_.cell? ⟨g + 1 + 1, 0, none⟩ = some (.int .i64 c.seg) := fun q => (HX4.out.later q.below).cells.2.2.1
    have z1 : ∀ q : Kept w4, q.at_.cell? ⟨g + 1 + 1, 1, none⟩ = some (.int .i64 c.live) := fun q => (HX4.out.later q.below).cells.2.2.2.1
    have z2 : ∀ q : Kept w4, q.at_.cell? ⟨g + 1 + 1, 2, none⟩ = some (.int .i64 c.cap) := fun q => (HX4.out.later q.below).cells.2.2.2.2.1
    have z3 : ∀ q : Kept w4, q.at_.cell? ⟨g + 1 + 1, 3, none⟩ = some (.int .i64 c.age) := fun q => (HX4.out.later q.below).cells.2.2.2.2.2
    clear p0 p1 p2 p3 r0 r1 r2 r3
    cases hab : betB a b with
    | true =>
      have hba := bet_asym _ _ hab
      rw [hab] at HAB HRf HTr
      rw [hba] at HBA
      clear hab hba
      go_wp2_with fail
      refine wp_region_kept (by kernel_rfl) (by kernel_rfl) ?_
      repeat (go_big_quiet_step ((first | (go_at_call 18; with_reducible exact kept_call _ (HAB.out _)) | (go_at_call 18; with_reducible exact kept_call _ (HBA.out _)) | (go_at_call 18; with_reducible exact kept_call _ (HAA.out _)) | (go_at_call 19; with_reducible exact kept_call _ (HRf.out _)))))
      refine wpQuiet_nil ?_
      rintro W5 ⟨wx, rfl⟩
      have HX5 := Lib.hid (HX4.out.later wx.below)
      clear x0 x1 x2 x3 y0 y1 y2 y3 z0 z1 z2 z3 s0 s1 s2 s3 t0 t1 t2 t3 HX4 HBA HAA HRf
      generalize wx.at_ = w5 at *
      obtain ⟨⟨x0, x1, x2, x3⟩, ⟨y0, y1, y2, y3⟩, ⟨z0, z1, z2, z3⟩⟩ := HX5.out.cells
      cases hbc : betB b c with
      | true =>
        rw [hbc] at HBC
        have hac := HTr.out rfl hbc
        rw [hac] at HAC
        clear hbc hac HTr
        go_wp2_with fail
        refine (HAB.out _).mono ?_
        rintro e w6 ⟨rfl, hb6⟩
        have HX6 := Lib.hid (HX5.out.later hb6)
        clear x0 x1 x2 x3 y0 y1 y2 y3 z0 z1 z2 z3 hb6 HX5
        obtain ⟨⟨x0, x1, x2, x3⟩, ⟨y0, y1, y2, y3⟩, ⟨z0, z1, z2, z3⟩⟩ := HX6.out.cells
        go_wp2_with fail
        refine (HBC.out _).mono ?_
        rintro e w7 ⟨rfl, hb7⟩
        have HX7 := Lib.hid (HX6.out.later hb7)
        clear x0 x1 x2 x3 y0 y1 y2 y3 z0 z1 z2 z3 hb7 HX6
        obtain ⟨⟨x0, x1, x2, x3⟩, ⟨y0, y1, y2, y3⟩, ⟨z0, z1, z2, z3⟩⟩ := HX7.out.cells
        go_wp2_with fail
        refine (HAC.out _).mono ?_
        rintro e w8 ⟨rfl, hb8⟩
        have HB8 := Lib.hid (HX7.out.later hb8).below
        clear x0 x1 x2 x3 y0 y1 y2 y3 z0 z1 z2 z3 hb8 HX7
        go_wp2
        go_ret
        exact ⟨rfl, HB8.out⟩
      | false =>
        rw [hbc] at HBC
        clear hbc HTr
        go_wp2_with fail
        refine (HAB.out _).mono ?_
        rintro e w6 ⟨rfl, hb6⟩
        have HX6 := Lib.hid (HX5.out.later hb6)
        clear x0 x1 x2 x3 y0 y1 y2 y3 z0 z1 z2 z3 hb6 HX5
        obtain ⟨⟨x0, x1, x2, x3⟩, ⟨y0, y1, y2, y3⟩, ⟨z0, z1, z2, z3⟩⟩ := HX6.out.cells
        go_wp2_with fail
        refine (HBC.out _).mono ?_
        rintro e w7 ⟨rfl, hb7⟩
        have HB7 := Lib.hid (HX6.out.later hb7).below
        clear x0 x1 x2 x3 y0 y1 y2 y3 z0 z1 z2 z3 hb7 HX6
        go_wp2
        go_ret
        exact ⟨rfl, HB7.out⟩
    | false =>
      rw [hab] at HAB HRf HTr
      clear hab
      go_wp2_with fail
      refine wp_region_kept (by kernel_rfl) (by kernel_rfl) ?_
      repeat (go_big_quiet_step ((first | (go_at_call 18; with_reducible exact kept_call _ (HAB.out _)) | (go_at_call 18; with_reducible exact kept_call _ (HBA.out _)) | (go_at_call 18; with_reducible exact kept_call _ (HAA.out _)) | (go_at_call 19; with_reducible exact kept_call _ (HRf.out _)))))
      refine wpQuiet_nil ?_
      rintro W5 ⟨wx, rfl⟩
      have HX5 := Lib.hid (HX4.out.later wx.below)
      clear x0 x1 x2 x3 y0 y1 y2 y3 z0 z1 z2 z3 s0 s1 s2 s3 t0 t1 t2 t3 HX4 HBA HAA HRf
      generalize wx.at_ = w5 at *
      obtain ⟨⟨x0, x1, x2, x3⟩, ⟨y0, y1, y2, y3⟩, ⟨z0, z1, z2, z3⟩⟩ := HX5.out.cells
      go_wp2_with fail
      refine (HAB.out _).mono ?_
      rintro e w6 ⟨rfl, hb6⟩
      have HB6 := Lib.hid (HX5.out.later hb6).below
      clear x0 x1 x2 x3 y0 y1 y2 y3 z0 z1 z2 z3 hb6 HX5
      go_wp2
      go_ret
      exact ⟨rfl, HB6.out⟩
  · have HNo := Lib.hid h1
    clear h1
    go_wp2_with fail
    refine HRf3.out.mono ?_
    rintro e w4 ⟨xr, cpr, rfl, hO, hb4⟩
    have HX4 := Lib.hid (HX3.out.later hb4)
    have HGd := Lib.hid (good_any (cap := cpr) (Cds.own hO) rfl (by simp))
    clear x0 x1 x2 x3 y0 y1 y2 y3 z0 z1 z2 z3 hb4 hO HX3 HRf3
    go_wp2_with fail
    refine HGd.out.mono ?_
    rintro e w5 ⟨bg, hbg, rfl, hb5⟩
    have hbf : bg = false := by
      cases bg with
      | false => rfl
      | true => exact absurd (hbg.1 rfl) HNo.out
    subst hbf
    have HB5 := Lib.hid (HX4.out.later hb5).below
    clear hbg hb5 HGd HX4
    go_wp2
    go_ret
    exact ⟨rfl, HB5.out⟩
theorem pickOrders_walk (a1 a2 a3 a4 b1 b2 b3 b4 c1 c2 c3 c4 : Int) (W : World) (ha1 : (Lit.int .i64 a1).wf = true) (ha2 : (Lit.int .i64 a2).wf = true) (ha3 : (Lit.int .i64 a3).wf = true) (ha4 : (Lit.int .i64 a4).wf = true) (hb1 : (Lit.int .i64 b1).wf = true) (hb2 : (Lit.int .i64 b2).wf = true) (hb3 : (Lit.int .i64 b3).wf = true) (hb4 : (Lit.int .i64 b4).wf = true) (hc1 : (Lit.int .i64 c1).wf = true) (hc2 : (Lit.int .i64 c2).wf = true) (hc3 : (Lit.int .i64 c3).wf = true) (hc4 : (Lit.int .i64 c4).wf = true) :
    Calls Try.prog 5 #[.agg #[.int .i64 a1, .int .i64 a2, .int .i64 a3, .int .i64 a4], .agg #[.int .i64 b1, .int .i64 b2, .int .i64 b3, .int .i64 b4], .agg #[.int .i64 c1, .int .i64 c2, .int .i64 c3, .int .i64 c4]] W fun e w' => e = .returned (.bool true) ∧ Below W.heap.size W w' :=
  orders_any ⟨a1, a2, a3, a4⟩ ⟨b1, b2, b3, b4⟩ ⟨c1, c2, c3, c4⟩ W ⟨wf_bounds ha1, wf_bounds ha2, wf_bounds ha3, wf_bounds ha4⟩ ⟨wf_bounds hb1, wf_bounds hb2, wf_bounds hb3, wf_bounds hb4⟩ ⟨wf_bounds hc1, wf_bounds hc2, wf_bounds hc3, wf_bounds hc4⟩
end
end Go.Proofs.Ytblpfgjjiihjoaa
