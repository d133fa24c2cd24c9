/-
  The walk of PointNewer.
-/
import Derived.Test.YtmkhliabmodbdaaPtRefN
namespace Go.Proofs.Ytmkhliabmodbdaa
open Go.RowKit

abbrev pa4 (e c n f : Int) : Array Value := #[.int .i64 e, .int .i64 c, .int .i64 n, .int .i64 f]
theorem new_asym {p q : Pt} (h : newB p q = true) : newB q p = false := by
  rw [newB_iff] at h; rw [newB_false]; unfold NewP at *; omega
theorem new_self (p : Pt) : newB p p = false := by rw [newB_false]; unfold NewP; omega
theorem new_trans {p q r : Pt} (h : newB p q = true) (k : newB q r = true) : newB p r = true := by
  rw [newB_iff] at *; unfold NewP at *; omega
structure Box3 (w : World) (g : Nat) (a0 a1 a2 a3 b0 b1 b2 b3 c0 c1 c2 c3 : Int) : Prop where
  a : Blo w g PNT #[.int .i64 a0, .int .i64 a1, .int .i64 a2, .int .i64 a3]
  b : Blo w (g + 1) PNT #[.int .i64 b0, .int .i64 b1, .int .i64 b2, .int .i64 b3]
  c : Blo w (g + 1 + 1) PNT #[.int .i64 c0, .int .i64 c1, .int .i64 c2, .int .i64 c3]
set_option maxRecDepth 100000 in
set_option maxHeartbeats 8000000 in
theorem pointNewer_walk (a0 a1 a2 a3 b0 b1 b2 b3 c0 c1 c2 c3 : Int) (W : World) (_ : (Lit.int .i64 a0).wf = true) (_ : (Lit.int .i64 a1).wf = true) (_ : (Lit.int .i64 a2).wf = true) (_ : (Lit.int .i64 a3).wf = true) (_ : (Lit.int .i64 b0).wf = true) (_ : (Lit.int .i64 b1).wf = true) (_ : (Lit.int .i64 b2).wf = true) (_ : (Lit.int .i64 b3).wf = true) (_ : (Lit.int .i64 c0).wf = true) (_ : (Lit.int .i64 c1).wf = true) (_ : (Lit.int .i64 c2).wf = true) (_ : (Lit.int .i64 c3).wf = true) :
    Calls Try.prog 6 #[.agg #[.int .i64 a0, .int .i64 a1, .int .i64 a2, .int .i64 a3], .agg #[.int .i64 b0, .int .i64 b1, .int .i64 b2, .int .i64 b3], .agg #[.int .i64 c0, .int .i64 c1, .int .i64 c2, .int .i64 c3]] W fun e w' => e = .returned (.bool true) ∧ Below W.heap.size W w' := by
  have hb3 : Below W.heap.size W (((W.alloc (.cells #[.int .i64 a0, .int .i64 a1, .int .i64 a2, .int .i64 a3] PNT)).alloc (.cells #[.int .i64 b0, .int .i64 b1, .int .i64 b2, .int .i64 b3] PNT)).alloc (.cells #[.int .i64 c0, .int .i64 c1, .int .i64 c2, .int .i64 c3] PNT)) := (((Below.refl _ _).alloc (Nat.le_refl _) _).alloc (by simp) _).alloc (by simp; omega) _
  have hbx : Box3 (((W.alloc (.cells #[.int .i64 a0, .int .i64 a1, .int .i64 a2, .int .i64 a3] PNT)).alloc (.cells #[.int .i64 b0, .int .i64 b1, .int .i64 b2, .int .i64 b3] PNT)).alloc (.cells #[.int .i64 c0, .int .i64 c1, .int .i64 c2, .int .i64 c3] PNT)) W.heap.size a0 a1 a2 a3 b0 b1 b2 b3 c0 c1 c2 c3 := by
    refine ⟨((blo_laid W _ _).alloc _).alloc _, ?_, ?_⟩
    · have := (blo_laid (W.alloc (.cells #[.int .i64 a0, .int .i64 a1, .int .i64 a2, .int .i64 a3] PNT)) PNT #[.int .i64 b0, .int .i64 b1, .int .i64 b2, .int .i64 b3]).alloc (.cells #[.int .i64 c0, .int .i64 c1, .int .i64 c2, .int .i64 c3] PNT)
      simpa using this
    · have := blo_laid ((W.alloc (.cells #[.int .i64 a0, .int .i64 a1, .int .i64 a2, .int .i64 a3] PNT)).alloc (.cells #[.int .i64 b0, .int .i64 b1, .int .i64 b2, .int .i64 b3] PNT)) PNT #[.int .i64 c0, .int .i64 c1, .int .i64 c2, .int .i64 c3]
      simpa using this
  have HB3 := Lib.hid hb3
  have HBx := Lib.hid hbx
  clear hb3 hbx
  have HN := Lib.hid (fun (e c n f e2 c2 n2 f2 : Int) (w : World) => newer_any e c n f e2 c2 n2 f2 w)
  have HRN := Lib.hid (fun (e c n f e2 c2 n2 f2 : Int) (w : World) => refNewer_any e c n f e2 c2 n2 f2 w)
  have HRf := Lib.hid (fun (e c n f : Int) (w : World) => ref_any e c n f w)
  have hself := new_self ⟨a0, a1, a2, a3⟩
  have HAs := Lib.hid (@new_asym ⟨a0, a1, a2, a3⟩ ⟨b0, b1, b2, b3⟩)
  have HTr := Lib.hid (@new_trans ⟨a0, a1, a2, a3⟩ ⟨b0, b1, b2, b3⟩ ⟨c0, c1, c2, c3⟩)
  go_enter Try.func6, Try.ntmps6
  go_wp2_with fail
  refine (awake_any _).mono ?_
  rintro e w1 ⟨rfl, hb1⟩
  have HB1 := Lib.hid (HB3.out.trans (hb1.mono HB3.out.size))
  have HBx1 : Hid (∀ y : Kept w1, Box3 y.at_ W.heap.size a0 a1 a2 a3 b0 b1 b2 b3 c0 c1 c2 c3) := fun y => by
    have hb := hb1.trans (y.below.mono hb1.size)
    exact ⟨HBx.out.a.later hb, HBx.out.b.later hb, HBx.out.c.later hb⟩
  clear hb1 HB3 HBx
  go_wp2_with fail
  have za0 : ∀ y : Kept w1, y.at_.cell? ⟨W.heap.size, 0, none⟩ = some (.int .i64 a0) := fun y => by simpa using (HBx1.out y).a.cell 0
  have za1 : ∀ y : Kept w1, y.at_.cell? ⟨W.heap.size, 1, none⟩ = some (.int .i64 a1) := fun y => by simpa using (HBx1.out y).a.cell 1
  have za2 : ∀ y : Kept w1, y.at_.cell? ⟨W.heap.size, 2, none⟩ = some (.int .i64 a2) := fun y => by simpa using (HBx1.out y).a.cell 2
  have za3 : ∀ y : Kept w1, y.at_.cell? ⟨W.heap.size, 3, none⟩ = some (.int .i64 a3) := fun y => by simpa using (HBx1.out y).a.cell 3
  have zb0 : ∀ y : Kept w1, y.at_.cell? ⟨W.heap.size + 1, 0, none⟩ = some (.int .i64 b0) := fun y => by simpa using (HBx1.out y).b.cell 0
  have zb1 : ∀ y : Kept w1, y.at_.cell? ⟨W.heap.size + 1, 1, none⟩ = some (.int .i64 b1) := fun y => by simpa using (HBx1.out y).b.cell 1
  have zb2 : ∀ y : Kept w1, y.at_.cell? ⟨W.heap.size + 1, 2, none⟩ = some (.int .i64 b2) := fun y => by simpa using (HBx1.out y).b.cell 2
  have zb3 : ∀ y : Kept w1, y.at_.cell? ⟨W.heap.size + 1, 3, none⟩ = some (.int .i64 b3) := fun y => by simpa using (HBx1.out y).b.cell 3
  have hbb : ∀ b : Bool, (b != b) = false := by decide
  cases hab : newB ⟨a0, a1, a2, a3⟩ ⟨b0, b1, b2, b3⟩ with
  | true =>
    have hba := HAs.out hab
    have HN1 : Hid (∀ w, Calls Try.prog 33 #[.agg #[.int .i64 a0, .int .i64 a1, .int .i64 a2, .int .i64 a3], .agg #[.int .i64 b0, .int .i64 b1, .int .i64 b2, .int .i64 b3]] w fun e w' => e = .returned (.bool true) ∧ Below w.heap.size w w') := fun w => by
      have := newer_any a0 a1 a2 a3 b0 b1 b2 b3 w; rw [hab] at this; exact this
    have HN2 : Hid (∀ w, Calls Try.prog 33 #[.agg #[.int .i64 b0, .int .i64 b1, .int .i64 b2, .int .i64 b3], .agg #[.int .i64 a0, .int .i64 a1, .int .i64 a2, .int .i64 a3]] w fun e w' => e = .returned (.bool false) ∧ Below w.heap.size w w') := fun w => by
      have := newer_any b0 b1 b2 b3 a0 a1 a2 a3 w; rw [hba] at this; exact this
    have HN3 : Hid (∀ w, Calls Try.prog 33 #[.agg #[.int .i64 a0, .int .i64 a1, .int .i64 a2, .int .i64 a3], .agg #[.int .i64 a0, .int .i64 a1, .int .i64 a2, .int .i64 a3]] w fun e w' => e = .returned (.bool false) ∧ Below w.heap.size w w') := fun w => by
      have := newer_any a0 a1 a2 a3 a0 a1 a2 a3 w; rw [hself] at this; exact this
    have HR1 : Hid (∀ w, Calls Try.prog 34 #[.agg #[.int .i64 a0, .int .i64 a1, .int .i64 a2, .int .i64 a3], .agg #[.int .i64 b0, .int .i64 b1, .int .i64 b2, .int .i64 b3]] w fun e w' => e = .returned (.bool true) ∧ Below w.heap.size w w') := fun w => by
      have := refNewer_any a0 a1 a2 a3 b0 b1 b2 b3 w; rw [hab] at this; exact this
    have HTr2 := Lib.hid (HTr.out hab)
    clear hba hself HAs HTr hab
    refine wp_region_kept (by kernel_rfl) (by kernel_rfl) ?_
    repeat (go_big_quiet_step (first | (go_at_call 33; first | (with_reducible exact kept_call _ (HN1.out _)) | (with_reducible exact kept_call _ (HN2.out _)) | (with_reducible exact kept_call _ (HN3.out _))) | (go_at_call 34; with_reducible exact kept_call _ (HR1.out _)) | (go_at_call 14; with_reducible exact kept_call _ (HRf.out _ _ _ _ _))))
    refine wpQuiet_nil ?_
    rintro W7 ⟨wx, rfl⟩
    obtain ⟨w7, hw7⟩ : ∃ w7, wx.at_ = w7 := ⟨_, rfl⟩
    have HX7 : Hid (Box3 w7 W.heap.size a0 a1 a2 a3 b0 b1 b2 b3 c0 c1 c2 c3) := by
      show Box3 w7 W.heap.size a0 a1 a2 a3 b0 b1 b2 b3 c0 c1 c2 c3
      rw [← hw7]; exact HBx1.out wx
    have HB7 : Hid (Below W.heap.size W w7) := by
      show Below W.heap.size W w7
      rw [← hw7]; exact HB1.out.trans (wx.below.mono HB1.out.size)
    rw [hw7]
    clear hw7 HBx1 HB1 za0 za1 za2 za3 zb0 zb1 zb2 zb3
    have ya0 : w7.cell? ⟨W.heap.size, 0, none⟩ = some (.int .i64 a0) := by simpa using (HX7.out).a.cell 0
    have ya1 : w7.cell? ⟨W.heap.size, 1, none⟩ = some (.int .i64 a1) := by simpa using (HX7.out).a.cell 1
    have ya2 : w7.cell? ⟨W.heap.size, 2, none⟩ = some (.int .i64 a2) := by simpa using (HX7.out).a.cell 2
    have ya3 : w7.cell? ⟨W.heap.size, 3, none⟩ = some (.int .i64 a3) := by simpa using (HX7.out).a.cell 3
    have yb0 : w7.cell? ⟨W.heap.size + 1, 0, none⟩ = some (.int .i64 b0) := by simpa using (HX7.out).b.cell 0
    have yb1 : w7.cell? ⟨W.heap.size + 1, 1, none⟩ = some (.int .i64 b1) := by simpa using (HX7.out).b.cell 1
    have yb2 : w7.cell? ⟨W.heap.size + 1, 2, none⟩ = some (.int .i64 b2) := by simpa using (HX7.out).b.cell 2
    have yb3 : w7.cell? ⟨W.heap.size + 1, 3, none⟩ = some (.int .i64 b3) := by simpa using (HX7.out).b.cell 3
    have yc0 : w7.cell? ⟨W.heap.size + 1 + 1, 0, none⟩ = some (.int .i64 c0) := by simpa using (HX7.out).c.cell 0
    have yc1 : w7.cell? ⟨W.heap.size + 1 + 1, 1, none⟩ = some (.int .i64 c1) := by simpa using (HX7.out).c.cell 1
    have yc2 : w7.cell? ⟨W.heap.size + 1 + 1, 2, none⟩ = some (.int .i64 c2) := by simpa using (HX7.out).c.cell 2
    have yc3 : w7.cell? ⟨W.heap.size + 1 + 1, 3, none⟩ = some (.int .i64 c3) := by simpa using (HX7.out).c.cell 3
    go_wp2_with fail
    refine (HN1.out _).mono ?_
    rintro e w8 ⟨rfl, hb8⟩
    have HB8 := Lib.hid (HB7.out.trans (hb8.mono HB7.out.size))
    have HX8 : Hid (Box3 w8 W.heap.size a0 a1 a2 a3 b0 b1 b2 b3 c0 c1 c2 c3) := ⟨HX7.out.a.later hb8, HX7.out.b.later hb8, HX7.out.c.later hb8⟩
    clear hb8 HX7 HB7 ya0 ya1 ya2 ya3 yb0 yb1 yb2 yb3 yc0 yc1 yc2 yc3
    have ya0 : w8.cell? ⟨W.heap.size, 0, none⟩ = some (.int .i64 a0) := by simpa using (HX8.out).a.cell 0
    have ya1 : w8.cell? ⟨W.heap.size, 1, none⟩ = some (.int .i64 a1) := by simpa using (HX8.out).a.cell 1
    have ya2 : w8.cell? ⟨W.heap.size, 2, none⟩ = some (.int .i64 a2) := by simpa using (HX8.out).a.cell 2
    have ya3 : w8.cell? ⟨W.heap.size, 3, none⟩ = some (.int .i64 a3) := by simpa using (HX8.out).a.cell 3
    have yb0 : w8.cell? ⟨W.heap.size + 1, 0, none⟩ = some (.int .i64 b0) := by simpa using (HX8.out).b.cell 0
    have yb1 : w8.cell? ⟨W.heap.size + 1, 1, none⟩ = some (.int .i64 b1) := by simpa using (HX8.out).b.cell 1
    have yb2 : w8.cell? ⟨W.heap.size + 1, 2, none⟩ = some (.int .i64 b2) := by simpa using (HX8.out).b.cell 2
    have yb3 : w8.cell? ⟨W.heap.size + 1, 3, none⟩ = some (.int .i64 b3) := by simpa using (HX8.out).b.cell 3
    have yc0 : w8.cell? ⟨W.heap.size + 1 + 1, 0, none⟩ = some (.int .i64 c0) := by simpa using (HX8.out).c.cell 0
    have yc1 : w8.cell? ⟨W.heap.size + 1 + 1, 1, none⟩ = some (.int .i64 c1) := by simpa using (HX8.out).c.cell 1
    have yc2 : w8.cell? ⟨W.heap.size + 1 + 1, 2, none⟩ = some (.int .i64 c2) := by simpa using (HX8.out).c.cell 2
    have yc3 : w8.cell? ⟨W.heap.size + 1 + 1, 3, none⟩ = some (.int .i64 c3) := by simpa using (HX8.out).c.cell 3
    cases hbc : newB ⟨b0, b1, b2, b3⟩ ⟨c0, c1, c2, c3⟩ with
    | true =>
      have hac := HTr2.out hbc
      have HN4 : Hid (∀ w, Calls Try.prog 33 #[.agg #[.int .i64 b0, .int .i64 b1, .int .i64 b2, .int .i64 b3], .agg #[.int .i64 c0, .int .i64 c1, .int .i64 c2, .int .i64 c3]] w fun e w' => e = .returned (.bool true) ∧ Below w.heap.size w w') := fun w => by
        have := newer_any b0 b1 b2 b3 c0 c1 c2 c3 w; rw [hbc] at this; exact this
      have HN5 : Hid (∀ w, Calls Try.prog 33 #[.agg #[.int .i64 a0, .int .i64 a1, .int .i64 a2, .int .i64 a3], .agg #[.int .i64 c0, .int .i64 c1, .int .i64 c2, .int .i64 c3]] w fun e w' => e = .returned (.bool true) ∧ Below w.heap.size w w') := fun w => by
        have := newer_any a0 a1 a2 a3 c0 c1 c2 c3 w; rw [hac] at this; exact this
      clear hbc hac HTr2
      go_wp2_with fail
      refine (HN4.out _).mono ?_
      rintro e w9 ⟨rfl, hb9⟩
      have HB9 := Lib.hid (HB8.out.trans (hb9.mono HB8.out.size))
      have HX9 : Hid (Box3 w9 W.heap.size a0 a1 a2 a3 b0 b1 b2 b3 c0 c1 c2 c3) := ⟨HX8.out.a.later hb9, HX8.out.b.later hb9, HX8.out.c.later hb9⟩
      clear hb9 ya0 ya1 ya2 ya3 yb0 yb1 yb2 yb3 yc0 yc1 yc2 yc3
      have ya0 : w9.cell? ⟨W.heap.size, 0, none⟩ = some (.int .i64 a0) := by simpa using (HX9.out).a.cell 0
      have ya1 : w9.cell? ⟨W.heap.size, 1, none⟩ = some (.int .i64 a1) := by simpa using (HX9.out).a.cell 1
      have ya2 : w9.cell? ⟨W.heap.size, 2, none⟩ = some (.int .i64 a2) := by simpa using (HX9.out).a.cell 2
      have ya3 : w9.cell? ⟨W.heap.size, 3, none⟩ = some (.int .i64 a3) := by simpa using (HX9.out).a.cell 3
      have yb0 : w9.cell? ⟨W.heap.size + 1, 0, none⟩ = some (.int .i64 b0) := by simpa using (HX9.out).b.cell 0
      have yb1 : w9.cell? ⟨W.heap.size + 1, 1, none⟩ = some (.int .i64 b1) := by simpa using (HX9.out).b.cell 1
      have yb2 : w9.cell? ⟨W.heap.size + 1, 2, none⟩ = some (.int .i64 b2) := by simpa using (HX9.out).b.cell 2
      have yb3 : w9.cell? ⟨W.heap.size + 1, 3, none⟩ = some (.int .i64 b3) := by simpa using (HX9.out).b.cell 3
      have yc0 : w9.cell? ⟨W.heap.size + 1 + 1, 0, none⟩ = some (.int .i64 c0) := by simpa using (HX9.out).c.cell 0
      have yc1 : w9.cell? ⟨W.heap.size + 1 + 1, 1, none⟩ = some (.int .i64 c1) := by simpa using (HX9.out).c.cell 1
      have yc2 : w9.cell? ⟨W.heap.size + 1 + 1, 2, none⟩ = some (.int .i64 c2) := by simpa using (HX9.out).c.cell 2
      have yc3 : w9.cell? ⟨W.heap.size + 1 + 1, 3, none⟩ = some (.int .i64 c3) := by simpa using (HX9.out).c.cell 3
      go_wp2_with fail
      refine (HN5.out _).mono ?_
      rintro e w10 ⟨rfl, hb10⟩
      have HB10 := Lib.hid (HB9.out.trans (hb10.mono HB9.out.size))
      clear hb10
      go_wp2
      go_ret
      exact ⟨rfl, HB10.out⟩
    | false =>
      have HN4 : Hid (∀ w, Calls Try.prog 33 #[.agg #[.int .i64 b0, .int .i64 b1, .int .i64 b2, .int .i64 b3], .agg #[.int .i64 c0, .int .i64 c1, .int .i64 c2, .int .i64 c3]] w fun e w' => e = .returned (.bool false) ∧ Below w.heap.size w w') := fun w => by
        have := newer_any b0 b1 b2 b3 c0 c1 c2 c3 w; rw [hbc] at this; exact this
      clear hbc HTr2
      go_wp2_with fail
      refine (HN4.out _).mono ?_
      rintro e w9 ⟨rfl, hb9⟩
      have HB9 := Lib.hid (HB8.out.trans (hb9.mono HB8.out.size))
      clear hb9
      go_wp2
      go_ret
      exact ⟨rfl, HB9.out⟩
  | false =>
    have HN1 : Hid (∀ w, Calls Try.prog 33 #[.agg #[.int .i64 a0, .int .i64 a1, .int .i64 a2, .int .i64 a3], .agg #[.int .i64 b0, .int .i64 b1, .int .i64 b2, .int .i64 b3]] w fun e w' => e = .returned (.bool false) ∧ Below w.heap.size w w') := fun w => by
      have := newer_any a0 a1 a2 a3 b0 b1 b2 b3 w; rw [hab] at this; exact this
    have HN3 : Hid (∀ w, Calls Try.prog 33 #[.agg #[.int .i64 a0, .int .i64 a1, .int .i64 a2, .int .i64 a3], .agg #[.int .i64 a0, .int .i64 a1, .int .i64 a2, .int .i64 a3]] w fun e w' => e = .returned (.bool false) ∧ Below w.heap.size w w') := fun w => by
      have := newer_any a0 a1 a2 a3 a0 a1 a2 a3 w; rw [hself] at this; exact this
    have HR1 : Hid (∀ w, Calls Try.prog 34 #[.agg #[.int .i64 a0, .int .i64 a1, .int .i64 a2, .int .i64 a3], .agg #[.int .i64 b0, .int .i64 b1, .int .i64 b2, .int .i64 b3]] w fun e w' => e = .returned (.bool false) ∧ Below w.heap.size w w') := fun w => by
      have := refNewer_any a0 a1 a2 a3 b0 b1 b2 b3 w; rw [hab] at this; exact this
    clear hself HAs HTr hab
    refine wp_region_kept (by kernel_rfl) (by kernel_rfl) ?_
    repeat (go_big_quiet_step (first | (go_at_call 33; first | (with_reducible exact kept_call _ (HN1.out _)) | (with_reducible exact kept_call _ (HN3.out _))) | (go_at_call 34; with_reducible exact kept_call _ (HR1.out _)) | (go_at_call 14; with_reducible exact kept_call _ (HRf.out _ _ _ _ _))))
    refine wpQuiet_nil ?_
    rintro W7 ⟨wx, rfl⟩
    obtain ⟨w7, hw7⟩ : ∃ w7, wx.at_ = w7 := ⟨_, rfl⟩
    have HX7 : Hid (Box3 w7 W.heap.size a0 a1 a2 a3 b0 b1 b2 b3 c0 c1 c2 c3) := by
      show Box3 w7 W.heap.size a0 a1 a2 a3 b0 b1 b2 b3 c0 c1 c2 c3
      rw [← hw7]; exact HBx1.out wx
    have HB7 : Hid (Below W.heap.size W w7) := by
      show Below W.heap.size W w7
      rw [← hw7]; exact HB1.out.trans (wx.below.mono HB1.out.size)
    rw [hw7]
    clear hw7 HBx1 HB1 za0 za1 za2 za3 zb0 zb1 zb2 zb3
    have ya0 : w7.cell? ⟨W.heap.size, 0, none⟩ = some (.int .i64 a0) := by simpa using (HX7.out).a.cell 0
    have ya1 : w7.cell? ⟨W.heap.size, 1, none⟩ = some (.int .i64 a1) := by simpa using (HX7.out).a.cell 1
    have ya2 : w7.cell? ⟨W.heap.size, 2, none⟩ = some (.int .i64 a2) := by simpa using (HX7.out).a.cell 2
    have ya3 : w7.cell? ⟨W.heap.size, 3, none⟩ = some (.int .i64 a3) := by simpa using (HX7.out).a.cell 3
    have yb0 : w7.cell? ⟨W.heap.size + 1, 0, none⟩ = some (.int .i64 b0) := by simpa using (HX7.out).b.cell 0
    have yb1 : w7.cell? ⟨W.heap.size + 1, 1, none⟩ = some (.int .i64 b1) := by simpa using (HX7.out).b.cell 1
    have yb2 : w7.cell? ⟨W.heap.size + 1, 2, none⟩ = some (.int .i64 b2) := by simpa using (HX7.out).b.cell 2
    have yb3 : w7.cell? ⟨W.heap.size + 1, 3, none⟩ = some (.int .i64 b3) := by simpa using (HX7.out).b.cell 3
    have yc0 : w7.cell? ⟨W.heap.size + 1 + 1, 0, none⟩ = some (.int .i64 c0) := by simpa using (HX7.out).c.cell 0
    have yc1 : w7.cell? ⟨W.heap.size + 1 + 1, 1, none⟩ = some (.int .i64 c1) := by simpa using (HX7.out).c.cell 1
    have yc2 : w7.cell? ⟨W.heap.size + 1 + 1, 2, none⟩ = some (.int .i64 c2) := by simpa using (HX7.out).c.cell 2
    have yc3 : w7.cell? ⟨W.heap.size + 1 + 1, 3, none⟩ = some (.int .i64 c3) := by simpa using (HX7.out).c.cell 3
    go_wp2_with fail
    refine (HN1.out _).mono ?_
    rintro e w8 ⟨rfl, hb8⟩
    have HB8 := Lib.hid (HB7.out.trans (hb8.mono HB7.out.size))
    have HX8 : Hid (Box3 w8 W.heap.size a0 a1 a2 a3 b0 b1 b2 b3 c0 c1 c2 c3) := ⟨HX7.out.a.later hb8, HX7.out.b.later hb8, HX7.out.c.later hb8⟩
    clear hb8 HX7 HB7 ya0 ya1 ya2 ya3 yb0 yb1 yb2 yb3 yc0 yc1 yc2 yc3
    have ya0 : w8.cell? ⟨W.heap.size, 0, none⟩ = some (.int .i64 a0) := by simpa using (HX8.out).a.cell 0
    have ya1 : w8.cell? ⟨W.heap.size, 1, none⟩ = some (.int .i64 a1) := by simpa using (HX8.out).a.cell 1
    have ya2 : w8.cell? ⟨W.heap.size, 2, none⟩ = some (.int .i64 a2) := by simpa using (HX8.out).a.cell 2
    have ya3 : w8.cell? ⟨W.heap.size, 3, none⟩ = some (.int .i64 a3) := by simpa using (HX8.out).a.cell 3
    have yb0 : w8.cell? ⟨W.heap.size + 1, 0, none⟩ = some (.int .i64 b0) := by simpa using (HX8.out).b.cell 0
    have yb1 : w8.cell? ⟨W.heap.size + 1, 1, none⟩ = some (.int .i64 b1) := by simpa using (HX8.out).b.cell 1
    have yb2 : w8.cell? ⟨W.heap.size + 1, 2, none⟩ = some (.int .i64 b2) := by simpa using (HX8.out).b.cell 2
    have yb3 : w8.cell? ⟨W.heap.size + 1, 3, none⟩ = some (.int .i64 b3) := by simpa using (HX8.out).b.cell 3
    have yc0 : w8.cell? ⟨W.heap.size + 1 + 1, 0, none⟩ = some (.int .i64 c0) := by simpa using (HX8.out).c.cell 0
    have yc1 : w8.cell? ⟨W.heap.size + 1 + 1, 1, none⟩ = some (.int .i64 c1) := by simpa using (HX8.out).c.cell 1
    have yc2 : w8.cell? ⟨W.heap.size + 1 + 1, 2, none⟩ = some (.int .i64 c2) := by simpa using (HX8.out).c.cell 2
    have yc3 : w8.cell? ⟨W.heap.size + 1 + 1, 3, none⟩ = some (.int .i64 c3) := by simpa using (HX8.out).c.cell 3
    go_wp2
    go_ret
    exact ⟨rfl, HB8.out⟩
end Go.Proofs.Ytmkhliabmodbdaa
