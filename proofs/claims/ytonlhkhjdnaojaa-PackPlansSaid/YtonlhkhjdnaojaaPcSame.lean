/-
  Pack: the document's Same, of two that are.
-/
import Derived.Test.YtonlhkhjdnaojaaPcAwake
namespace Go.Proofs.Ytonlhkhjdnaojaa
open Go.RowKit

abbrev PT := 28
structure SmR (w : World) (fa fb : Option Addr) (l : List Fi) (fn fc fd : Nat) (ia ib : Option Addr) (inn ic id : Nat) (wr : World) : Prop where
  a : Fis wr fa l
  b : Fis wr fb l
  x : Blo wr w.heap.size PT #[.int .i64 0, .int .i64 0, .int .i64 0, .int .i64 0, .int .i64 0, .slice fa fn fc, .slice ia inn ic]
  y : Blo wr (w.heap.size + 1) PT #[.int .i64 0, .int .i64 0, .int .i64 0, .int .i64 0, .int .i64 0, .slice fb fn fd, .slice ib inn id]
  below : Below w.heap.size w wr
theorem SmR.later {w w' wr : World} {fa fb : Option Addr} {l : List Fi} {fn fc fd : Nat} {ia ib : Option Addr} {inn ic id : Nat} (h : SmR w fa fb l fn fc fd ia ib inn ic id wr) (hb : Below wr.heap.size wr w') : SmR w fa fb l fn fc fd ia ib inn ic id w' :=
  ⟨h.a.later hb, h.b.later hb, h.x.later hb, h.y.later hb, h.below.trans (hb.mono h.below.size)⟩
set_option maxRecDepth 100000 in
set_option maxHeartbeats 8000000 in
theorem same_yes {w : World} {l : List Fi} {is : List Int} (fa fb : Option Addr) (fn fc fd : Nat) (ia ib : Option Addr) (inn ic id : Nat) (hA : Fis w fa l) (hB : Fis w fb l) (hn : fn = l.length) (hfn : fn ≤ 1000000) (hfl : ∀ x ∈ l, x.lb.length ≤ 1000000)
    (hI : Ints w ia is) (hJ : Ints w ib is) (hin : inn = is.length) (hi9 : inn ≤ 1000000) :
    Calls Try.prog 13 #[part 0 0 0 0 0 fa fn fc ia inn ic, part 0 0 0 0 0 fb fn fd ib inn id] w fun e w' => e = .returned (.bool true) ∧ Below w.heap.size w w' := by
  have hb1 := (sup_pc w (.cells #[.int .i64 0, .int .i64 0, .int .i64 0, .int .i64 0, .int .i64 0, .slice fa fn fc, .slice ia inn ic] PT)).trans ((sup_pc _ (.cells #[.int .i64 0, .int .i64 0, .int .i64 0, .int .i64 0, .int .i64 0, .slice fb fn fd, .slice ib inn id] PT)).mono (sup_pc w _).size)
  have HR := Lib.hid (show SmR w fa fb l fn fc fd ia ib inn ic id _ from ⟨hA.later hb1, hB.later hb1, (blo_laid w PT #[.int .i64 0, .int .i64 0, .int .i64 0, .int .i64 0, .int .i64 0, .slice fa fn fc, .slice ia inn ic]).alloc _, by
    have := blo_laid (w.alloc (.cells #[.int .i64 0, .int .i64 0, .int .i64 0, .int .i64 0, .int .i64 0, .slice fa fn fc, .slice ia inn ic] PT)) PT #[.int .i64 0, .int .i64 0, .int .i64 0, .int .i64 0, .int .i64 0, .slice fb fn fd, .slice ib inn id]
    rw [World.size_alloc] at this
    exact this, hb1⟩)
  have HIn := Lib.hid (fun W (hW : Below w.heap.size w W) => ints_any is is ia ib inn inn ic id W hin hin (by omega) (hI.below hW) (hJ.below hW))
  have HN := Lib.hid hn
  have HL := Lib.hid hfl
  have hb0 : ((fn : Int) != (fn : Int)) = false := by simp
  clear hb1 hA hB hn hfl hI hJ hin
  go_enter Try.func13, Try.ntmps13
  go_upto_region 1 with (fail)
  generalize ((w.alloc (.cells #[.int .i64 0, .int .i64 0, .int .i64 0, .int .i64 0, .int .i64 0, .slice fa fn fc, .slice ia inn ic] PT)).alloc (.cells #[.int .i64 0, .int .i64 0, .int .i64 0, .int .i64 0, .int .i64 0, .slice fb fn fd, .slice ib inn id] PT)) = w1 at *
  have c0 := HR.out.x.cell 0
  have c1 := HR.out.x.cell 1
  have c2 := HR.out.x.cell 2
  have c3 := HR.out.x.cell 3
  have c4 := HR.out.x.cell 4
  have c5 := HR.out.x.cell 5
  have c6 := HR.out.x.cell 6
  have d0 := HR.out.y.cell 0
  have d1 := HR.out.y.cell 1
  have d2 := HR.out.y.cell 2
  have d3 := HR.out.y.cell 3
  have d4 := HR.out.y.cell 4
  have d5 := HR.out.y.cell 5
  have d6 := HR.out.y.cell 6
  simp at c0 c1 c2 c3 c4 c5 c6 d0 d1 d2 d3 d4 d5 d6
  have HC := Lib.hid (HIn.out w1 HR.out.below)
  go_wp2_with fail
  refine HC.out.mono ?_
  rintro e w2 ⟨rfl, hb⟩
  have HR2 := Lib.hid (HR.out.later hb)
  clear hb HR HC c0 c1 c2 c3 c4 c5 c6 d0 d1 d2 d3 d4 d5 d6
  have c5 := HR2.out.x.cell 5
  simp at c5
  go_wp2_with fail
  clear c5
  go_loopw [59] (fun t wr => ∃ k : Nat, k ≤ fn ∧ t = .int .i64 k ∧ SmR w fa fb l fn fc fd ia ib inn ic id wr) (fun t _ => fn - (intOf t).toNat)
  case atStart => exact ⟨0, Nat.zero_le _, rfl, HR2.out⟩
  case round =>
    clear HR2
    obtain ⟨k, hk, rfl, hR⟩ := hrel
    have HR := Lib.hid hR
    clear hR
    by_cases hlt : k < fn
    · have hkl : k < l.length := by rw [← HN.out]; exact hlt
      obtain ⟨b, o, c, cp, rfl, p1, p2, p3, p4⟩ := HR.out.a.at hkl
      obtain ⟨b', o', c', cp', rfl, q1, q2, q3, q4⟩ := HR.out.b.at hkl
      have hmem : l.getD k fi0 ∈ l := by rw [List.getD_eq_getElem?_getD, List.getElem?_eq_getElem hkl]; exact List.getElem_mem _
      have hl9 := HL.out _ hmem
      obtain ⟨x, hx⟩ : ∃ x, l.getD k fi0 = x := ⟨_, rfl⟩
      rw [hx] at p1 p2 p3 p4 q1 q2 q3 q4 hl9
      obtain ⟨xi, xv, xl⟩ := x
      simp only at p1 p2 p3 p4 q1 q2 q3 q4 hl9
      have HCi := Lib.hid (fun W (hW : Below wr.heap.size wr W) => ints_any xl xl c c' xl.length xl.length cp cp' W rfl rfl (by omega) (p4.below hW) (q4.below hW))
      have e1 : (xi != xi) = false := by simp
      have e2 : (xv != xv) = false := by simp
      have k0 : (0 : Int) ≤ (k : Int) := by omega
      have k1 : (k : Int) < (fn : Int) := by omega
      have a1 : ∀ y : Kept wr, y.at_.cell? ⟨b, o + k * 3, none⟩ = some (.int .i64 xi) := fun y => cell_later y.below p1
      have a2 : ∀ y : Kept wr, y.at_.cell? ⟨b, o + k * 3 + 1, none⟩ = some (.int .i64 xv) := fun y => cell_later y.below p2
      have a3 : ∀ y : Kept wr, y.at_.cell? ⟨b, o + k * 3 + 2, none⟩ = some (.slice c xl.length cp) := fun y => cell_later y.below p3
      have b1 : ∀ y : Kept wr, y.at_.cell? ⟨b', o' + k * 3, none⟩ = some (.int .i64 xi) := fun y => cell_later y.below q1
      have b2 : ∀ y : Kept wr, y.at_.cell? ⟨b', o' + k * 3 + 1, none⟩ = some (.int .i64 xv) := fun y => cell_later y.below q2
      have b3 : ∀ y : Kept wr, y.at_.cell? ⟨b', o' + k * 3 + 2, none⟩ = some (.slice c' xl.length cp') := fun y => cell_later y.below q3
      have a5 : ∀ y : Kept wr, y.at_.cell? ⟨w.heap.size, 5, none⟩ = some (.slice (some ⟨b, o, none⟩) fn fc) := fun y => (HR.out.x.later y.below).cell 5
      have b5 : ∀ y : Kept wr, y.at_.cell? ⟨w.heap.size + 1, 5, none⟩ = some (.slice (some ⟨b', o', none⟩) fn fd) := fun y => (HR.out.y.later y.below).cell 5
      have HCy : ∀ y : Kept wr, Calls Try.prog 22 #[.slice c xl.length cp, .slice c' xl.length cp'] y.at_ fun e w' => e = .returned (.bool true) ∧ Below y.at_.heap.size y.at_ w' := fun y => by
        have := HCi.out y.at_ y.below
        rwa [decide_eq_true (rfl : xl = xl)] at this
      have HCz := Lib.hid HCy
      clear hkl hmem hl9 hx p1 p2 p3 p4 q1 q2 q3 q4 HCi HCy
      go_wp2_with fail
      refine wp_region_kept (by kernel_rfl) (by kernel_rfl) ?_
      repeat (go_big_quiet_step ((go_at_call 22; with_reducible exact kept_call _ (HCz.out _))))
      refine wpQuiet_nil ?_
      rintro W ⟨wx, rfl⟩
      have HR5 := Lib.hid (HR.out.later wx.below)
      clear HR HCz a1 a2 a3 b1 b2 b3 a5 b5
      go_wp2_with fail
      go_roundw
      case rel => exact ⟨k + 1, by omega, by simp, HR5.out⟩
      case measure => simp [intOf]; omega
    · have k1 : ¬ (k : Int) < (fn : Int) := by omega
      have HB := Lib.hid HR.out.below
      clear HR
      go_wp2
      go_ret
      exact ⟨rfl, HB.out⟩
end Go.Proofs.Ytonlhkhjdnaojaa
