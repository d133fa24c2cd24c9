/-
  SwSame · SgSam · SgFew: these texts in one.
-/
import Derived.Test.YtlkgaefabahkoaaDoorPk06
import Derived.Test.YtlkgaefabahkoaaDoorPk09
import Derived.Test.YtlkgaefabahkoaaDoorPk01
import Derived.BigQuiet
import Derived.Deep.DeepCutAuto
/-
  marlref06.Same: of any two summaries.
-/
namespace Go.Proofs.YtlkgaefabahkoaaDoor
open Go.RowKit

structure SmR (w : World) (x y : Array Value) (fa fb : Option Addr) (l l' : List Fi) (wr : World) : Prop where
  a : Fis wr fa l
  b : Fis wr fb l'
  x : Blo wr w.heap.size 36 x
  y : Blo wr (w.heap.size + 1) 36 y
  below : Below w.heap.size w wr
theorem SmR.later {w w' wr : World} {x y : Array Value} {fa fb : Option Addr} {l l' : List Fi} (h : SmR w x y fa fb l l' wr) (hb : Below wr.heap.size wr w') : SmR w x y fa fb l l' w' :=
  ⟨h.a.later hb, h.b.later hb, h.x.later hb, h.y.later hb, h.below.trans (hb.mono h.below.size)⟩
def SameO (m m' : Sm) (w : World) (e : Ending) (w' : World) : Prop := (∃ b : Bool, e = .returned (.bool b) ∧ (b = true ↔ m = m')) ∧ Below w.heap.size w w'
section
variable {w : World} (m m' : Sm) (fa : Option Addr) (fn fc : Nat) (ia : Option Addr) (inn ic : Nat) (fb : Option Addr) (fn' fd : Nat) (ib : Option Addr) (inn' id : Nat)
theorem smr_laid (hA : Fis w fa m.fs) (hB : Fis w fb m'.fs) : SmR w (pcs m fa fn fc ia inn ic) (pcs m' fb fn' fd ib inn' id) fa fb m.fs m'.fs ((w.alloc (.cells (pcs m fa fn fc ia inn ic) 36)).alloc (.cells (pcs m' fb fn' fd ib inn' id) 36)) := by
  have hb1 := (sup_pc w (.cells (pcs m fa fn fc ia inn ic) 36)).trans ((sup_pc _ (.cells (pcs m' fb fn' fd ib inn' id) 36)).mono (sup_pc w _).size)
  refine ⟨hA.later hb1, hB.later hb1, (blo_laid w 36 (pcs m fa fn fc ia inn ic)).alloc _, ?_, hb1⟩
  have := blo_laid (w.alloc (.cells (pcs m fa fn fc ia inn ic) 36)) 36 (pcs m' fb fn' fd ib inn' id)
  rw [World.size_alloc] at this
  exact this
set_option maxRecDepth 100000 in
set_option maxHeartbeats 8000000 in
theorem same_head (hA : Fis w fa m.fs) (hB : Fis w fb m'.fs) (hn : fn = m.fs.length) (hn' : fn' = m'.fs.length)
    (hne : ¬ (m.e = m'.e ∧ m.c = m'.c ∧ m.i = m'.i ∧ m.p = m'.p ∧ m.x = m'.x ∧ fn = fn')) :
    Calls Tryd.prog 35 #[part m.e m.c m.i m.p m.x fa fn fc ia inn ic, part m'.e m'.c m'.i m'.p m'.x fb fn' fd ib inn' id] w (SameO m m' w) := by
  have hR := smr_laid m m' fa fn fc ia inn ic fb fn' fd ib inn' id hA hB
  have HNe : Hid (m ≠ m') := fun e => hne (by subst e; exact ⟨rfl, rfl, rfl, rfl, rfl, by rw [hn, hn']⟩)
  have HR := Lib.hid hR
  have HB := Lib.hid hR.below
  have c0 := hR.x.cell 0
  have c1 := hR.x.cell 1
  have c2 := hR.x.cell 2
  have c3 := hR.x.cell 3
  have c4 := hR.x.cell 4
  have c5 := hR.x.cell 5
  have c6 := hR.x.cell 6
  simp [pcs] at c0 c1 c2 c3 c4 c5 c6
  have d0 := hR.y.cell 0
  have d1 := hR.y.cell 1
  have d2 := hR.y.cell 2
  have d3 := hR.y.cell 3
  have d4 := hR.y.cell 4
  have d5 := hR.y.cell 5
  have d6 := hR.y.cell 6
  simp [pcs] at d0 d1 d2 d3 d4 d5 d6
  clear hR hA hB hn hn'
  by_cases h0 : m.e = m'.e
  · have q0 : (m.e != m'.e) = false := by simp [h0]
    have H0 := Lib.hid h0
    clear h0
    by_cases h1 : m.c = m'.c
    · have q1 : (m.c != m'.c) = false := by simp [h1]
      have H1 := Lib.hid h1
      clear h1
      by_cases h2 : m.i = m'.i
      · have q2 : (m.i != m'.i) = false := by simp [h2]
        have H2 := Lib.hid h2
        clear h2
        by_cases h3 : m.p = m'.p
        · have q3 : (m.p != m'.p) = false := by simp [h3]
          have H3 := Lib.hid h3
          clear h3
          by_cases h4 : m.x = m'.x
          · have q4 : (m.x != m'.x) = false := by simp [h4]
            have H4 := Lib.hid h4
            clear h4
            have hl : fn ≠ fn' := fun e => hne ⟨H0.out, H1.out, H2.out, H3.out, H4.out, e⟩
            have q5 : ((fn : Int) != (fn' : Int)) = true := by simp; omega
            clear hne
            go_enter Tryd.func35, Tryd.ntmps35
            go_wp2_with fail
            go_ret
            exact ⟨⟨false, rfl, fun h => (by cases h), fun h => absurd h HNe.out⟩, HB.out⟩
          · have q4 : (m.x != m'.x) = true := by simp [h4]
            clear hne
            go_enter Tryd.func35, Tryd.ntmps35
            go_wp2_with fail
            go_ret
            exact ⟨⟨false, rfl, fun h => (by cases h), fun h => absurd h HNe.out⟩, HB.out⟩
        · have q3 : (m.p != m'.p) = true := by simp [h3]
          clear hne
          go_enter Tryd.func35, Tryd.ntmps35
          go_wp2_with fail
          go_ret
          exact ⟨⟨false, rfl, fun h => (by cases h), fun h => absurd h HNe.out⟩, HB.out⟩
      · have q2 : (m.i != m'.i) = true := by simp [h2]
        clear hne
        go_enter Tryd.func35, Tryd.ntmps35
        go_wp2_with fail
        go_ret
        exact ⟨⟨false, rfl, fun h => (by cases h), fun h => absurd h HNe.out⟩, HB.out⟩
    · have q1 : (m.c != m'.c) = true := by simp [h1]
      clear hne
      go_enter Tryd.func35, Tryd.ntmps35
      go_wp2_with fail
      go_ret
      exact ⟨⟨false, rfl, fun h => (by cases h), fun h => absurd h HNe.out⟩, HB.out⟩
  · have q0 : (m.e != m'.e) = true := by simp [h0]
    clear hne
    go_enter Tryd.func35, Tryd.ntmps35
    go_wp2_with fail
    go_ret
    exact ⟨⟨false, rfl, fun h => (by cases h), fun h => absurd h HNe.out⟩, HB.out⟩
set_option maxRecDepth 100000 in
set_option maxHeartbeats 8000000 in
theorem same_any (hA : Fis w fa m.fs) (hB : Fis w fb m'.fs) (hn : fn = m.fs.length) (hn' : fn' = m'.fs.length) (hfn : fn ≤ 1000000) (hfl : ∀ x ∈ m.fs, x.lb.length ≤ 1000000)
    (hI : Ints w ia m.is) (hJ : Ints w ib m'.is) (hin : inn = m.is.length) (hin' : inn' = m'.is.length) (hi9 : inn ≤ 1000000) :
    Calls Tryd.prog 35 #[part m.e m.c m.i m.p m.x fa fn fc ia inn ic, part m'.e m'.c m'.i m'.p m'.x fb fn' fd ib inn' id] w (SameO m m' w) := by
  by_cases hne : m.e = m'.e ∧ m.c = m'.c ∧ m.i = m'.i ∧ m.p = m'.p ∧ m.x = m'.x ∧ fn = fn'
  case neg => exact same_head m m' fa fn fc ia inn ic fb fn' fd ib inn' id hA hB hn hn' hne
  obtain ⟨E, C, I, P, X, l, is⟩ := m
  obtain ⟨E', C', I', P', X', l', is'⟩ := m'
  simp only at hne hn hn' hfl hI hJ hin hin' hA hB
  obtain ⟨rfl, rfl, rfl, rfl, rfl, rfl⟩ := hne
  have hR : SmR w (pcs ⟨E, C, I, P, X, l, is⟩ fa fn fc ia inn ic) (pcs ⟨E, C, I, P, X, l', is'⟩ fb fn fd ib inn' id) fa fb l l' ((w.alloc (.cells #[.int .i64 E, .int .i64 C, .int .i64 I, .int .i64 P, .int .i64 X, .slice fa fn fc, .slice ia inn ic] 36)).alloc (.cells #[.int .i64 E, .int .i64 C, .int .i64 I, .int .i64 P, .int .i64 X, .slice fb fn fd, .slice ib inn' id] 36)) := smr_laid ⟨E, C, I, P, X, l, is⟩ ⟨E, C, I, P, X, l', is'⟩ fa fn fc ia inn ic fb fn fd ib inn' id hA hB
  have HIn := Lib.hid (fun W (hW : Below w.heap.size w W) => ints_any is is' ia ib inn inn' ic id W hin hin' (by omega) (hI.below hW) (hJ.below hW))
  have HR := Lib.hid hR
  have HN := Lib.hid hn
  have HN' := Lib.hid hn'
  have HL := Lib.hid hfl
  have q0 : (E != E) = false := by simp
  have q1 : (C != C) = false := by simp
  have q2 : (I != I) = false := by simp
  have q3 : (P != P) = false := by simp
  have q4 : (X != X) = false := by simp
  have q5 : ((fn : Int) != (fn : Int)) = false := by simp
  clear hR hA hB hn hn' hfl hI hJ hin hin'
  go_enter Tryd.func35, Tryd.ntmps35
  go_upto_region 1 with (fail)
  generalize ((w.alloc (.cells #[.int .i64 E, .int .i64 C, .int .i64 I, .int .i64 P, .int .i64 X, .slice fa fn fc, .slice ia inn ic] 36)).alloc (.cells #[.int .i64 E, .int .i64 C, .int .i64 I, .int .i64 P, .int .i64 X, .slice fb fn fd, .slice ib inn' id] 36)) = w1 at *
  have HC := Lib.hid (HIn.out w1 HR.out.below)
  have c0 := HR.out.x.cell 0
  have c1 := HR.out.x.cell 1
  have c2 := HR.out.x.cell 2
  have c3 := HR.out.x.cell 3
  have c4 := HR.out.x.cell 4
  have c5 := HR.out.x.cell 5
  have c6 := HR.out.x.cell 6
  simp [pcs] at c0 c1 c2 c3 c4 c5 c6
  have d0 := HR.out.y.cell 0
  have d1 := HR.out.y.cell 1
  have d2 := HR.out.y.cell 2
  have d3 := HR.out.y.cell 3
  have d4 := HR.out.y.cell 4
  have d5 := HR.out.y.cell 5
  have d6 := HR.out.y.cell 6
  simp [pcs] at d0 d1 d2 d3 d4 d5 d6
  go_wp2_with fail
  refine HC.out.mono ?_
  rintro e w2 ⟨rfl, hb⟩
  have HR2 := Lib.hid (HR.out.later hb)
  clear hb HR HC HIn c0 c1 c2 c3 c4 c5 c6 d0 d1 d2 d3 d4 d5 d6
  by_cases his : is = is'
  case neg =>
    rw [decide_eq_false his]
    have HNe : Hid ((⟨E, C, I, P, X, l, is⟩ : Sm) ≠ ⟨E, C, I, P, X, l', is'⟩) := fun e => his (by injection e)
    go_wp2_with fail
    go_ret
    exact ⟨⟨false, rfl, fun h => (by cases h), fun h => absurd h HNe.out⟩, HR2.out.below⟩
  subst his
  rw [decide_eq_true rfl]
  have c5 := HR2.out.x.cell 5
  simp [pcs] at c5
  go_wp2_with fail
  clear c5
  go_loopw [5, 59] (fun _ t wr => ∃ k : Nat, k ≤ fn ∧ t = .int .i64 k ∧ l.take k = l'.take k ∧ SmR w (pcs ⟨E, C, I, P, X, l, is⟩ fa fn fc ia inn ic) (pcs ⟨E, C, I, P, X, l', is⟩ fb fn fd ib inn' id) fa fb l l' wr) (fun _ t _ => fn - (intOf t).toNat)
  case atStart => exact ⟨0, Nat.zero_le _, rfl, rfl, HR2.out⟩
  case round =>
    clear HR2
    obtain ⟨k, hk, rfl, htk, hR⟩ := hrel
    have HR := Lib.hid hR
    have HTk := Lib.hid htk
    clear hR htk
    by_cases hlt : k < fn
    · have hkl : k < l.length := by rw [← HN.out]; exact hlt
      have hkl' : k < l'.length := by rw [← HN'.out]; exact hlt
      obtain ⟨b, o, c, cp, rfl, p1, p2, p3, p4⟩ := HR.out.a.at hkl
      obtain ⟨b', o', c', cp', rfl, s1, s2, s3, s4⟩ := HR.out.b.at hkl'
      have hmem : l.getD k fi0 ∈ l := by rw [List.getD_eq_getElem?_getD, List.getElem?_eq_getElem hkl]; exact List.getElem_mem _
      have hl9 := HL.out _ hmem
      have HNx : Hid (l.take (k + 1) = l.take k ++ [l.getD k fi0] ∧ l'.take (k + 1) = l'.take k ++ [l'.getD k fi0]) := ⟨take_snocF l fi0 k hkl, take_snocF l' fi0 k hkl'⟩
      have HNe : Hid (l.getD k fi0 ≠ l'.getD k fi0 → (⟨E, C, I, P, X, l, is⟩ : Sm) ≠ ⟨E, C, I, P, X, l', is⟩) := fun h e => h (by injection e with _ _ _ _ _ e; rw [e])
      generalize l.getD k fi0 = xx at *
      generalize l'.getD k fi0 = yy at *
      obtain ⟨xi, xv, xl⟩ := xx
      obtain ⟨yi, yv, yl⟩ := yy
      simp only at p1 p2 p3 p4 s1 s2 s3 s4 hl9
      have HCi := Lib.hid (fun W (hW : Below wr.heap.size wr W) => ints_any xl yl c c' xl.length yl.length cp cp' W rfl rfl (by omega) (p4.below hW) (s4.below hW))
      have k0 : (0 : Int) ≤ (k : Int) := by omega
      have k1 : (k : Int) < (fn : Int) := by omega
      have a1 : ∀ y : Kept wr, y.at_.cell? ⟨b, o + k * 3, none⟩ = some (.int .i64 xi) := fun y => cell_later y.below p1
      have a2 : ∀ y : Kept wr, y.at_.cell? ⟨b, o + k * 3 + 1, none⟩ = some (.int .i64 xv) := fun y => cell_later y.below p2
      have a3 : ∀ y : Kept wr, y.at_.cell? ⟨b, o + k * 3 + 2, none⟩ = some (.slice c xl.length cp) := fun y => cell_later y.below p3
      have b1 : ∀ y : Kept wr, y.at_.cell? ⟨b', o' + k * 3, none⟩ = some (.int .i64 yi) := fun y => cell_later y.below s1
      have b2 : ∀ y : Kept wr, y.at_.cell? ⟨b', o' + k * 3 + 1, none⟩ = some (.int .i64 yv) := fun y => cell_later y.below s2
      have b3 : ∀ y : Kept wr, y.at_.cell? ⟨b', o' + k * 3 + 2, none⟩ = some (.slice c' yl.length cp') := fun y => cell_later y.below s3
      have a5 : ∀ y : Kept wr, y.at_.cell? ⟨w.heap.size, 5, none⟩ = some (.slice (some ⟨b, o, none⟩) fn fc) := fun y => (HR.out.x.later y.below).cell 5
      have b5 : ∀ y : Kept wr, y.at_.cell? ⟨w.heap.size + 1, 5, none⟩ = some (.slice (some ⟨b', o', none⟩) fn fd) := fun y => (HR.out.y.later y.below).cell 5
      have HCz : Hid (∀ y : Kept wr, Calls Tryd.prog 39 #[.slice c xl.length cp, .slice c' yl.length cp'] y.at_ fun e w' => e = .returned (.bool (decide (xl = yl))) ∧ Below y.at_.heap.size y.at_ w') := fun y => HCi.out y.at_ y.below
      clear hkl hkl' hmem hl9 p1 p2 p3 p4 s1 s2 s3 s4 HCi
      by_cases hxi : xi = yi
      · subst hxi
        have e1 : (xi != xi) = false := by simp
        by_cases hxv : xv = yv
        · subst hxv
          have e2 : (xv != xv) = false := by simp
          by_cases hxl : xl = yl
          · subst hxl
            have HCz : Hid (∀ y : Kept wr, Calls Tryd.prog 39 #[.slice c xl.length cp, .slice c' xl.length cp'] y.at_ fun e w' => e = .returned (.bool true) ∧ Below y.at_.heap.size y.at_ w') := fun y => by have := HCz.out y; rwa [decide_eq_true rfl] at this
            go_wp2_with fail
            refine wp_region_kept (by kernel_rfl) (by kernel_rfl) ?_
            repeat (first | go_big_quiet_step ((go_at_call 39; with_reducible exact kept_call _ (HCz.out _))) | simp only [e1, e2])
            refine wpQuiet_nil ?_
            rintro W ⟨wx, rfl⟩
            have HR5 := Lib.hid (HR.out.later wx.below)
            clear HR HCz a1 a2 a3 b1 b2 b3 a5 b5
            go_wp2_with fail
            go_roundw
            case rel => exact ⟨k + 1, by omega, by simp, by rw [HNx.out.1, HNx.out.2, HTk.out], HR5.out⟩
            case measure => simp [intOf]; omega
          · have HCz : Hid (∀ y : Kept wr, Calls Tryd.prog 39 #[.slice c xl.length cp, .slice c' yl.length cp'] y.at_ fun e w' => e = .returned (.bool false) ∧ Below y.at_.heap.size y.at_ w') := fun y => by have := HCz.out y; rwa [decide_eq_false hxl] at this
            replace HNe : Hid ((⟨E, C, I, P, X, l, is⟩ : Sm) ≠ ⟨E, C, I, P, X, l', is⟩) := HNe.out (fun e => hxl (by injection e))
            go_wp2_with fail
            refine wp_region_kept (by kernel_rfl) (by kernel_rfl) ?_
            repeat (first | go_big_quiet_step ((go_at_call 39; with_reducible exact kept_call _ (HCz.out _))) | simp only [e1, e2])
            refine wpQuiet_nil ?_
            rintro W ⟨wx, rfl⟩
            have HR5 := Lib.hid (HR.out.later wx.below)
            clear HR HCz a1 a2 a3 b1 b2 b3 a5 b5
            go_wp2_with fail
            go_ret
            exact ⟨⟨false, rfl, fun h => (by cases h), fun h => absurd h HNe.out⟩, HR5.out.below⟩
        · have e2 : (xv != yv) = true := by simp [hxv]
          replace HNe : Hid ((⟨E, C, I, P, X, l, is⟩ : Sm) ≠ ⟨E, C, I, P, X, l', is⟩) := HNe.out (fun e => hxv (by injection e))
          go_wp2_with fail
          refine wp_region_kept (by kernel_rfl) (by kernel_rfl) ?_
          repeat (first | go_big_quiet_step ((go_at_call 39; with_reducible exact kept_call _ (HCz.out _))) | simp only [e1, e2])
          refine wpQuiet_nil ?_
          rintro W ⟨wx, rfl⟩
          have HR5 := Lib.hid (HR.out.later wx.below)
          clear HR HCz a1 a2 a3 b1 b2 b3 a5 b5
          go_wp2_with fail
          go_ret
          exact ⟨⟨false, rfl, fun h => (by cases h), fun h => absurd h HNe.out⟩, HR5.out.below⟩
      · have e1 : (xi != yi) = true := by simp [hxi]
        have e2 : True := trivial
        replace HNe : Hid ((⟨E, C, I, P, X, l, is⟩ : Sm) ≠ ⟨E, C, I, P, X, l', is⟩) := HNe.out (fun e => hxi (by injection e))
        go_wp2_with fail
        refine wp_region_kept (by kernel_rfl) (by kernel_rfl) ?_
        repeat (first | go_big_quiet_step ((go_at_call 39; with_reducible exact kept_call _ (HCz.out _))) | simp only [e1, e2])
        refine wpQuiet_nil ?_
        rintro W ⟨wx, rfl⟩
        have HR5 := Lib.hid (HR.out.later wx.below)
        clear HR HCz a1 a2 a3 b1 b2 b3 a5 b5
        go_wp2_with fail
        go_ret
        exact ⟨⟨false, rfl, fun h => (by cases h), fun h => absurd h HNe.out⟩, HR5.out.below⟩
    · have k1 : ¬ (k : Int) < (fn : Int) := by omega
      have HB := Lib.hid HR.out.below
      have HEq : Hid ((⟨E, C, I, P, X, l, is⟩ : Sm) = ⟨E, C, I, P, X, l', is⟩) := by
        have h1 := HTk.out
        rw [List.take_of_length_le (by have := HN.out; omega), List.take_of_length_le (by have := HN'.out; omega)] at h1
        show _ = _
        rw [h1]
      clear HR
      go_wp2
      go_ret
      exact ⟨⟨true, rfl, fun _ => HEq.out, fun _ => rfl⟩, HB.out⟩
end
end Go.Proofs.YtlkgaefabahkoaaDoor
/-
  Partial segments, for the laws: what was found as the document has it; two that are the same.
-/
namespace Go.Proofs.YtlkgaefabahkoaaDoor
open Go.RowKit

abbrev RFT := 43
abbrev fdr (addr : Int) (m : Sm) (fa : Option Addr) (fc : Nat) (ia : Option Addr) (ic : Nat) (v : Value) : Array Value :=
  #[.int .i64 addr, .int .i64 m.e, .int .i64 m.c, .int .i64 m.i, .int .i64 m.p, .int .i64 m.x, .slice fa m.fs.length fc, .slice ia m.is.length ic, v]
structure RefR (w : World) (addr : Int) (m : Sm) (fa : Option Addr) (fc : Nat) (ia : Option Addr) (ic : Nat) (ba : Option Addr) (n bc : Nat) (F : Nat → List Nat) (k : Nat) (v : Value) (wr : World) : Prop where
  row : wr.ownsRow w.heap.size STR 1 v k (cellsS F k)
  box : Blo wr w.heap.size 38 (fdc addr m fa fc ia ic ba n bc)
  res : Blo wr (w.heap.size + 1) RFT zfd
  cur : Blo wr (w.heap.size + 2) RFT (fdr addr m fa fc ia ic v)
  below : Below w.heap.size w wr
def RefO (w : World) (addr : Int) (m : Sm) (fa : Option Addr) (fc : Nat) (ia : Option Addr) (ic n : Nat) (F : Nat → List Nat) (e : Ending) (w' : World) : Prop :=
  ∃ ta tc, e = .returned (.agg (fdr addr m fa fc ia ic (.slice ta n tc))) ∧ Rds w' ta (cellsS F n) ∧ Below w.heap.size w w'
section
variable {C base n : Nat} {w w' W : World} {L : Dl} {d : Dm}
theorem refR_start (addr : Int) (m : Sm) (fa : Option Addr) (fc : Nat) (ia : Option Addr) (ic : Nat) (ba : Option Addr) (bc : Nat) (F : Nat → List Nat) :
    RefR w addr m fa fc ia ic ba n bc F 0 (.slice none 0 0) (((w.alloc (.cells (fdc addr m fa fc ia ic ba n bc) 38)).alloc (.cells zfd RFT)).alloc (.cells (fdr addr m fa fc ia ic (.slice none 0 0)) RFT)) := by
  have h1 := blo_laid (w.alloc (.cells (fdc addr m fa fc ia ic ba n bc) 38)) RFT zfd
  have h2 := blo_laid ((w.alloc (.cells (fdc addr m fa fc ia ic ba n bc) 38)).alloc (.cells zfd RFT)) RFT (fdr addr m fa fc ia ic (.slice none 0 0))
  rw [World.size_alloc] at h1
  rw [World.size_alloc, World.size_alloc] at h2
  exact ⟨⟨by simp [cellsS], .inl ⟨rfl, rfl⟩⟩, ((blo_laid w _ _).alloc _).alloc _, h1.alloc _, h2, (((Below.refl _ _).alloc (Nat.le_refl _) _).alloc (by simp) _).alloc (by simp <;> omega) _⟩
theorem RefR.next {addr : Int} {m : Sm} {fa : Option Addr} {fc : Nat} {ia : Option Addr} {ic : Nat} {ba : Option Addr} {bc : Nat} {F : Nat → List Nat} {k : Nat} {v v' : Value} {wr wq w6 : World} (h : RefR w addr m fa fc ia ic ba n bc F k v wr) (hb : Below wr.heap.size wr wq)
    (hg : wq.grownBy w6 v.ownBlock) (ho : w6.ownsRow w.heap.size STR 1 v' (k + 1) (cellsS F (k + 1))) : RefR w addr m fa fc ia ic ba n bc F (k + 1) v' (w6.setCell ⟨w.heap.size + 2, 8, none⟩ v') := by
  have hrow := own_later h.row hb
  have hcur := (h.cur.later hb).grown hg ((h.cur.later hb).row_apart hrow (by decide))
  have hvb := own_type ho hcur (by decide)
  refine ⟨own_far ho (fun e => hvb e.symm) v', (((h.box.later hb).grown hg ((h.box.later hb).row_apart hrow (by decide))).far (by simp) _), (((h.res.later hb).grown hg ((h.res.later hb).row_apart hrow (by decide))).far (by simp) _), hcur.put 8 v', ?_⟩
  exact (((h.below.trans (hb.mono h.below.size)).grown hg (Nat.le_trans h.below.size hb.size) (fun b e => (own_lt hrow e).1))).setCell (by simp <;> omega) _
set_option maxRecDepth 100000 in
set_option maxHeartbeats 4000000 in
theorem ref_any (addr : Int) (m : Sm) (fa : Option Addr) (fc : Nat) (ia : Option Addr) (ic : Nat) {ba : Option Addr} {bc : Nat} {G : Nat → Nat} {F : Nat → List Nat} (hR : RowB w base (.slice ba n bc) n G F) (hn : n ≤ 100000) :
    Calls Tryd.prog 15 #[.agg (fdc addr m fa fc ia ic ba n bc)] w (RefO w addr m fa fc ia ic n F) := by
  have HR := Lib.hid hR
  have HS0 := Lib.hid (refR_start (w := w) (n := n) addr m fa fc ia ic ba bc F)
  clear hR
  go_enter Tryd.func15, Tryd.ntmps15
  go_wp2_with fail
  go_loopw [14] (fun t wr => ∃ k : Nat, k ≤ n ∧ t = .int .i64 k ∧ ∃ v, RefR w addr m fa fc ia ic ba n bc F k v wr) (fun t _ => n - (intOf t).toNat)
  case atStart => exact ⟨0, Nat.zero_le _, rfl, _, HS0.out⟩
  case round =>
    clear HS0
    obtain ⟨k, hk, rfl, v, hRr⟩ := hrel
    obtain ⟨va, vc, rfl, _⟩ := own_slice hRr.row
    have HRr := Lib.hid hRr
    clear hRr
    by_cases hlt : k < n
    · have HR2 := Lib.hid (HR.out.later HRr.out.below)
      obtain ⟨b, o, rfl, hc⟩ := (HR2.out.lists (by omega)).at_ (by omega)
      have hck := hc k hlt
      rw [lsF_get F hlt, (HR2.out.each k hlt).2.1] at hck
      have HBk := Lib.hid (HR2.out.each k hlt)
      have hcv0 : (convert 49 9 (.slice (some ⟨G k, 0, none⟩) 64 64)).run Tryd.prog wr = .ok (.string (strOf (F k))) wr := run_str wr 49 9 5 Tryd.underlying49 Tryd.underlying5 Tryd.underlying9 (F k) _ 64 64 HBk.out.2.1.symm ⟨HBk.out.2.2, by rw [HBk.out.2.1]; decide, fun _ => ⟨G k, 0, rfl, fun i hi => by rw [Nat.zero_add, HBk.out.1.cell, List.getElem?_toArray, cellsB_get _ _ hi]⟩⟩
      have hz2 : w.heap.size + 2 < wr.heap.size := HRr.out.cur.lt
      have k1 : (k : Int) < (n : Int) := by omega
      have t8 := HRr.out.cur.cell 8
      have q8 := HRr.out.cur.frozen 8
      simp at t8
      clear hc
      go_wp2_with (at_builtin; refine wp_append_rowO rfl (.tmp 19) (.tmp 22) 26 rfl w.heap.size STR _ 1 16 Tryd.underlying26 info_str (by kernel_rfl) (by decide) (by decide) (.slice va k vc) k _ rfl (own_later HRr.out.row (sup_pc wr _)) (some ⟨wr.heap.size, 0, none⟩) 1 1 [.string (strOf (F k))] rfl rfl (laid_srcO wr STR _ _ rfl) str_wf (fun e => by cases e) (by omega) (by simp; omega) ?_; intro a6 c6 w6 hown hgrow hat; have hown2 : w6.ownsRow w.heap.size STR 1 (.slice a6 (k + 1) c6) (k + 1) (cellsS F (k + 1)) := (by rw [cellsS_succ]; exact hown); have hcur := (((HRr.out.cur.later (sup_pc wr (.cells #[.string (strOf (F k))] STR))).grown hgrow ((HRr.out.cur.later (sup_pc wr (.cells #[.string (strOf (F k))] STR))).row_apart (own_later HRr.out.row (sup_pc wr (.cells #[.string (strOf (F k))] STR))) (by decide)))); have HN6 := Lib.hid (HRr.out.next (sup_pc wr (.cells #[.string (strOf (F k))] STR)) hgrow hown2); have u8 := hcur.cell 8; have p8 := hcur.frozen 8; simp at u8; clear hown hgrow hat hown2 hcur)
      clear hcv0 HBk HR2 HRr t8 q8 u8 p8
      go_roundw
      case rel => exact ⟨k + 1, hlt, by simp, _, HN6.out⟩
      case measure => simp [intOf]; omega
    · obtain rfl : n = k := by omega
      have hg1 := HRr.out.cur
      have hg2 := HRr.out.res
      have HE : Hid (RefO w addr m fa fc ia ic n F (.returned (.agg (fdr addr m fa fc ia ic (.slice va n vc)))) (wr.setRow (w.heap.size + 1) (fdr addr m fa fc ia ic (.slice va n vc)))) := by
        have ho : Out (fun j => j = w.heap.size + 1) wr (wr.setRow (w.heap.size + 1) (fdr addr m fa fc ia ic (.slice va n vc))) := out_row wr (w.heap.size + 1) _ rfl
        have hne := own_type HRr.out.row HRr.out.res (by decide)
        exact ⟨va, vc, rfl, Rds.own (ho.own HRr.out.row (fun g hg e => hne (by rw [hg, e]))), below_setRow HRr.out.below (by omega) _⟩
      go_wp2_with (first | (refine wpList_load_row rfl RFT (.tmp 3) rfl (w.heap.size + 2) rfl RFT (fdr addr m fa fc ia ic (.slice va n vc)) (0, 0) _ hg1 Tryd.underlying43 rfl (by kernel_rfl) ?_) | (refine wpList_store_row rfl RFT (.tmp 2) (.tmp 26) rfl (w.heap.size + 1) (fdr addr m fa fc ia ic (.slice va n vc)) (by first | rfl | simp [go_sem]) (by first | rfl | simp [go_sem]) RFT _ hg2 (by kernel_rfl) rfl (by simp [Value.oneCell']) ?_))
      (try simp only [Exit.inBlock, Exit.then])
      exact bodyPost_ret (results_cell_row (p := 2) (ty := RFT) rfl _ _ (w.heap.size + 1) RFT (fdr addr m fa fc ia ic (.slice va n vc)) (0, 0) _ (by simp [Act.put]) (blo_row hg2 _) Tryd.underlying43 rfl (by kernel_rfl)) rfl HE.out
set_option maxRecDepth 100000 in
set_option maxHeartbeats 4000000 in
theorem same15_yes (addr : Int) (m : Sm) (fa : Option Addr) (fc : Nat) (ia : Option Addr) (ic : Nat) (fb : Option Addr) (fd : Nat) (ib : Option Addr) (id_ : Nat) (ta : Option Addr) (tc : Nat) (tb : Option Addr) (td : Nat) (F : Nat → List Nat)
    (hA : Fis w fa m.fs) (hB : Fis w fb m.fs) (hfn : m.fs.length ≤ 1000000) (hfl : ∀ x ∈ m.fs, x.lb.length ≤ 1000000) (hI : Ints w ia m.is) (hJ : Ints w ib m.is) (hi9 : m.is.length ≤ 1000000) (hS : Rds w ta (cellsS F n)) (hT : Rds w tb (cellsS F n)) (hn : n ≤ 1000000) :
    Calls Tryd.prog 14 #[.agg (fdr addr m fa fc ia ic (.slice ta n tc)), .agg (fdr addr m fb fd ib id_ (.slice tb n td))] w fun e w' => e = .returned (.bool true) ∧ Below w.heap.size w w' := by
  have hb2 : ∀ o1 o2, Below w.heap.size w ((w.alloc o1).alloc o2) := fun o1 o2 => ((Below.refl _ _).alloc (Nat.le_refl _) _).alloc (by simp) _
  have HB := Lib.hid hb2
  have HSm := Lib.hid (fun (W : World) (hb : Below w.heap.size w W) => (same_any (w := W) m m fa m.fs.length fc ia m.is.length ic fb m.fs.length fd ib m.is.length id_ (hA.later hb) (hB.later hb) rfl rfl hfn hfl (hI.below hb) (hJ.below hb) rfl rfl hi9).mono fun e w' (h : SameO m m W e w') => show e = .returned (.bool true) ∧ Below W.heap.size W w' from by
    obtain ⟨⟨b, rfl, hb⟩, h2⟩ := h
    rw [hb.2 rfl]
    exact ⟨rfl, h2⟩)
  have HTx := Lib.hid (fun (W : World) (hb : Below w.heap.size w W) => texts_yes (w := W) ta tb n tc td F (hS.later hb) (hT.later hb) hn)
  clear hA hB hfn hfl hI hJ hi9 hS hT hb2
  go_enter Tryd.func14, Tryd.ntmps14
  go_wp2_with fail
  refine (HSm.out _ (HB.out _ _)).mono ?_
  rintro e w3 ⟨rfl, hb3⟩
  have hx1 := ((blo_laid w RFT (fdr addr m fa fc ia ic (.slice ta n tc))).alloc (.cells (fdr addr m fb fd ib id_ (.slice tb n td)) RFT)).later hb3
  have hx2 := blo_laid (w.alloc (.cells (fdr addr m fa fc ia ic (.slice ta n tc)) RFT)) RFT (fdr addr m fb fd ib id_ (.slice tb n td))
  rw [World.size_alloc] at hx2
  have hx2 := hx2.later hb3
  have c1 := hx1.cell 8
  have c2 := hx2.cell 8
  simp at c1 c2
  have HB3 := Lib.hid ((HB.out _ _).trans (hb3.mono (HB.out _ _).size))
  clear hb3 hx1 hx2
  go_wp2_with fail
  refine (HTx.out _ HB3.out).mono ?_
  rintro e w4 ⟨rfl, hb4⟩
  have HB4 := Lib.hid (HB3.out.trans (hb4.mono HB3.out.size))
  clear hb4 c1 c2 HB3
  go_wp2
  go_ret
  exact ⟨rfl, HB4.out⟩
end
end Go.Proofs.YtlkgaefabahkoaaDoor
/-
  Partial segments, for the laws: few.
-/
namespace Go.Proofs.YtlkgaefabahkoaaDoor
open Go.RowKit

def few15 (fs : List Fi) (is : List Int) (dn : Nat) : Bool := decide (fs.length ≤ 40 ∧ is.length ≤ 120 ∧ dn ≤ 200 ∧ is.length + blF fs ≤ 120)
theorem few15_yes {fs : List Fi} {is : List Int} {dn : Nat} (h : few15 fs is dn = true) : fs.length ≤ 40 ∧ is.length ≤ 120 ∧ dn ≤ 200 ∧ is.length + blF fs ≤ 120 := of_decide_eq_true h
section
variable {w : World}
set_option maxRecDepth 100000 in
set_option maxHeartbeats 4000000 in
theorem few15_any (addr e c i p x : Int) (fs : List Fi) (is : List Int) (fa : Option Addr) (fn fc : Nat) (ia : Option Addr) (inn ic : Nat) (da : Option Addr) (dn dc : Nat) (hF : Fis w fa fs) (hfn : fn = fs.length) (hin : inn = is.length) (hx1 : fn ≤ 9223372036854775807) (hx2 : inn ≤ 9223372036854775807) (hx3 : dn ≤ 9223372036854775807) (hfl : ∀ y ∈ fs, y.lb.length ≤ 9223372036854775807) :
    Calls Tryd.prog 16 #[.agg #[.int .i64 addr, .int .i64 e, .int .i64 c, .int .i64 i, .int .i64 p, .int .i64 x, .slice fa fn fc, .slice ia inn ic, .slice da dn dc]] w fun en w' => en = .returned (.bool (few15 fs is dn)) ∧ Below w.heap.size w w' := by
  unfold few15
  rw [← hfn, ← hin]
  have HB := Lib.hid (sup_pc w (.cells #[.int .i64 addr, .int .i64 e, .int .i64 c, .int .i64 i, .int .i64 p, .int .i64 x, .slice fa fn fc, .slice ia inn ic, .slice da dn dc] 51))
  by_cases h1 : fn ≤ 40
  · by_cases h2 : inn ≤ 120
    · by_cases h3 : dn ≤ 200
      · have j1 : ¬ (40 : Int) < (fn : Int) := by omega
        have j2 : ¬ (120 : Int) < (inn : Int) := by omega
        have j3 : ¬ (200 : Int) < (dn : Int) := by omega
        have HF := Lib.hid (hF.later (sup_pc w (.cells #[.int .i64 addr, .int .i64 e, .int .i64 c, .int .i64 i, .int .i64 p, .int .i64 x, .slice fa fn fc, .slice ia inn ic, .slice da dn dc] 51)))
        have HN := Lib.hid hfn
        have HL := Lib.hid hfl
        have HE : Hid (decide (fn ≤ 40 ∧ inn ≤ 120 ∧ dn ≤ 200 ∧ inn + blF fs ≤ 120) = decide (inn + blF fs ≤ 120)) := by
          show _ = _
          exact decide_eq_decide.2 ⟨fun h => h.2.2.2, fun h => ⟨h1, h2, h3, h⟩⟩
        rw [HE.out]
        clear hF hfn hfl HE hin h3
        go_enter Tryd.func16, Tryd.ntmps16
        go_wp2_with fail
        go_loop [3, 31] (fun n t => ∃ k : Nat, k ≤ fn ∧ t = .int .i64 k ∧ n = .int .i64 ((inn + blF (fs.take k) : Nat) : Int) ∧ inn + blF (fs.take k) ≤ 120) (fun _ t => fn - (intOf t).toNat)
        case atStart => exact ⟨0, Nat.zero_le _, rfl, by simp [blF], by simp [blF]; exact h2⟩
        case round =>
          obtain ⟨k, hk, rfl, rfl, hM⟩ := hrel
          by_cases hlt : k < fn
          · have hkl : k < fs.length := by rw [← HN.out]; exact hlt
            obtain ⟨b, o, cc, cp, rfl, q1, q2, q3, -⟩ := HF.out.at hkl
            have hsn := take_snocF fs fi0 k hkl
            have hle := blF_take fs (k + 1)
            have HSn : Hid (blF (fs.take (k + 1)) = blF (fs.take k) + (fs.getD k fi0).lb.length) := by show _ = _; rw [hsn, blF_snoc]
            have hlb := HL.out (fs.getD k fi0) (by rw [List.getD_eq_getElem?_getD, List.getElem?_eq_getElem hkl]; exact List.getElem_mem hkl)
            rw [HSn.out] at hle
            have HLe := Lib.hid hle
            generalize (fs.getD k fi0).lb.length = m at *
            obtain ⟨M, hMM⟩ : ∃ M, blF (fs.take k) = M := ⟨_, rfl⟩
            rw [hMM] at HSn hM HLe
            simp only [hMM]
            have k0 : (0 : Int) ≤ (k : Int) := by omega
            have k1 : (k : Int) < (fn : Int) := by omega
            clear hkl hsn hle hMM q1 q2
            by_cases h4 : inn + M + m ≤ 120
            · have j4 : ¬ (120 : Int) - ((inn : Int) + (M : Int)) < (m : Int) := by omega
              have HS2 : Hid (inn + blF (fs.take (k + 1)) = inn + M + m) := by show _ = _; rw [HSn.out]; omega
              clear HSn
              go_wp2_with fail
              go_round
              case rel => exact ⟨k + 1, hlt, by simp, by rw [HS2.out]; congr 1 <;> omega, by rw [HS2.out]; exact h4⟩
              case measure => simp [intOf]; omega
            · have j4 : (120 : Int) - ((inn : Int) + (M : Int)) < (m : Int) := by omega
              have HD : Hid (decide (inn + blF fs ≤ 120) = false) := decide_eq_false (by have := HLe.out; omega)
              clear HSn HLe HF h4
              go_wp2
              go_ret
              exact ⟨HD.out.symm ▸ rfl, HB.out⟩
          · have hkn : fs.take k = fs := by rw [List.take_of_length_le]; have := HN.out; omega
            rw [hkn] at hM
            have HD : Hid (decide (inn + blF fs ≤ 120) = true) := decide_eq_true hM
            simp only [hkn]
            clear HF hkn hM
            go_wp2
            go_ret
            exact ⟨HD.out.symm ▸ rfl, HB.out⟩
      · have j1 : ¬ (40 : Int) < (fn : Int) := by omega
        have j2 : ¬ (120 : Int) < (inn : Int) := by omega
        have j3 : (200 : Int) < (dn : Int) := by omega
        rw [decide_eq_false (fun h => h3 h.2.2.1)]
        clear hF hfn hfl hin h3
        go_enter Tryd.func16, Tryd.ntmps16
        go_wp2
        go_ret
        exact ⟨rfl, HB.out⟩
    · have j1 : ¬ (40 : Int) < (fn : Int) := by omega
      have j2 : (120 : Int) < (inn : Int) := by omega
      rw [decide_eq_false (fun h => h2 h.2.1)]
      clear hF hfn hfl hin h2
      go_enter Tryd.func16, Tryd.ntmps16
      go_wp2
      go_ret
      exact ⟨rfl, HB.out⟩
  · have j1 : (40 : Int) < (fn : Int) := by omega
    rw [decide_eq_false (fun h => h1 h.1)]
    clear hF hfn hfl hin h1
    go_enter Tryd.func16, Tryd.ntmps16
    go_wp2
    go_ret
    exact ⟨rfl, HB.out⟩
end
end Go.Proofs.YtlkgaefabahkoaaDoor
