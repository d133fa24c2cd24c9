/-
  marlref06.Same: of any two summaries.
-/
import Derived.Test.YtkdjfhbdcfjnnaaSwIn
import Derived.Test.YtkdjfhbdcfjnnaaIntsEq
import Derived.Test.YtkdjfhbdcfjnnaaQuiet
import Derived.BigQuiet
import Derived.Deep.DeepCutAuto
namespace Go.Proofs.Ytkdjfhbdcfjnnaa
open Go.RowKit

structure SmR (w : World) (x y : Array Value) (fa fb : Option Addr) (l l' : List Fi) (wr : World) : Prop where
  a : Fis wr fa l
  b : Fis wr fb l'
  x : Blo wr w.heap.size 25 x
  y : Blo wr (w.heap.size + 1) 25 y
  below : Below w.heap.size w wr
theorem SmR.later {w w' wr : World} {x y : Array Value} {fa fb : Option Addr} {l l' : List Fi} (h : SmR w x y fa fb l l' wr) (hb : Below wr.heap.size wr w') : SmR w x y fa fb l l' w' :=
  ⟨h.a.later hb, h.b.later hb, h.x.later hb, h.y.later hb, h.below.trans (hb.mono h.below.size)⟩
def SameO (m m' : Sm) (w : World) (e : Ending) (w' : World) : Prop := (∃ b : Bool, e = .returned (.bool b) ∧ (b = true ↔ m = m')) ∧ Below w.heap.size w w'
section
variable {w : World} (m m' : Sm) (fa : Option Addr) (fn fc : Nat) (ia : Option Addr) (inn ic : Nat) (fb : Option Addr) (fn' fd : Nat) (ib : Option Addr) (inn' id : Nat)
theorem smr_laid (hA : Fis w fa m.fs) (hB : Fis w fb m'.fs) : SmR w (pcs m fa fn fc ia inn ic) (pcs m' fb fn' fd ib inn' id) fa fb m.fs m'.fs ((w.alloc (.cells (pcs m fa fn fc ia inn ic) 25)).alloc (.cells (pcs m' fb fn' fd ib inn' id) 25)) := by
  have hb1 := (sup_pc w (.cells (pcs m fa fn fc ia inn ic) 25)).trans ((sup_pc _ (.cells (pcs m' fb fn' fd ib inn' id) 25)).mono (sup_pc w _).size)
  refine ⟨hA.later hb1, hB.later hb1, (blo_laid w 25 (pcs m fa fn fc ia inn ic)).alloc _, ?_, hb1⟩
  have := blo_laid (w.alloc (.cells (pcs m fa fn fc ia inn ic) 25)) 25 (pcs m' fb fn' fd ib inn' id)
  rw [World.size_alloc] at this
  exact this
set_option maxRecDepth 100000 in
set_option maxHeartbeats 8000000 in
theorem same_head (hA : Fis w fa m.fs) (hB : Fis w fb m'.fs) (hn : fn = m.fs.length) (hn' : fn' = m'.fs.length)
    (hne : ¬ (m.e = m'.e ∧ m.c = m'.c ∧ m.i = m'.i ∧ m.p = m'.p ∧ m.x = m'.x ∧ fn = fn')) :
    Calls Try.prog 19 #[part m.e m.c m.i m.p m.x fa fn fc ia inn ic, part m'.e m'.c m'.i m'.p m'.x fb fn' fd ib inn' id] w (SameO m m' w) := by
  have hR := smr_laid m m' fa fn fc ia inn ic fb fn' fd ib inn' id hA hB
  have HNe : Hid (m ≠ m') := fun e => hne (by subst e; exact ⟨rfl, rfl, rfl, rfl, rfl, by rw [hn, hn']⟩)
  have HR := Lib.hid hR
  have HB := Lib.hid hR.below
  have c0 := hR.x.cell 0
  have c1 := hR.x.cell 1
  have c2 := hR.x.cell 2
  have c3 := hR.x.cell 3
  have c4 := hR.x.cell 4
  have c5 := hR.x.cell 5
  have c6 := hR.x.cell 6
  simp [pcs] at c0 c1 c2 c3 c4 c5 c6
  have d0 := hR.y.cell 0
  have d1 := hR.y.cell 1
  have d2 := hR.y.cell 2
  have d3 := hR.y.cell 3
  have d4 := hR.y.cell 4
  have d5 := hR.y.cell 5
  have d6 := hR.y.cell 6
  simp [pcs] at d0 d1 d2 d3 d4 d5 d6
  clear hR hA hB hn hn'
  by_cases h0 : m.e = m'.e
  · have q0 : (m.e != m'.e) = false := by simp [h0]
    have H0 := Lib.hid h0
    clear h0
    by_cases h1 : m.c = m'.c
    · have q1 : (m.c != m'.c) = false := by simp [h1]
      have H1 := Lib.hid h1
      clear h1
      by_cases h2 : m.i = m'.i
      · have q2 : (m.i != m'.i) = false := by simp [h2]
        have H2 := Lib.hid h2
        clear h2
        by_cases h3 : m.p = m'.p
        · have q3 : (m.p != m'.p) = false := by simp [h3]
          have H3 := Lib.hid h3
          clear h3
          by_cases h4 : m.x = m'.x
          · have q4 : (m.x != m'.x) = false := by simp [h4]
            have H4 := Lib.hid h4
            clear h4
            have hl : fn ≠ fn' := fun e => hne ⟨H0.out, H1.out, H2.out, H3.out, H4.out, e⟩
            have q5 : ((fn : Int) != (fn' : Int)) = true := by simp; omega
            clear hne
            go_enter Try.func19, Try.ntmps19
            go_wp2_with fail
            go_ret
            exact ⟨⟨false, rfl, fun h => (by cases h), fun h => absurd h HNe.out⟩, HB.out⟩
          · have q4 : (m.x != m'.x) = true := by simp [h4]
            clear hne
            go_enter Try.func19, Try.ntmps19
            go_wp2_with fail
            go_ret
            exact ⟨⟨false, rfl, fun h => (by cases h), fun h => absurd h HNe.out⟩, HB.out⟩
        · have q3 : (m.p != m'.p) = true := by simp [h3]
          clear hne
          go_enter Try.func19, Try.ntmps19
          go_wp2_with fail
          go_ret
          exact ⟨⟨false, rfl, fun h => (by cases h), fun h => absurd h HNe.out⟩, HB.out⟩
      · have q2 : (m.i != m'.i) = true := by simp [h2]
        clear hne
        go_enter Try.func19, Try.ntmps19
        go_wp2_with fail
        go_ret
        exact ⟨⟨false, rfl, fun h => (by cases h), fun h => absurd h HNe.out⟩, HB.out⟩
    · have q1 : (m.c != m'.c) = true := by simp [h1]
      clear hne
      go_enter Try.func19, Try.ntmps19
      go_wp2_with fail
      go_ret
      exact ⟨⟨false, rfl, fun h => (by cases h), fun h => absurd h HNe.out⟩, HB.out⟩
  · have q0 : (m.e != m'.e) = true := by simp [h0]
    clear hne
    go_enter Try.func19, Try.ntmps19
    go_wp2_with fail
    go_ret
    exact ⟨⟨false, rfl, fun h => (by cases h), fun h => absurd h HNe.out⟩, HB.out⟩
set_option maxRecDepth 100000 in
set_option maxHeartbeats 8000000 in
theorem same_any (hA : Fis w fa m.fs) (hB : Fis w fb m'.fs) (hn : fn = m.fs.length) (hn' : fn' = m'.fs.length) (hfn : fn ≤ 1000000) (hfl : ∀ x ∈ m.fs, x.lb.length ≤ 1000000)
    (hI : Ints w ia m.is) (hJ : Ints w ib m'.is) (hin : inn = m.is.length) (hin' : inn' = m'.is.length) (hi9 : inn ≤ 1000000) :
    Calls Try.prog 19 #[part m.e m.c m.i m.p m.x fa fn fc ia inn ic, part m'.e m'.c m'.i m'.p m'.x fb fn' fd ib inn' id] w (SameO m m' w) := by
  by_cases hne : m.e = m'.e ∧ m.c = m'.c ∧ m.i = m'.i ∧ m.p = m'.p ∧ m.x = m'.x ∧ fn = fn'
  case neg => exact same_head m m' fa fn fc ia inn ic fb fn' fd ib inn' id hA hB hn hn' hne
  obtain ⟨E, C, I, P, X, l, is⟩ := m
  obtain ⟨E', C', I', P', X', l', is'⟩ := m'
  simp only at hne hn hn' hfl hI hJ hin hin' hA hB
  obtain ⟨rfl, rfl, rfl, rfl, rfl, rfl⟩ := hne
  have hR : SmR w (pcs ⟨E, C, I, P, X, l, is⟩ fa fn fc ia inn ic) (pcs ⟨E, C, I, P, X, l', is'⟩ fb fn fd ib inn' id) fa fb l l' ((w.alloc (.cells #[.int .i64 E, .int .i64 C, .int .i64 I, .int .i64 P, .int .i64 X, .slice fa fn fc, .slice ia inn ic] 25)).alloc (.cells #[.int .i64 E, .int .i64 C, .int .i64 I, .int .i64 P, .int .i64 X, .slice fb fn fd, .slice ib inn' id] 25)) := smr_laid ⟨E, C, I, P, X, l, is⟩ ⟨E, C, I, P, X, l', is'⟩ fa fn fc ia inn ic fb fn fd ib inn' id hA hB
  have HIn := Lib.hid (fun W (hW : Below w.heap.size w W) => ints_any is is' ia ib inn inn' ic id W hin hin' (by omega) (hI.below hW) (hJ.below hW))
  have HR := Lib.hid hR
  have HN := Lib.hid hn
  have HN' := Lib.hid hn'
  have HL := Lib.hid hfl
  have q0 : (E != E) = false := by simp
  have q1 : (C != C) = false := by simp
  have q2 : (I != I) = false := by simp
  have q3 : (P != P) = false := by simp
  have q4 : (X != X) = false := by simp
  have q5 : ((fn : Int) != (fn : Int)) = false := by simp
  clear hR hA hB hn hn' hfl hI hJ hin hin'
  go_enter Try.func19, Try.ntmps19
  go_upto_region 1 with (fail)
  generalize ((w.alloc (.cells #[.int .i64 E, .int .i64 C, .int .i64 I, .int .i64 P, .int .i64 X, .slice fa fn fc, .slice ia inn ic] 25)).alloc (.cells #[.int .i64 E, .int .i64 C, .int .i64 I, .int .i64 P, .int .i64 X, .slice fb fn fd, .slice ib inn' id] 25)) = w1 at *
  have HC := Lib.hid (HIn.out w1 HR.out.below)
  have c0 := HR.out.x.cell 0
  have c1 := HR.out.x.cell 1
  have c2 := HR.out.x.cell 2
  have c3 := HR.out.x.cell 3
  have c4 := HR.out.x.cell 4
  have c5 := HR.out.x.cell 5
  have c6 := HR.out.x.cell 6
  simp [pcs] at c0 c1 c2 c3 c4 c5 c6
  have d0 := HR.out.y.cell 0
  have d1 := HR.out.y.cell 1
  have d2 := HR.out.y.cell 2
  have d3 := HR.out.y.cell 3
  have d4 := HR.out.y.cell 4
  have d5 := HR.out.y.cell 5
  have d6 := HR.out.y.cell 6
  simp [pcs] at d0 d1 d2 d3 d4 d5 d6
  go_wp2_with fail
  refine HC.out.mono ?_
  rintro e w2 ⟨rfl, hb⟩
  have HR2 := Lib.hid (HR.out.later hb)
  clear hb HR HC HIn c0 c1 c2 c3 c4 c5 c6 d0 d1 d2 d3 d4 d5 d6
  by_cases his : is = is'
  case neg =>
    rw [decide_eq_false his]
    have HNe : Hid ((⟨E, C, I, P, X, l, is⟩ : Sm) ≠ ⟨E, C, I, P, X, l', is'⟩) := fun e => his (by injection e)
    go_wp2_with fail
    go_ret
    exact ⟨⟨false, rfl, fun h => (by cases h), fun h => absurd h HNe.out⟩, HR2.out.below⟩
  subst his
  rw [decide_eq_true rfl]
  have c5 := HR2.out.x.cell 5
  simp [pcs] at c5
  go_wp2_with fail
  clear c5
  go_loopw [5, 59] (fun _ t wr => ∃ k : Nat, k ≤ fn ∧ t = .int .i64 k ∧ l.take k = l'.take k ∧ SmR w (pcs ⟨E, C, I, P, X, l, is⟩ fa fn fc ia inn ic) (pcs ⟨E, C, I, P, X, l', is⟩ fb fn fd ib inn' id) fa fb l l' wr) (fun _ t _ => fn - (intOf t).toNat)
  case atStart => exact ⟨0, Nat.zero_le _, rfl, rfl, HR2.out⟩
  case round =>
    clear HR2
    obtain ⟨k, hk, rfl, htk, hR⟩ := hrel
    have HR := Lib.hid hR
    have HTk := Lib.hid htk
    clear hR htk
    by_cases hlt : k < fn
    · have hkl : k < l.length := by rw [← HN.out]; exact hlt
      have hkl' : k < l'.length := by rw [← HN'.out]; exact hlt
      obtain ⟨b, o, c, cp, rfl, p1, p2, p3, p4⟩ := HR.out.a.at hkl
      obtain ⟨b', o', c', cp', rfl, s1, s2, s3, s4⟩ := HR.out.b.at hkl'
      have hmem : l.getD k fi0 ∈ l := by rw [List.getD_eq_getElem?_getD, List.getElem?_eq_getElem hkl]; exact List.getElem_mem _
      have hl9 := HL.out _ hmem
      have HNx : Hid (l.take (k + 1) = l.take k ++ [l.getD k fi0] ∧ l'.take (k + 1) = l'.take k ++ [l'.getD k fi0]) := ⟨take_snocF l fi0 k hkl, take_snocF l' fi0 k hkl'⟩
      have HNe : Hid (l.getD k fi0 ≠ l'.getD k fi0 → (⟨E, C, I, P, X, l, is⟩ : Sm) ≠ ⟨E, C, I, P, X, l', is⟩) := fun h e => h (by injection e with _ _ _ _ _ e; rw [e])
      generalize l.getD k fi0 = xx at *
      generalize l'.getD k fi0 = yy at *
      obtain ⟨xi, xv, xl⟩ := xx
      obtain ⟨yi, yv, yl⟩ := yy
      simp only at p1 p2 p3 p4 s1 s2 s3 s4 hl9
      have HCi := Lib.hid (fun W (hW : Below wr.heap.size wr W) => ints_any xl yl c c' xl.length yl.length cp cp' W rfl rfl (by omega) (p4.below hW) (s4.below hW))
      have k0 : (0 : Int) ≤ (k : Int) := by omega
      have k1 : (k : Int) < (fn : Int) := by omega
      have a1 : ∀ y : Kept wr, y.at_.cell? ⟨b, o + k * 3, none⟩ = some (.int .i64 xi) := fun y => cell_later y.below p1
      have a2 : ∀ y : Kept wr, y.at_.cell? ⟨b, o + k * 3 + 1, none⟩ = some (.int .i64 xv) := fun y => cell_later y.below p2
      have a3 : ∀ y : Kept wr, y.at_.cell? ⟨b, o + k * 3 + 2, none⟩ = some (.slice c xl.length cp) := fun y => cell_later y.below p3
      have b1 : ∀ y : Kept wr, y.at_.cell? ⟨b', o' + k * 3, none⟩ = some (.int .i64 yi) := fun y => cell_later y.below s1
      have b2 : ∀ y : Kept wr, y.at_.cell? ⟨b', o' + k * 3 + 1, none⟩ = some (.int .i64 yv) := fun y => cell_later y.below s2
      have b3 : ∀ y : Kept wr, y.at_.cell? ⟨b', o' + k * 3 + 2, none⟩ = some (.slice c' yl.length cp') := fun y => cell_later y.below s3
      have a5 : ∀ y : Kept wr, y.at_.cell? ⟨w.heap.size, 5, none⟩ = some (.slice (some ⟨b, o, none⟩) fn fc) := fun y => (HR.out.x.later y.below).cell 5
      have b5 : ∀ y : Kept wr, y.at_.cell? ⟨w.heap.size + 1, 5, none⟩ = some (.slice (some ⟨b', o', none⟩) fn fd) := fun y => (HR.out.y.later y.below).cell 5
      have HCz : Hid (∀ y : Kept wr, Calls Try.prog 32 #[.slice c xl.length cp, .slice c' yl.length cp'] y.at_ fun e w' => e = .returned (.bool (decide (xl = yl))) ∧ Below y.at_.heap.size y.at_ w') := fun y => HCi.out y.at_ y.below
      clear hkl hkl' hmem hl9 p1 p2 p3 p4 s1 s2 s3 s4 HCi
      by_cases hxi : xi = yi
      · subst hxi
        have e1 : (xi != xi) = false := by simp
        by_cases hxv : xv = yv
        · subst hxv
          have e2 : (xv != xv) = false := by simp
          by_cases hxl : xl = yl
          · subst hxl
            have HCz : Hid (∀ y : Kept wr, Calls Try.prog 32 #[.slice c xl.length cp, .slice c' xl.length cp'] y.at_ fun e w' => e = .returned (.bool true) ∧ Below y.at_.heap.size y.at_ w') := fun y => by have := HCz.out y; rwa [decide_eq_true rfl] at this
            go_wp2_with fail
            refine wp_region_kept (by kernel_rfl) (by kernel_rfl) ?_
            repeat (first | go_big_quiet_step ((go_at_call 32; with_reducible exact kept_call _ (HCz.out _))) | simp only [e1, e2])
            refine wpQuiet_nil ?_
            rintro W ⟨wx, rfl⟩
            have HR5 := Lib.hid (HR.out.later wx.below)
            clear HR HCz a1 a2 a3 b1 b2 b3 a5 b5
            go_wp2_with fail
            go_roundw
            case rel => exact ⟨k + 1, by omega, by simp, by rw [HNx.out.1, HNx.out.2, HTk.out], HR5.out⟩
            case measure => simp [intOf]; omega
          · have HCz : Hid (∀ y : Kept wr, Calls Try.prog 32 #[.slice c xl.length cp, .slice c' yl.length cp'] y.at_ fun e w' => e = .returned (.bool false) ∧ Below y.at_.heap.size y.at_ w') := fun y => by have := HCz.out y; rwa [decide_eq_false hxl] at this
            replace HNe : Hid ((⟨E, C, I, P, X, l, is⟩ : Sm) ≠ ⟨E, C, I, P, X, l', is⟩) := HNe.out (fun e => hxl (by injection e))
            go_wp2_with fail
            refine wp_region_kept (by kernel_rfl) (by kernel_rfl) ?_
            repeat (first | go_big_quiet_step ((go_at_call 32; with_reducible exact kept_call _ (HCz.out _))) | simp only [e1, e2])
            refine wpQuiet_nil ?_
            rintro W ⟨wx, rfl⟩
            have HR5 := Lib.hid (HR.out.later wx.below)
            clear HR HCz a1 a2 a3 b1 b2 b3 a5 b5
            go_wp2_with fail
            go_ret
            exact ⟨⟨false, rfl, fun h => (by cases h), fun h => absurd h HNe.out⟩, HR5.out.below⟩
        · have e2 : (xv != yv) = true := by simp [hxv]
          replace HNe : Hid ((⟨E, C, I, P, X, l, is⟩ : Sm) ≠ ⟨E, C, I, P, X, l', is⟩) := HNe.out (fun e => hxv (by injection e))
          go_wp2_with fail
          refine wp_region_kept (by kernel_rfl) (by kernel_rfl) ?_
          repeat (first | go_big_quiet_step ((go_at_call 32; with_reducible exact kept_call _ (HCz.out _))) | simp only [e1, e2])
          refine wpQuiet_nil ?_
          rintro W ⟨wx, rfl⟩
          have HR5 := Lib.hid (HR.out.later wx.below)
          clear HR HCz a1 a2 a3 b1 b2 b3 a5 b5
          go_wp2_with fail
          go_ret
          exact ⟨⟨false, rfl, fun h => (by cases h), fun h => absurd h HNe.out⟩, HR5.out.below⟩
      · have e1 : (xi != yi) = true := by simp [hxi]
        have e2 : True := trivial
        replace HNe : Hid ((⟨E, C, I, P, X, l, is⟩ : Sm) ≠ ⟨E, C, I, P, X, l', is⟩) := HNe.out (fun e => hxi (by injection e))
        go_wp2_with fail
        refine wp_region_kept (by kernel_rfl) (by kernel_rfl) ?_
        repeat (first | go_big_quiet_step ((go_at_call 32; with_reducible exact kept_call _ (HCz.out _))) | simp only [e1, e2])
        refine wpQuiet_nil ?_
        rintro W ⟨wx, rfl⟩
        have HR5 := Lib.hid (HR.out.later wx.below)
        clear HR HCz a1 a2 a3 b1 b2 b3 a5 b5
        go_wp2_with fail
        go_ret
        exact ⟨⟨false, rfl, fun h => (by cases h), fun h => absurd h HNe.out⟩, HR5.out.below⟩
    · have k1 : ¬ (k : Int) < (fn : Int) := by omega
      have HB := Lib.hid HR.out.below
      have HEq : Hid ((⟨E, C, I, P, X, l, is⟩ : Sm) = ⟨E, C, I, P, X, l', is⟩) := by
        have h1 := HTk.out
        rw [List.take_of_length_le (by have := HN.out; omega), List.take_of_length_le (by have := HN'.out; omega)] at h1
        show _ = _
        rw [h1]
      clear HR
      go_wp2
      go_ret
      exact ⟨⟨true, rfl, fun _ => HEq.out, fun _ => rfl⟩, HB.out⟩
end
end Go.Proofs.Ytkdjfhbdcfjnnaa
