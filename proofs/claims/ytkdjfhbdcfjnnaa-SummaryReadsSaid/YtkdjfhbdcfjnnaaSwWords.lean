/-
  summary.words: a good summary's words, with zeros behind.
-/
import Derived.Test.YtkdjfhbdcfjnnaaSwFil
namespace Go.Proofs.Ytkdjfhbdcfjnnaa
open Go.RowKit

theorem number_int {w : World} (k : Nat) (v : Int) (g c n : Nat) (xs : List Nat) (hF : Fil w g c xs) (hn : n = xs.length) (hr : n + k ≤ c) (hk8 : k ≤ 8) (hc9 : c ≤ 1000000) (h0 : 0 ≤ v) (hv : v < 4611686018427387904) :
    Calls Try.prog 25 #[.slice (some ⟨g, 0, none⟩) n c, .int .i64 k, .int .i64 v] w fun e w' => e = .returned (.slice (some ⟨g, 0, none⟩) (n + k) c) ∧ Fil w' g c (xs ++ num k v.toNat) ∧ w.grownBy w' (some g) := by
  obtain ⟨u, rfl⟩ : ∃ u : Nat, v = u := ⟨v.toNat, by omega⟩
  exact number_fil k u g c n xs hF hn hr hk8 hc9 (by omega)
/-- What stands behind each of the calls. -/
structure Wr (w : World) (cs : Array Value) (xs : List Nat) (wr : World) : Prop where
  top : Blo wr w.heap.size 25 cs
  fil : Fil wr (w.heap.size + 1) 88 xs
  below : Below w.heap.size w wr
section
variable {w wr w' : World} {cs : Array Value} {xs ys : List Nat}
theorem Wr.later (h : Wr w cs xs wr) (hb : Below wr.heap.size wr w') : Wr w cs xs w' := ⟨h.top.later hb, h.fil.later hb, h.below.trans (hb.mono h.below.size)⟩
theorem Wr.put (h : Wr w cs xs wr) (hf : Fil w' (w.heap.size + 1) 88 ys) (hg : wr.grownBy w' (some (w.heap.size + 1))) : Wr w cs ys w' :=
  ⟨h.top.grown hg (by simp), hf, h.below.grown hg h.below.size (fun k e => by cases e; omega)⟩
end
def head10 (m : Sm) (s : Nat) : List Nat := num 1 m.i.toNat ++ num 1 m.p.toNat ++ num 2 m.x.toNat ++ num 1 m.fs.length ++ num 1 m.is.length ++ num 4 s
theorem head10_len (m : Sm) (s : Nat) : (head10 m s).length = 10 := by simp only [head10, List.length_append, num_len]
theorem wds_head (m : Sm) (s : Nat) : wds m s = head10 m s ++ m.fs.flatMap wF ++ m.is.flatMap wI := rfl
theorem flat_snoc {α : Type} (g : α → List Nat) (l : List α) (d : α) (k : Nat) (h : k < l.length) : (l.take (k + 1)).flatMap g = (l.take k).flatMap g ++ g (l.getD k d) := by
  rw [take_snocF l d k h]; simp
theorem make88 : ∀ W : World, (Instr.makeSlice 30 (.int .i64 0) (.int .i64 88)).run Try.prog W = .ok (.slice (some ⟨W.heap.size, 0, none⟩) 0 88) (W.alloc (.cells (cellsB (zpad 88 [])).toArray U8)) := fun _ => by kernel_rfl
theorem size_u8s (w : World) : (Go.sizeOf U8).run Try.prog w = .ok 1 w := by kernel_rfl
theorem cut_88 (g n : Nat) (W : World) : (Instr.slice 30 (.slice (some ⟨g, 0, none⟩) n 88) none (some (.int .i64 88)) none).run Try.prog W = .ok (.slice (some ⟨g, 0, none⟩) 88 88) W := by
  have ht' : Try.prog.underlying 30 = some (.slice (Try.prog.elem 30)) := by simp [Program.elem, Try.underlying30]
  have he : Try.prog.elem 30 = 5 := by simp [Program.elem, Try.underlying30]
  have := run_slice_h W 30 (some ⟨g, 0, none⟩) n 88 ht' .i64 88 (by omega) (by omega)
  rw [this, he, size_u8s]
  simp [Result.andThen, sliced, Addr.add]
theorem szF_mem {l : List Fi} {k : Nat} (h : k < l.length) : szF (l.take k) + (4 + 2 * (l.getD k fi0).lb.length) ≤ szF l := by
  have := szF_take l (k + 1)
  rw [take_snocF l fi0 k h, szF_snoc] at this
  exact this
set_option maxHeartbeats 4000000 in
theorem words_any {w : World} (m : Sm) (s : Nat) (fa : Option Addr) (fn fc : Nat) (ia : Option Addr) (inn ic : Nat) (hg : Good m) (hF : Fis w fa m.fs) (hn : fn = m.fs.length) (hI : Ints w ia m.is) (hin : inn = m.is.length) (hs : s < 4294967296) :
    Calls Try.prog 24 #[part m.e m.c m.i m.p m.x fa fn fc ia inn ic, .int .u32 s] w fun e w' => ∃ g, e = .returned (.slice (some ⟨g, 0, none⟩) 88 88) ∧ w.heap.size ≤ g ∧ Fil w' g 88 (wds m s) ∧ Below w.heap.size w w' := by
  have HF := Lib.hid hF
  have HI := Lib.hid hI
  have HN := Lib.hid hn
  have HIN := Lib.hid hin
  have HG := Lib.hid hg
  have hfn : fn ≤ 22 := by have := len_szF m.fs; have := hg.size; omega
  have hinn : inn ≤ 78 := by have := hg.size; omega
  have hm88 := make88
  have hg1 := hg.i; have hg2 := hg.p; have hg3 := hg.x
  have b1 : 0 ≤ m.i := hg1.1
  have b2 : m.i < 64 := by omega
  have b3 : 1 ≤ m.p := hg2.1
  have b4 : m.p ≤ 64 := hg2.2
  have b5 : 0 ≤ m.x := hg3.1
  have b6 : m.x ≤ 4095 := hg3.2
  have hs' : (s : Int) < 4294967296 := by omega
  have H0 := Lib.hid (show Wr w #[.int .i64 m.e, .int .i64 m.c, .int .i64 m.i, .int .i64 m.p, .int .i64 m.x, .slice fa fn fc, .slice ia inn ic] [] ((w.alloc (.cells #[.int .i64 m.e, .int .i64 m.c, .int .i64 m.i, .int .i64 m.p, .int .i64 m.x, .slice fa fn fc, .slice ia inn ic] 25)).alloc (.cells (cellsB (zpad 88 [])).toArray U8)) from
    ⟨(blo_laid w _ _).later (sup_pc _ _), ⟨by decide, (fun x hx => by cases hx), by have := blo_laid (w.alloc (.cells #[.int .i64 m.e, .int .i64 m.c, .int .i64 m.i, .int .i64 m.p, .int .i64 m.x, .slice fa fn fc, .slice ia inn ic] 25)) U8 (cellsB (zpad 88 [])).toArray; rwa [World.size_alloc] at this⟩, (sup_pc w _).trans ((sup_pc _ _).mono (by simp))⟩)
  clear hF hI hn hin hg hg1 hg2 hg3
  go_enter Try.func24, Try.ntmps24
  go_wp2_with fail
  refine (number_int 1 m.i (w.heap.size + 1) 88 0 [] H0.out.fil (by simp [num_len]) (by omega) (by omega) (by omega) (by omega) (by omega)).mono ?_
  rintro e w1 ⟨rfl, hf, hgr⟩
  have H1 : Hid (Wr w #[.int .i64 m.e, .int .i64 m.c, .int .i64 m.i, .int .i64 m.p, .int .i64 m.x, .slice fa fn fc, .slice ia inn ic] ([] ++ num 1 m.i.toNat) w1) := H0.out.put hf hgr
  clear hf hgr H0
  have c1 := H1.out.top.cell 3
  simp at c1
  go_wp2_with fail
  refine (number_int 1 m.p (w.heap.size + 1) 88 1 ([] ++ num 1 m.i.toNat) H1.out.fil (by simp [num_len]) (by omega) (by omega) (by omega) (by omega) (by omega)).mono ?_
  rintro e w2 ⟨rfl, hf, hgr⟩
  have H2 : Hid (Wr w #[.int .i64 m.e, .int .i64 m.c, .int .i64 m.i, .int .i64 m.p, .int .i64 m.x, .slice fa fn fc, .slice ia inn ic] (([] ++ num 1 m.i.toNat) ++ num 1 m.p.toNat) w2) := H1.out.put hf hgr
  clear hf hgr H1
  have c2 := H2.out.top.cell 4
  simp at c2
  clear c1
  go_wp2_with fail
  refine (number_int 2 m.x (w.heap.size + 1) 88 2 (([] ++ num 1 m.i.toNat) ++ num 1 m.p.toNat) H2.out.fil (by simp [num_len]) (by omega) (by omega) (by omega) (by omega) (by omega)).mono ?_
  rintro e w3 ⟨rfl, hf, hgr⟩
  have H3 : Hid (Wr w #[.int .i64 m.e, .int .i64 m.c, .int .i64 m.i, .int .i64 m.p, .int .i64 m.x, .slice fa fn fc, .slice ia inn ic] ((([] ++ num 1 m.i.toNat) ++ num 1 m.p.toNat) ++ num 2 m.x.toNat) w3) := H2.out.put hf hgr
  clear hf hgr H2
  have c3 := H3.out.top.cell 5
  simp at c3
  clear c2
  go_wp2_with fail
  refine (number_int 1 (fn : Int) (w.heap.size + 1) 88 4 ((([] ++ num 1 m.i.toNat) ++ num 1 m.p.toNat) ++ num 2 m.x.toNat) H3.out.fil (by simp [num_len]) (by omega) (by omega) (by omega) (by omega) (by omega)).mono ?_
  rintro e w4 ⟨rfl, hf, hgr⟩
  have H4 : Hid (Wr w #[.int .i64 m.e, .int .i64 m.c, .int .i64 m.i, .int .i64 m.p, .int .i64 m.x, .slice fa fn fc, .slice ia inn ic] (((([] ++ num 1 m.i.toNat) ++ num 1 m.p.toNat) ++ num 2 m.x.toNat) ++ num 1 fn) w4) := H3.out.put hf hgr
  clear hf hgr H3
  have c4 := H4.out.top.cell 6
  simp at c4
  clear c3
  go_wp2_with fail
  refine (number_int 1 (inn : Int) (w.heap.size + 1) 88 5 (((([] ++ num 1 m.i.toNat) ++ num 1 m.p.toNat) ++ num 2 m.x.toNat) ++ num 1 fn) H4.out.fil (by simp [num_len]) (by omega) (by omega) (by omega) (by omega) (by omega)).mono ?_
  rintro e w5 ⟨rfl, hf, hgr⟩
  have H5 : Hid (Wr w #[.int .i64 m.e, .int .i64 m.c, .int .i64 m.i, .int .i64 m.p, .int .i64 m.x, .slice fa fn fc, .slice ia inn ic] ((((([] ++ num 1 m.i.toNat) ++ num 1 m.p.toNat) ++ num 2 m.x.toNat) ++ num 1 fn) ++ num 1 inn) w5) := H4.out.put hf hgr
  clear hf hgr H4
  have c5 := H5.out.top.cell 6
  simp at c5
  clear c4
  go_wp2_with fail
  refine (number_int 4 (s : Int) (w.heap.size + 1) 88 6 ((((([] ++ num 1 m.i.toNat) ++ num 1 m.p.toNat) ++ num 2 m.x.toNat) ++ num 1 fn) ++ num 1 inn) H5.out.fil (by simp [num_len]) (by omega) (by omega) (by omega) (by omega) (by omega)).mono ?_
  rintro e w6 ⟨rfl, hf, hgr⟩
  have H6 : Hid (Wr w #[.int .i64 m.e, .int .i64 m.c, .int .i64 m.i, .int .i64 m.p, .int .i64 m.x, .slice fa fn fc, .slice ia inn ic] (((((([] ++ num 1 m.i.toNat) ++ num 1 m.p.toNat) ++ num 2 m.x.toNat) ++ num 1 fn) ++ num 1 inn) ++ num 4 s) w6) := H5.out.put hf hgr
  clear hf hgr H5
  clear c5
  have d5 := H6.out.top.cell 5
  have d6 := H6.out.top.cell 6
  simp at d5 d6
  go_wp2_with fail
  have HR0 : Hid (Wr w #[.int .i64 m.e, .int .i64 m.c, .int .i64 m.i, .int .i64 m.p, .int .i64 m.x, .slice fa fn fc, .slice ia inn ic] (head10 m s ++ (m.fs.take 0).flatMap wF) w6) := by
    have : head10 m s ++ (m.fs.take 0).flatMap wF = (((((([] ++ num 1 m.i.toNat) ++ num 1 m.p.toNat) ++ num 2 m.x.toNat) ++ num 1 fn) ++ num 1 inn) ++ num 4 s) := by
      unfold head10
      rw [← HN.out, ← HIN.out]
      simp
    show Wr _ _ _ _
    rw [this]
    exact H6.out
  clear H6
  go_loopw [5, 7, 9, 42] (fun sl _ _ t wr => ∃ k : Nat, k ≤ fn ∧ t = .int .i64 k ∧ sl = .slice (some ⟨w.heap.size + 1, 0, none⟩) (10 + szF (m.fs.take k)) 88 ∧ Wr w #[.int .i64 m.e, .int .i64 m.c, .int .i64 m.i, .int .i64 m.p, .int .i64 m.x, .slice fa fn fc, .slice ia inn ic] (head10 m s ++ (m.fs.take k).flatMap wF) wr) (fun _ _ _ t _ => fn - (intOf t).toNat)
  case atStart => exact ⟨0, Nat.zero_le _, rfl, rfl, HR0.out⟩
  case round =>
    clear HR0 d5 d6
    obtain ⟨k, hk, rfl, rfl, hR⟩ := hrel
    have HR := Lib.hid hR
    clear hR
    by_cases hlt : k < fn
    · have hkl : k < m.fs.length := by rw [← HN.out]; exact hlt
      obtain ⟨b, o, cc, cp, rfl, q1, q2, q3, q4⟩ := HF.out.at hkl
      have r1 := cell_later HR.out.below q1
      have r2 := cell_later HR.out.below q2
      have r3 := cell_later HR.out.below q3
      have HGD := Lib.hid (goodF_of (HG.out.fs (m.fs.getD k fi0) (by rw [List.getD_eq_getElem?_getD, List.getElem?_eq_getElem hkl]; exact List.getElem_mem hkl)))
      have HQ := Lib.hid q4
      have hsz := szF_mem hkl
      have HE : Hid (head10 m s ++ (m.fs.take (k + 1)).flatMap wF = (head10 m s ++ (m.fs.take k).flatMap wF) ++ wF (m.fs.getD k fi0)) := by show _ = _; rw [flat_snoc wF m.fs fi0 k hkl, List.append_assoc]
      have HE2 : Hid (szF (m.fs.take (k + 1)) = szF (m.fs.take k) + (4 + 2 * (m.fs.getD k fi0).lb.length)) := by show _ = _; rw [take_snocF m.fs fi0 k hkl, szF_snoc]
      have HXL : Hid ((head10 m s ++ (m.fs.take k).flatMap wF).length = 10 + szF (m.fs.take k)) := by show _ = _; rw [List.length_append, head10_len, flat_szF]
      have hgs := HG.out.size
      have hub : szF (m.fs.take k) + (4 + 2 * (m.fs.getD k fi0).lb.length) ≤ 78 := by omega
      clear q1 q2 q3 q4 hsz hgs
      generalize szF (m.fs.take k) = M at *
      generalize head10 m s ++ (m.fs.take k).flatMap wF = X at *
      generalize m.fs.getD k fi0 = f at *
      obtain ⟨i, v, lb⟩ := f
      have u1 : 0 ≤ i := HGD.out.1.1
      have u2 : i < 256 := HGD.out.1.2.1
      have u3 : 0 ≤ v := HGD.out.1.2.2.1
      have u4 : v < 65536 := HGD.out.1.2.2.2.1
      obtain ⟨nl, hnl⟩ : ∃ nl, lb.length = nl := ⟨_, rfl⟩
      simp only [hnl] at hub r3 HE2
      simp only at r1 r2
      have HNL := Lib.hid hnl
      clear hnl
      have HS0 := Lib.hid (HR.out.later (sup_pc wr (.cells #[.int .i64 i, .int .i64 v, .slice cc nl cp] FN)))
      have HX0 := Lib.hid (blo_laid wr FN #[.int .i64 i, .int .i64 v, .slice cc nl cp])
      have HGT : Hid (wr.heap.size ≠ w.heap.size + 1) := by have := HR.out.fil.blo.lt; show _ ≠ _; omega
      clear HR
      go_wp2_with fail
      refine (number_int 1 i (w.heap.size + 1) 88 (10 + M) X HS0.out.fil HXL.out.symm (by omega) (by omega) (by omega) (by omega) (by omega)).mono ?_
      rintro e x1 ⟨rfl, hf, hgr⟩
      have HS1 := Lib.hid (HS0.out.put hf hgr)
      have HX1 := Lib.hid (HX0.out.grown hgr (by simpa using HGT.out))
      clear hf hgr HS0 HX0 r1 r2 r3
      have s1 := HX1.out.cell 1
      simp at s1
      go_wp2_with fail
      refine (number_int 2 v (w.heap.size + 1) 88 (10 + M + 1) (X ++ num 1 i.toNat) HS1.out.fil (by simp only [List.length_append, num_len, HXL.out]) (by omega) (by omega) (by omega) (by omega) (by omega)).mono ?_
      rintro e x2 ⟨rfl, hf, hgr⟩
      have HS2 := Lib.hid (HS1.out.put hf hgr)
      have HX2 := Lib.hid (HX1.out.grown hgr (by simpa using HGT.out))
      clear hf hgr HS1 HX1 s1
      have s2 := HX2.out.cell 2
      simp at s2
      go_wp2_with fail
      refine (number_int 1 (nl : Int) (w.heap.size + 1) 88 (10 + M + 1 + 2) (X ++ num 1 i.toNat ++ num 2 v.toNat) HS2.out.fil (by simp only [List.length_append, num_len, HXL.out]) (by omega) (by omega) (by omega) (by omega) (by omega)).mono ?_
      rintro e x3 ⟨rfl, hf, hgr⟩
      have HS3 := Lib.hid (HS2.out.put hf hgr)
      have HX3 := Lib.hid (HX2.out.grown hgr (by simpa using HGT.out))
      clear hf hgr HS2 HX2 s2
      have s3 := HX3.out.cell 2
      simp at s3
      go_wp2_with fail
      go_loopw [5, 9, 62] (fun sl _ t wr => ∃ j : Nat, j ≤ nl ∧ t = .int .i64 j ∧ sl = .slice (some ⟨w.heap.size + 1, 0, none⟩) (10 + M + 1 + 2 + 1 + 2 * j) 88 ∧ Wr w #[.int .i64 m.e, .int .i64 m.c, .int .i64 m.i, .int .i64 m.p, .int .i64 m.x, .slice (some ⟨b, o, none⟩) fn fc, .slice ia inn ic] (X ++ num 1 i.toNat ++ num 2 v.toNat ++ num 1 nl ++ (lb.take j).flatMap wL) wr) (fun _ _ t _ => nl - (intOf t).toNat)
      case atStart => exact ⟨0, Nat.zero_le _, rfl, rfl, by simpa using HS3.out⟩
      case round =>
        clear HS3 HX3 s3
        obtain ⟨j, hj, rfl, rfl, hR⟩ := hrel
        have HR := Lib.hid hR
        clear hR
        by_cases hjl : j < nl
        · have hjl' : j < lb.length := by rw [HNL.out]; exact hjl
          obtain ⟨b2, o2, rfl, hc⟩ := (HQ.out.below HR.out.below) (fun e => by rw [e] at hjl'; cases hjl')
          have t1 := hc j hjl'
          have hb2 := HGD.out.1.2.2.2.2.2 (lb.getD j 0) (by rw [List.getD_eq_getElem?_getD, List.getElem?_eq_getElem hjl']; exact List.getElem_mem hjl')
          have HEj : Hid (X ++ num 1 i.toNat ++ num 2 v.toNat ++ num 1 nl ++ (lb.take (j + 1)).flatMap wL = X ++ num 1 i.toNat ++ num 2 v.toNat ++ num 1 nl ++ (lb.take j).flatMap wL ++ wL (lb.getD j 0)) := by show _ = _; rw [flat_snoc wL lb 0 j hjl', ← List.append_assoc]
          have HYL : Hid ((X ++ num 1 i.toNat ++ num 2 v.toNat ++ num 1 nl ++ (lb.take j).flatMap wL).length = 10 + M + 1 + 2 + 1 + 2 * j) := by
            show _ = _
            simp only [List.length_append, num_len, HXL.out, flat_len wL 2 wL_len, List.length_take, HNL.out]
            omega
          clear hc
          generalize X ++ num 1 i.toNat ++ num 2 v.toNat ++ num 1 nl ++ (lb.take j).flatMap wL = Y at *
          have HWL : Hid (∀ n, wL n = num 2 (n + 1000).toNat) := fun n => rfl
          generalize lb.getD j 0 = z at *
          go_wp2_with fail
          refine (number_int 2 (z + 1000) (w.heap.size + 1) 88 (10 + M + 1 + 2 + 1 + 2 * j) Y HR.out.fil HYL.out.symm (by omega) (by omega) (by omega) (by omega) (by omega)).mono ?_
          rintro e y1 ⟨rfl, hf, hgr⟩
          have HY1 := Lib.hid (HR.out.put hf hgr)
          clear hf hgr HR t1
          go_wp2_with fail
          go_roundw
          case rel => exact ⟨j + 1, by omega, by simp, rfl, by rw [HEj.out]; exact HY1.out⟩
          case measure => simp [intOf]; omega
        · obtain rfl : j = nl := by omega
          have HR2 : Hid (Wr w #[.int .i64 m.e, .int .i64 m.c, .int .i64 m.i, .int .i64 m.p, .int .i64 m.x, .slice (some ⟨b, o, none⟩) fn fc, .slice ia inn ic] (head10 m s ++ (m.fs.take (k + 1)).flatMap wF) wr) := by
            show Wr _ _ _ _
            rw [HE.out]
            have hx := HR.out
            rw [List.take_of_length_le (by rw [HNL.out]; exact Nat.le_refl _)] at hx
            simp only [List.append_assoc] at hx
            unfold wF
            simp only [List.append_assoc, HNL.out]
            exact hx
          clear HR
          go_wp2_with fail
          go_roundw
          case rel => exact ⟨k + 1, by omega, by simp, by rw [HE2.out]; congr 1; omega, HR2.out⟩
          case measure => simp [intOf]; omega
    · have hkn : m.fs.take k = m.fs := by rw [List.take_of_length_le]; have := HN.out; omega
      have hgs := HG.out.size
      have HR2 : Hid (Wr w #[.int .i64 m.e, .int .i64 m.c, .int .i64 m.i, .int .i64 m.p, .int .i64 m.x, .slice fa fn fc, .slice ia inn ic] (head10 m s ++ m.fs.flatMap wF) wr) := by
        have := HR.out
        rw [hkn] at this
        exact this
      simp only [hkn]
      have e6 := HR2.out.top.cell 6
      simp at e6
      have HSL : Hid ((head10 m s ++ m.fs.flatMap wF).length = 10 + szF m.fs) := by show _ = _; rw [List.length_append, head10_len, flat_szF]
      have hSb : szF m.fs + inn ≤ 78 := by have := HIN.out; omega
      clear HR hkn hgs
      generalize szF m.fs = S at *
      go_wp2_with fail
      go_loopw [5, 11, 75] (fun sl _ t wr => ∃ j : Nat, j ≤ inn ∧ t = .int .i64 j ∧ sl = .slice (some ⟨w.heap.size + 1, 0, none⟩) (10 + S + j) 88 ∧ Wr w #[.int .i64 m.e, .int .i64 m.c, .int .i64 m.i, .int .i64 m.p, .int .i64 m.x, .slice fa fn fc, .slice ia inn ic] (head10 m s ++ m.fs.flatMap wF ++ (m.is.take j).flatMap wI) wr) (fun _ _ t _ => inn - (intOf t).toNat)
      case atStart => exact ⟨0, Nat.zero_le _, rfl, rfl, by simpa using HR2.out⟩
      case round =>
        clear HR2 e6
        obtain ⟨j, hj, rfl, rfl, hR⟩ := hrel
        have HR := Lib.hid hR
        clear hR
        by_cases hjl : j < inn
        · have hjl' : j < m.is.length := by rw [← HIN.out]; exact hjl
          obtain ⟨b2, o2, rfl, hc⟩ := (HI.out.below HR.out.below) (fun e => by rw [e] at hjl'; cases hjl')
          have t1 := hc j hjl'
          have hb2 := out_yes (HG.out.is (m.is.getD j 0) (by rw [List.getD_eq_getElem?_getD, List.getElem?_eq_getElem hjl']; exact List.getElem_mem hjl'))
          have HEj : Hid (head10 m s ++ m.fs.flatMap wF ++ (m.is.take (j + 1)).flatMap wI = head10 m s ++ m.fs.flatMap wF ++ (m.is.take j).flatMap wI ++ wI (m.is.getD j 0)) := by show _ = _; rw [flat_snoc wI m.is 0 j hjl', ← List.append_assoc]
          have HYL : Hid ((head10 m s ++ m.fs.flatMap wF ++ (m.is.take j).flatMap wI).length = 10 + S + j) := by
            show _ = _
            rw [List.length_append, HSL.out, flat_len wI 1 wI_len, List.length_take, ← HIN.out]
            omega
          clear hc
          generalize head10 m s ++ m.fs.flatMap wF ++ (m.is.take j).flatMap wI = Y at *
          generalize m.is.getD j 0 = z at *
          go_wp2_with fail
          refine (number_int 1 z (w.heap.size + 1) 88 (10 + S + j) Y HR.out.fil HYL.out.symm (by omega) (by omega) (by omega) (by omega) (by omega)).mono ?_
          rintro e y1 ⟨rfl, hf, hgr⟩
          have HY1 := Lib.hid (HR.out.put hf hgr)
          clear hf hgr HR t1
          go_wp2_with fail
          go_roundw
          case rel => exact ⟨j + 1, by omega, by simp, rfl, by rw [HEj.out]; exact HY1.out⟩
          case measure => simp [intOf]; omega
        · obtain rfl : j = inn := by omega
          have HR3 : Hid (Fil wr (w.heap.size + 1) 88 (wds m s) ∧ Below w.heap.size w wr) := by
            have hx := HR.out
            rw [List.take_of_length_le (by rw [← HIN.out]; exact Nat.le_refl _)] at hx
            exact ⟨by rw [wds_head]; exact hx.fil, hx.below⟩
          have hcut := fun W => cut_88 (w.heap.size + 1) (10 + S + j) W
          clear HR
          go_wp2
          go_ret
          exact ⟨_, rfl, by omega, HR3.out.1, HR3.out.2⟩
end Go.Proofs.Ytkdjfhbdcfjnnaa
