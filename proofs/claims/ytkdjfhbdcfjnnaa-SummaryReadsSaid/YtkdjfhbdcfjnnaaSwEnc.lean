/-
  summary.Encode: a summary's block, or what is wrong with it.
-/
import Derived.Test.YtkdjfhbdcfjnnaaSwEncM
import Derived.Deep.DeepCutAuto
namespace Go.Proofs.Ytkdjfhbdcfjnnaa
open Go.RowKit

attribute [local go_sem] Oper.semAt_some

theorem make128 : ∀ W : World, (Instr.makeSlice 30 (.int .i64 0) (.int .i64 128)).run Try.prog W = .ok (.slice (some ⟨W.heap.size, 0, none⟩) 0 128) (W.alloc (.cells (cellsB (zpad 128 [])).toArray U8)) := fun _ => by kernel_rfl
theorem lb_min {m : Sm} (hg : Good m) : ∀ x ∈ m.fs, ∀ n ∈ x.lb, -9223372036854775808 ≤ n := fun x hx n hn => by
  have := ((goodF_of (hg.fs x hx)).1.2.2.2.2.2 n hn).1
  omega
set_option maxRecDepth 100000 in
set_option maxHeartbeats 4000000 in
theorem encode_good {w : World} (m : Sm) (s : Nat) (fa : Option Addr) (fn fc : Nat) (ia : Option Addr) (inn ic : Nat) (hchk : chkM m = 0) (hF : Fis w fa m.fs) (hn : fn = m.fs.length) (hI : Ints w ia m.is) (hin : inn = m.is.length) (hs : s < 4294967296) :
    Calls Try.prog 12 #[part m.e m.c m.i m.p m.x fa fn fc ia inn ic, .int .u32 s] w fun e w' => ∃ g, e = .returned (.tuple #[.slice (some ⟨g, 0, none⟩) 128 128, .int .i64 0]) ∧ w.heap.size ≤ g ∧ Fil w' g 128 (encM m s) ∧ Below w.heap.size w w' := by
  have hg := good_of hchk
  have HG := Lib.hid hg
  have HF := Lib.hid hF
  have HI := Lib.hid hI
  have HN := Lib.hid hn
  have HIN := Lib.hid hin
  have hsz := hg.size
  have hfn : fn ≤ 22 := by have := len_szF m.fs; omega
  have hinn : inn ≤ 78 := by omega
  have hm128 := make128
  have HX := Lib.hid (blo_laid w 25 #[.int .i64 m.e, .int .i64 m.c, .int .i64 m.i, .int .i64 m.p, .int .i64 m.x, .slice fa fn fc, .slice ia inn ic])
  have HC := Lib.hid (fun W (hW : Below w.heap.size w W) => check_any (w := W) m.e m.c m.i m.p m.x m.fs m.is fa fn fc ia inn ic (hF.later hW) hn (by omega) (hI.below hW) hin (by omega) (lb_min hg))
  have HK := Lib.hid (show chkC m.e m.c m.i m.p m.x m.fs m.is = 0 from hchk)
  clear hF hI hn hin hg hsz hchk
  refine (callsIn_wide (n := 6)).1 ?_
  refine callsIn_of_wp_marks Try.func12 rfl trivial ?_ rfl
  simp only [Try.ntmps12, List.size_toArray, List.length_cons, List.length_nil, Nat.reduceAdd, Nat.reduceSub, Array.replicate_succ, Array.replicate_zero, List.push_toArray, List.append_toArray, List.nil_append, List.cons_append]
  refine wpIn_wide.2 ?_
  go_wp2_with fail
  refine (HC.out _ (sup_pc _ _)).mono ?_
  rintro e w1 ⟨rfl, hb1⟩
  have HB1 := Lib.hid ((sup_pc w (.cells #[.int .i64 m.e, .int .i64 m.c, .int .i64 m.i, .int .i64 m.p, .int .i64 m.x, .slice fa fn fc, .slice ia inn ic] 25)).trans (hb1.mono (sup_pc _ _).size))
  have HX1 := Lib.hid (HX.out.later hb1)
  have hl1 : w.heap.size < w1.heap.size := HX1.out.lt
  have c0 := HX1.out.cell 0
  have c1 := HX1.out.cell 1
  have c2 := HX1.out.cell 2
  have c3 := HX1.out.cell 3
  have c4 := HX1.out.cell 4
  have c5 := HX1.out.cell 5
  have c6 := HX1.out.cell 6
  simp at c0 c1 c2 c3 c4 c5 c6
  rw [HK.out]
  clear hb1 HC HK c1 c2 c3 c4 c5 c6
  go_upto_region 6 with (fail)
  obtain ⟨W3, hW3⟩ : ∃ W3, ((w1.alloc (.cells (cellsB (zpad 128 [])).toArray U8)).alloc (.cells #[.slice (some ⟨w1.heap.size, 0, none⟩) 0 128] 30)).alloc (.cells #[.int .i64 0] 3) = W3 := ⟨_, rfl⟩
  have hs3 : W3.heap.size = w1.heap.size + 3 := by rw [← hW3]; simp
  have hb3 : Below w1.heap.size w1 W3 := by
    rw [← hW3]
    exact ((sup_pc w1 _).trans ((sup_pc _ _).mono (by simp))).trans ((sup_pc _ _).mono (by simp; omega))
  have HF3 : Hid (Fil W3 w1.heap.size 128 [] ∧ Blo W3 (w1.heap.size + 1) 30 #[.slice (some ⟨w1.heap.size, 0, none⟩) 0 128] ∧ Blo W3 (w1.heap.size + 2) 3 #[.int .i64 0]) := by
    rw [← hW3]
    refine ⟨⟨by decide, (fun x hx => by cases hx), ((blo_laid w1 U8 _).later (sup_pc _ _)).later (sup_pc _ _)⟩, ?_, ?_⟩
    · have := blo_laid (w1.alloc (.cells (cellsB (zpad 128 [])).toArray U8)) 30 #[.slice (some ⟨w1.heap.size, 0, none⟩) 0 128]
      rw [World.size_alloc] at this
      exact this.later (sup_pc _ _)
    · have := blo_laid ((w1.alloc (.cells (cellsB (zpad 128 [])).toArray U8)).alloc (.cells #[.slice (some ⟨w1.heap.size, 0, none⟩) 0 128] 30)) 3 #[.int .i64 0]
      rw [World.size_alloc, World.size_alloc] at this
      exact this
  rw [hW3]
  have HX3 := Lib.hid (HX1.out.later hb3)
  have HB3 := Lib.hid (HB1.out.trans (hb3.mono HB1.out.size))
  clear hW3 hb3 HX1 HB1 c0
  generalize w1.heap.size = g at *
  have c0 := HX3.out.cell 0
  have c1 := HX3.out.cell 1
  have c2 := HX3.out.cell 2
  have c3 := HX3.out.cell 3
  have c4 := HX3.out.cell 4
  have c5 := HX3.out.cell 5
  have c6 := HX3.out.cell 6
  simp at c0 c1 c2 c3 c4 c5 c6
  go_wp2_with fail
  refine (words_any m s fa fn fc ia inn ic HG.out (HF.out.later HB3.out) HN.out (HI.out.below HB3.out) HIN.out hs).mono ?_
  rintro e w2 ⟨bw, rfl, hlw, hfw, hb2⟩
  have HE2 := Lib.hid (show Er w #[.int .i64 m.e, .int .i64 m.c, .int .i64 m.i, .int .i64 m.p, .int .i64 m.x, .slice fa fn fc, .slice ia inn ic] g (.slice (some ⟨g, 0, none⟩) 0 128) (.int .i64 0) [] bw (wds m s) w2 from
    ⟨HX3.out.later hb2, HF3.out.1.later hb2, HF3.out.2.1.later hb2, HF3.out.2.2.later hb2, hfw, HB3.out.trans (hb2.mono HB3.out.size), hl1, by omega⟩)
  have hl2 : g + 2 < bw := by omega
  clear hlw hfw hb2 HX3 HF3 HB3 c0 c1 c2 c3 c4 c5 c6 hs3
  go_wp2_with fail
  refine (chunk_any (some ⟨bw, 0, none⟩) 88 88 11 (by decide) w2).mono ?_
  rintro e w3 ⟨rfl, rfl⟩
  go_wp2_with fail
  have hW88 : (zpad 88 (wds m s)).length = 88 := zpad_len (by rw [wds_len]; have := HG.out.size; omega)
  have HW := Lib.hid hW88
  have hbw : bw < w2.heap.size := HE2.out.wd.blo.lt
  have hB1 := (blo_laid w2 30 #[.slice (some ⟨bw, 0, none⟩) 88 88]).later (sup_pc (w2.alloc (.cells #[.slice (some ⟨bw, 0, none⟩) 88 88] 30)) (.cells #[.int .i64 11] 3))
  have hB2 := blo_laid (w2.alloc (.cells #[.slice (some ⟨bw, 0, none⟩) 88 88] 30)) 3 #[.int .i64 11]
  rw [World.size_alloc] at hB2
  have hE4 := (HE2.out.later (sup_pc w2 (.cells #[.slice (some ⟨bw, 0, none⟩) 88 88] 30))).later (sup_pc _ (.cells #[.int .i64 11] 3))
  have hs4 : ((w2.alloc (.cells #[.slice (some ⟨bw, 0, none⟩) 88 88] 30)).alloc (.cells #[.int .i64 11] 3)).heap.size = w2.heap.size + 2 := by simp
  generalize ((w2.alloc (.cells #[.slice (some ⟨bw, 0, none⟩) 88 88] 30)).alloc (.cells #[.int .i64 11] 3)) = W4 at *
  clear HE2 hW88
  have hw4 : w.heap.size ≤ W4.heap.size := hE4.below.size
  generalize w2.heap.size = Bs at *
  refine (wpIn_wide (n := 6)).1 ?_
  refine wpIn_rangeFunc_ownF rfl (by decide) (gf := 39) (lb := #[.pointer (some ⟨Bs, 0, none⟩), .pointer (some ⟨Bs + 1, 0, none⟩)]) rfl trivial (enters_of Try.func39 (by kernel_rfl) rfl)
    (chunk_stops 5 (by decide) Bs bw 0 11 8 88 88 (by decide) (by decide) (by decide) (by decide) W4 hB1 hB2) (fun h k => Kc.trans h k) (Kc.put (by omega)) (Below.refl _ _) (fun _ => rfl)
    (fun (pre : List (Fin 8)) W => Er w #[.int .i64 m.e, .int .i64 m.c, .int .i64 m.i, .int .i64 m.p, .int .i64 m.x, .slice fa fn fc, .slice ia inn ic] g (.slice (some ⟨g, 0, none⟩) (16 * pre.length) 128) (.int .i64 (pre.length : Nat)) (accM m.e m.c (zpad 88 (wds m s)) (pre.map fun (y : Fin 8) => y.val)) bw (wds m s) W ∧ W4.heap.size ≤ W.heap.size)
    (fun _ _ _ => False)
    (fun s A B row hs hg hr => ⟨er_own (s := W4.heap.size) hw4 hs.1 hg hr, Nat.le_trans hs.2 hg.size⟩)
    (fun _ _ _ _ _ hs _ _ => hs)
    ⟨hE4, Nat.le_refl _⟩
    (fun x => { tmps := #[part m.e m.c m.i m.p m.x fa fn fc ia inn ic, .int .u32 s, .pointer (some ⟨w.heap.size, 0, none⟩), undef, .slice none 0 0, .int .i64 0, .int .i64 0, .pointer (some ⟨g + 1, 0, none⟩), .pointer (some ⟨g + 1 + 1, 0, none⟩), Value.slice (some ⟨bw, 11 * x.val, none⟩) 11 11, .agg #[.int .i64 m.e, .int .i64 m.c, .int .i64 m.i, .int .i64 m.p, .int .i64 m.x, .slice fa fn fc, .slice ia inn ic], .int .i64 0, .int .i64 0, .bool false, undef, .slice (some ⟨g, 0, none⟩) 0 128, .agg #[.int .i64 m.e, .int .i64 m.c, .int .i64 m.i, .int .i64 m.p, .int .i64 m.x, .slice fa fn fc, .slice ia inn ic], .int .u32 s, .slice (some ⟨bw, 0, none⟩) 88 88, .func (.func 39) #[] #[.pointer (some ⟨Bs, 0, none⟩), .pointer (some ⟨Bs + 1, 0, none⟩)], Value.slice (some ⟨bw, 11 * x.val, none⟩) 11 11, undef, undef, undef, undef, undef, undef, undef, undef, undef, undef, undef, undef, undef, undef, undef, undef, undef], defers := [] }) ?assign ?body ?done ?stop
  case assign =>
    intro l x W K hK
    gi_wp2
    exact hK
  case body =>
    rintro l pre x W ⟨hE, hsW⟩ hlen
    have HE := Lib.hid hE
    have HA := Lib.hid (accM_snoc m.e m.c (zpad 88 (wds m s)) (pre.map (·.val)) x.val)
    have HAL := Lib.hid (accM_len m.e m.c HW.out pre)
    have HML : Hid ((pre.map (·.val)).length = pre.length) := List.length_map ..
    have hx8 : x.val < 8 := x.2
    have HME : Hid (pre.map (·.val) ++ [x.val] = (pre ++ [x]).map (·.val)) := by show _ = _; rw [List.map_append]; rfl
    have HPL : Hid ((pre ++ [x]).length = pre.length + 1) := by show _ = _; simp
    have hwl : bw < W.heap.size := hE.wd.blo.lt
    have hBl : Bs + 1 < W.heap.size := by omega
    have hg1 := HG.out.e
    have hg2 := HG.out.c
    have a1 : 0 ≤ m.e := hg1.1
    have a2 : m.e ≤ 65535 := hg1.2
    have a3 : 0 ≤ m.c := hg2.1
    have a4 : m.c ≤ 65535 := hg2.2
    have c0 := hE.top.cell 0
    have cb := hE.bx.cell 0
    have fb := hE.bx.frozen 0
    simp at c0 cb
    rw [HML.out] at HA
    clear hE hg1 hg2 hB1 hB2 hE4
    generalize accM m.e m.c (zpad 88 (wds m s)) (pre.map (·.val)) = A at *
    generalize pre.length = L at *
    gi_wp2_with fail
    refine ⟨trivial, (CallsIn.inRound l (callsIn_wide.2 (number_int 2 m.e g 128 (16 * L) A HE.out.fil HAL.out.symm (by omega) (by omega) (by omega) (by omega) (by omega)))).mono ?_⟩
    rintro e x1 ⟨rfl, hf, hgr⟩
    have HK1 := Lib.hid (Kr.fill (B := Bs) (by omega) hBl HE.out.fil hgr)
    have HE1 := Lib.hid (HE.out.fill hf hgr)
    have z1 : W.heap.size ≤ x1.heap.size := hgr.size
    clear hf hgr HE c0 cb fb
    have cb := HE1.out.bx.cell 0
    have fb := HE1.out.bx.frozen 0
    have c1 := HE1.out.top.cell 1
    simp at cb c1
    have HE2 := Lib.hid (HE1.out.box (.slice (some ⟨g, 0, none⟩) (16 * L + 2) 128))
    have HK2 := Lib.hid (HK1.out.trans (Kr.set (B := Bs) (k := g + 1) (by omega) x1 (.slice (some ⟨g, 0, none⟩) (16 * L + 2) 128)))
    gi_wp2_with fail
    refine ⟨trivial, (CallsIn.inRound l (callsIn_wide.2 (number_int 2 m.c g 128 (16 * L + 2) (A ++ num 2 m.e.toNat) HE2.out.fil (by rw [List.length_append, num_len, HAL.out]) (by omega) (by omega) (by omega) (by omega) (by omega)))).mono ?_⟩
    rintro e x2 ⟨rfl, hf, hgr⟩
    have z2 : x1.heap.size ≤ x2.heap.size := by have := hgr.size; rwa [World.size_setCell] at this
    have HK3 := Lib.hid (HK2.out.trans (Kr.fill (B := Bs) (by omega) (by rw [World.size_setCell]; omega) HE2.out.fil hgr))
    have HE3 := Lib.hid (HE2.out.fill hf hgr)
    clear hf hgr HE1 HE2 HK1 HK2 c1 cb fb
    have cb := HE3.out.bx.cell 0
    have fb := HE3.out.bx.frozen 0
    have c2 := HE3.out.pl.cell 0
    simp at cb c2
    have HE4 := Lib.hid (HE3.out.box (.slice (some ⟨g, 0, none⟩) (16 * L + 2 + 2) 128))
    have HK4 := Lib.hid (HK3.out.trans (Kr.set (B := Bs) (k := g + 1) (by omega) x2 (.slice (some ⟨g, 0, none⟩) (16 * L + 2 + 2) 128)))
    gi_wp2_with fail
    refine ⟨trivial, (CallsIn.inRound l (callsIn_wide.2 (number_int 1 (L : Int) g 128 (16 * L + 2 + 2) (A ++ num 2 m.e.toNat ++ num 2 m.c.toNat) HE4.out.fil (by simp only [List.length_append, num_len, HAL.out]) (by omega) (by omega) (by omega) (by omega) (by omega)))).mono ?_⟩
    rintro e x3 ⟨rfl, hf, hgr⟩
    have z3 : x2.heap.size ≤ x3.heap.size := by have := hgr.size; rwa [World.size_setCell] at this
    have HK5 := Lib.hid (HK4.out.trans (Kr.fill (B := Bs) (by omega) (by rw [World.size_setCell]; omega) HE4.out.fil hgr))
    have HE5 := Lib.hid (HE4.out.fill hf hgr)
    clear hf hgr HE3 HE4 HK3 HK4 c2 cb fb
    have cb := HE5.out.bx.cell 0
    have fb := HE5.out.bx.frozen 0
    simp at cb
    have HE6 := Lib.hid (HE5.out.box (.slice (some ⟨g, 0, none⟩) (16 * L + 2 + 2 + 1) 128))
    have HK6 := Lib.hid (HK5.out.trans (Kr.set (B := Bs) (k := g + 1) (by omega) x3 (.slice (some ⟨g, 0, none⟩) (16 * L + 2 + 2 + 1) 128)))
    have HZ : Hid (((zpad 88 (wds m s)).drop (11 * x.val)).take 11 ≠ [] ∧ 11 = (((zpad 88 (wds m s)).drop (11 * x.val)).take 11).length) := by
      have hlw := HW.out
      have : 11 = (((zpad 88 (wds m s)).drop (11 * x.val)).take 11).length := by rw [List.length_take, List.length_drop, hlw]; omega
      exact ⟨(fun e => by rw [e] at this; cases this), this⟩
    gi_wp2_with (gi_at_builtin; refine wpListIn_append_fil rfl (.tmp 32) (.tmp 33) 30 rfl Try.underlying30 info_u8 g 128 (16 * L + 2 + 2 + 1) (A ++ num 2 m.e.toNat ++ num 2 m.c.toNat ++ num 1 L) rfl (by simp only [List.length_append, num_len, HAL.out]) HE6.out.fil (some ⟨bw, 11 * x.val, none⟩) 11 11 (((zpad 88 (wds m s)).drop (11 * x.val)).take 11) rfl HZ.out.2 (fil_part HE6.out.wd (by decide) (11 * x.val) 11 (by omega)) HZ.out.1 (by omega) ?_; intro x4 hf hgr; have HK7 := Lib.hid (HK6.out.trans (Kr.fill (B := Bs) (by omega) (by rw [World.size_setCell]; omega) HE6.out.fil hgr)); have z4 : x3.heap.size ≤ x4.heap.size := (by have := hgr.size; rwa [World.size_setCell] at this); have HE7 := Lib.hid (HE6.out.fill hf hgr); clear hf hgr HE5 HE6 HK5 HK6 cb fb; have cb := HE7.out.bx.cell 0; have fb := HE7.out.bx.frozen 0; have cp := HE7.out.pl.cell 0; have fp := HE7.out.pl.frozen 0; simp at cb cp)
    have HE8 := (HE7.out.box (.slice (some ⟨g, 0, none⟩) (16 * L + 2 + 2 + 1 + 11) 128)).plc (.int .i64 ((L : Int) + 1))
    have HK8 := (HK7.out.trans (Kr.set (B := Bs) (k := g + 1) (by omega) x4 (.slice (some ⟨g, 0, none⟩) (16 * L + 2 + 2 + 1 + 11) 128))).trans (Kr.set (B := Bs) (k := g + 2) (by omega) _ (.int .i64 ((L : Int) + 1)))
    refine ⟨HK8.1, HK8.2, ?_, by simp only [World.size_setCell]; omega⟩
    rw [HPL.out, ← HME.out, HA.out]
    have e1 : 16 * (L + 1) = 16 * L + 2 + 2 + 1 + 11 := by omega
    rw [e1, Int.natCast_add]
    exact HE8
  case done =>
    rintro D ys W hD hys ⟨hE, hsW⟩ hK
    have hbx := hE.bx.cell 0
    simp at hbx
    have hl8 : ys.length = 8 := by have := congrArg List.length hys; simpa using this
    have hfin := hE.fil
    rw [hys, accM_range] at hfin
    rw [hl8] at hbx
    have HFin := Lib.hid (show Fil W g 128 (encM m s) from hfin)
    have HBl := Lib.hid hE.below
    clear hE hfin hys hl8
    go_wp2
    refine ⟨by simp, .inl ⟨_, _, rfl, run_takeDeferred hK, ?_⟩⟩
    refine ⟨.tuple #[.slice (some ⟨g, 0, none⟩) 128 128, .int .i64 0], by simp [results, Try.f12, go_sem], g, rfl, by omega, fil_own HFin.out (grownBy_putObj' _ D (.deferred none)) (fun r e => by cases e; exact ⟨_, hK, rfl⟩), HBl.out.trans (belowK_b (w := w) (Nat.le_refl _) W D _ _ (by omega) hK rfl rfl)⟩
  case stop =>
    rintro D c pre W _ _ h _
    exact h.elim
end Go.Proofs.Ytkdjfhbdcfjnnaa
