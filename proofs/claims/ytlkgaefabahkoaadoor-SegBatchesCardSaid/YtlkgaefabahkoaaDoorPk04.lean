/-
  SwEnc · SgWrt · Row · ApRow · OwnPart · SgGet · SwTake · SwGath: these texts in one.
-/
import Derived.Test.YtlkgaefabahkoaaDoorPk03
import Derived.Deep.DeepCutAuto
import Derived.Test.YtlkgaefabahkoaaDoorPk02
import Derived.Deep.RegionHeld3
import Derived.Deep.RegionWith
import Derived.Test.YtlkgaefabahkoaaDoorPk00
import Derived.Laws.AppendOwnNone
import Derived.OwnWalk
import Derived.Maps.AppendAt
import Derived.RegionTactic
import Derived.Test.YtlkgaefabahkoaaDoorPk01
import Derived.Deep.RegionLaw
import Derived.BigRegion
import Derived.RangeFuncOwn
/-
  summary.Encode: a summary's block, or what is wrong with it.
-/
namespace Go.Proofs.YtlkgaefabahkoaaDoor
open Go.RowKit

attribute [local go_sem] Oper.semAt_some

theorem make128 : ∀ W : World, (Instr.makeSlice 49 (.int .i64 0) (.int .i64 128)).run Tryd.prog W = .ok (.slice (some ⟨W.heap.size, 0, none⟩) 0 128) (W.alloc (.cells (cellsB (zpad 128 [])).toArray U8)) := fun _ => by kernel_rfl
theorem lb_min {m : Sm} (hg : Good m) : ∀ x ∈ m.fs, ∀ n ∈ x.lb, -9223372036854775808 ≤ n := fun x hx n hn => by
  have := ((goodF_of (hg.fs x hx)).1.2.2.2.2.2 n hn).1
  omega
set_option maxRecDepth 100000 in
set_option maxHeartbeats 4000000 in
theorem encode_good {w : World} (m : Sm) (s : Nat) (fa : Option Addr) (fn fc : Nat) (ia : Option Addr) (inn ic : Nat) (hchk : chkM m = 0) (hF : Fis w fa m.fs) (hn : fn = m.fs.length) (hI : Ints w ia m.is) (hin : inn = m.is.length) (hs : s < 4294967296) :
    Calls Tryd.prog 50 #[part m.e m.c m.i m.p m.x fa fn fc ia inn ic, .int .u32 s] w fun e w' => ∃ g, e = .returned (.tuple #[.slice (some ⟨g, 0, none⟩) 128 128, .int .i64 0]) ∧ w.heap.size ≤ g ∧ Fil w' g 128 (encM m s) ∧ Below w.heap.size w w' := by
  have hg := good_of hchk
  have HG := Lib.hid hg
  have HF := Lib.hid hF
  have HI := Lib.hid hI
  have HN := Lib.hid hn
  have HIN := Lib.hid hin
  have hsz := hg.size
  have hfn : fn ≤ 22 := by have := len_szF m.fs; omega
  have hinn : inn ≤ 78 := by omega
  have hm128 := make128
  have HX := Lib.hid (blo_laid w 36 #[.int .i64 m.e, .int .i64 m.c, .int .i64 m.i, .int .i64 m.p, .int .i64 m.x, .slice fa fn fc, .slice ia inn ic])
  have HC := Lib.hid (fun W (hW : Below w.heap.size w W) => check_any (w := W) m.e m.c m.i m.p m.x m.fs m.is fa fn fc ia inn ic (hF.later hW) hn (by omega) (hI.below hW) hin (by omega) (lb_min hg))
  have HK := Lib.hid (show chkC m.e m.c m.i m.p m.x m.fs m.is = 0 from hchk)
  clear hF hI hn hin hg hsz hchk
  refine (callsIn_wide (n := 6)).1 ?_
  refine callsIn_of_wp_marks Tryd.func50 rfl trivial ?_ rfl
  simp only [Tryd.ntmps50, List.size_toArray, List.length_cons, List.length_nil, Nat.reduceAdd, Nat.reduceSub, Array.replicate_succ, Array.replicate_zero, List.push_toArray, List.append_toArray, List.nil_append, List.cons_append]
  refine wpIn_wide.2 ?_
  go_wp2_with fail
  refine (HC.out _ (sup_pc _ _)).mono ?_
  rintro e w1 ⟨rfl, hb1⟩
  have HB1 := Lib.hid ((sup_pc w (.cells #[.int .i64 m.e, .int .i64 m.c, .int .i64 m.i, .int .i64 m.p, .int .i64 m.x, .slice fa fn fc, .slice ia inn ic] 36)).trans (hb1.mono (sup_pc _ _).size))
  have HX1 := Lib.hid (HX.out.later hb1)
  have hl1 : w.heap.size < w1.heap.size := HX1.out.lt
  have c0 := HX1.out.cell 0
  have c1 := HX1.out.cell 1
  have c2 := HX1.out.cell 2
  have c3 := HX1.out.cell 3
  have c4 := HX1.out.cell 4
  have c5 := HX1.out.cell 5
  have c6 := HX1.out.cell 6
  simp at c0 c1 c2 c3 c4 c5 c6
  rw [HK.out]
  clear hb1 HC HK c1 c2 c3 c4 c5 c6
  go_upto_region 6 with (fail)
  obtain ⟨W3, hW3⟩ : ∃ W3, ((w1.alloc (.cells (cellsB (zpad 128 [])).toArray U8)).alloc (.cells #[.slice (some ⟨w1.heap.size, 0, none⟩) 0 128] 49)).alloc (.cells #[.int .i64 0] 3) = W3 := ⟨_, rfl⟩
  have hs3 : W3.heap.size = w1.heap.size + 3 := by rw [← hW3]; simp
  have hb3 : Below w1.heap.size w1 W3 := by
    rw [← hW3]
    exact ((sup_pc w1 _).trans ((sup_pc _ _).mono (by simp))).trans ((sup_pc _ _).mono (by simp; omega))
  have HF3 : Hid (Fil W3 w1.heap.size 128 [] ∧ Blo W3 (w1.heap.size + 1) 49 #[.slice (some ⟨w1.heap.size, 0, none⟩) 0 128] ∧ Blo W3 (w1.heap.size + 2) 3 #[.int .i64 0]) := by
    rw [← hW3]
    refine ⟨⟨by decide, (fun x hx => by cases hx), ((blo_laid w1 U8 _).later (sup_pc _ _)).later (sup_pc _ _)⟩, ?_, ?_⟩
    · have := blo_laid (w1.alloc (.cells (cellsB (zpad 128 [])).toArray U8)) 49 #[.slice (some ⟨w1.heap.size, 0, none⟩) 0 128]
      rw [World.size_alloc] at this
      exact this.later (sup_pc _ _)
    · have := blo_laid ((w1.alloc (.cells (cellsB (zpad 128 [])).toArray U8)).alloc (.cells #[.slice (some ⟨w1.heap.size, 0, none⟩) 0 128] 49)) 3 #[.int .i64 0]
      rw [World.size_alloc, World.size_alloc] at this
      exact this
  rw [hW3]
  have HX3 := Lib.hid (HX1.out.later hb3)
  have HB3 := Lib.hid (HB1.out.trans (hb3.mono HB1.out.size))
  clear hW3 hb3 HX1 HB1 c0
  generalize w1.heap.size = g at *
  have c0 := HX3.out.cell 0
  have c1 := HX3.out.cell 1
  have c2 := HX3.out.cell 2
  have c3 := HX3.out.cell 3
  have c4 := HX3.out.cell 4
  have c5 := HX3.out.cell 5
  have c6 := HX3.out.cell 6
  simp at c0 c1 c2 c3 c4 c5 c6
  go_wp2_with fail
  refine (words_any m s fa fn fc ia inn ic HG.out (HF.out.later HB3.out) HN.out (HI.out.below HB3.out) HIN.out hs).mono ?_
  rintro e w2 ⟨bw, rfl, hlw, hfw, hb2⟩
  have HE2 := Lib.hid (show Er w #[.int .i64 m.e, .int .i64 m.c, .int .i64 m.i, .int .i64 m.p, .int .i64 m.x, .slice fa fn fc, .slice ia inn ic] g (.slice (some ⟨g, 0, none⟩) 0 128) (.int .i64 0) [] bw (wds m s) w2 from
    ⟨HX3.out.later hb2, HF3.out.1.later hb2, HF3.out.2.1.later hb2, HF3.out.2.2.later hb2, hfw, HB3.out.trans (hb2.mono HB3.out.size), hl1, by omega⟩)
  have hl2 : g + 2 < bw := by omega
  clear hlw hfw hb2 HX3 HF3 HB3 c0 c1 c2 c3 c4 c5 c6 hs3
  go_wp2_with fail
  refine (chunk_any (some ⟨bw, 0, none⟩) 88 88 11 (by decide) w2).mono ?_
  rintro e w3 ⟨rfl, rfl⟩
  go_wp2_with fail
  have hW88 : (zpad 88 (wds m s)).length = 88 := zpad_len (by rw [wds_len]; have := HG.out.size; omega)
  have HW := Lib.hid hW88
  have hbw : bw < w2.heap.size := HE2.out.wd.blo.lt
  have hB1 := (blo_laid w2 49 #[.slice (some ⟨bw, 0, none⟩) 88 88]).later (sup_pc (w2.alloc (.cells #[.slice (some ⟨bw, 0, none⟩) 88 88] 49)) (.cells #[.int .i64 11] 3))
  have hB2 := blo_laid (w2.alloc (.cells #[.slice (some ⟨bw, 0, none⟩) 88 88] 49)) 3 #[.int .i64 11]
  rw [World.size_alloc] at hB2
  have hE4 := (HE2.out.later (sup_pc w2 (.cells #[.slice (some ⟨bw, 0, none⟩) 88 88] 49))).later (sup_pc _ (.cells #[.int .i64 11] 3))
  have hs4 : ((w2.alloc (.cells #[.slice (some ⟨bw, 0, none⟩) 88 88] 49)).alloc (.cells #[.int .i64 11] 3)).heap.size = w2.heap.size + 2 := by simp
  generalize ((w2.alloc (.cells #[.slice (some ⟨bw, 0, none⟩) 88 88] 49)).alloc (.cells #[.int .i64 11] 3)) = W4 at *
  clear HE2 hW88
  have hw4 : w.heap.size ≤ W4.heap.size := hE4.below.size
  generalize w2.heap.size = Bs at *
  refine (wpIn_wide (n := 6)).1 ?_
  refine wpIn_rangeFunc_ownF rfl (by decide) (gf := 98) (lb := #[.pointer (some ⟨Bs, 0, none⟩), .pointer (some ⟨Bs + 1, 0, none⟩)]) rfl trivial (enters_of Tryd.func98 (by kernel_rfl) rfl)
    (chunk_stops 5 (by decide) Bs bw 0 11 8 88 88 (by decide) (by decide) (by decide) (by decide) W4 hB1 hB2) (fun h k => Kc.trans h k) (Kc.put (by omega)) (Below.refl _ _) (fun _ => rfl)
    (fun (pre : List (Fin 8)) W => Er w #[.int .i64 m.e, .int .i64 m.c, .int .i64 m.i, .int .i64 m.p, .int .i64 m.x, .slice fa fn fc, .slice ia inn ic] g (.slice (some ⟨g, 0, none⟩) (16 * pre.length) 128) (.int .i64 (pre.length : Nat)) (accM m.e m.c (zpad 88 (wds m s)) (pre.map fun (y : Fin 8) => y.val)) bw (wds m s) W ∧ W4.heap.size ≤ W.heap.size)
    (fun _ _ _ => False)
    (fun s A B row hs hg hr => ⟨er_own (s := W4.heap.size) hw4 hs.1 hg hr, Nat.le_trans hs.2 hg.size⟩)
    (fun _ _ _ _ _ hs _ _ => hs)
    ⟨hE4, Nat.le_refl _⟩
    (fun x => { tmps := #[part m.e m.c m.i m.p m.x fa fn fc ia inn ic, .int .u32 s, .pointer (some ⟨w.heap.size, 0, none⟩), undef, .slice none 0 0, .int .i64 0, .int .i64 0, .pointer (some ⟨g + 1, 0, none⟩), .pointer (some ⟨g + 1 + 1, 0, none⟩), Value.slice (some ⟨bw, 11 * x.val, none⟩) 11 11, .agg #[.int .i64 m.e, .int .i64 m.c, .int .i64 m.i, .int .i64 m.p, .int .i64 m.x, .slice fa fn fc, .slice ia inn ic], .int .i64 0, .int .i64 0, .bool false, undef, .slice (some ⟨g, 0, none⟩) 0 128, .agg #[.int .i64 m.e, .int .i64 m.c, .int .i64 m.i, .int .i64 m.p, .int .i64 m.x, .slice fa fn fc, .slice ia inn ic], .int .u32 s, .slice (some ⟨bw, 0, none⟩) 88 88, .func (.func 98) #[] #[.pointer (some ⟨Bs, 0, none⟩), .pointer (some ⟨Bs + 1, 0, none⟩)], Value.slice (some ⟨bw, 11 * x.val, none⟩) 11 11, undef, undef, undef, undef, undef, undef, undef, undef, undef, undef, undef, undef, undef, undef, undef, undef, undef], defers := [] }) ?assign ?body ?done ?stop
  case assign =>
    intro l x W K hK
    gi_wp2
    exact hK
  case body =>
    rintro l pre x W ⟨hE, hsW⟩ hlen
    have HE := Lib.hid hE
    have HA := Lib.hid (accM_snoc m.e m.c (zpad 88 (wds m s)) (pre.map (·.val)) x.val)
    have HAL := Lib.hid (accM_len m.e m.c HW.out pre)
    have HML : Hid ((pre.map (·.val)).length = pre.length) := List.length_map ..
    have hx8 : x.val < 8 := x.2
    have HME : Hid (pre.map (·.val) ++ [x.val] = (pre ++ [x]).map (·.val)) := by show _ = _; rw [List.map_append]; rfl
    have HPL : Hid ((pre ++ [x]).length = pre.length + 1) := by show _ = _; simp
    have hwl : bw < W.heap.size := hE.wd.blo.lt
    have hBl : Bs + 1 < W.heap.size := by omega
    have hg1 := HG.out.e
    have hg2 := HG.out.c
    have a1 : 0 ≤ m.e := hg1.1
    have a2 : m.e ≤ 65535 := hg1.2
    have a3 : 0 ≤ m.c := hg2.1
    have a4 : m.c ≤ 65535 := hg2.2
    have c0 := hE.top.cell 0
    have cb := hE.bx.cell 0
    have fb := hE.bx.frozen 0
    simp at c0 cb
    rw [HML.out] at HA
    clear hE hg1 hg2 hB1 hB2 hE4
    generalize accM m.e m.c (zpad 88 (wds m s)) (pre.map (·.val)) = A at *
    generalize pre.length = L at *
    gi_wp2_with fail
    refine ⟨trivial, (CallsIn.inRound l (callsIn_wide.2 (number_int 2 m.e g 128 (16 * L) A HE.out.fil HAL.out.symm (by omega) (by omega) (by omega) (by omega) (by omega)))).mono ?_⟩
    rintro e x1 ⟨rfl, hf, hgr⟩
    have HK1 := Lib.hid (Kr.fill (B := Bs) (by omega) hBl HE.out.fil hgr)
    have HE1 := Lib.hid (HE.out.fill hf hgr)
    have z1 : W.heap.size ≤ x1.heap.size := hgr.size
    clear hf hgr HE c0 cb fb
    have cb := HE1.out.bx.cell 0
    have fb := HE1.out.bx.frozen 0
    have c1 := HE1.out.top.cell 1
    simp at cb c1
    have HE2 := Lib.hid (HE1.out.box (.slice (some ⟨g, 0, none⟩) (16 * L + 2) 128))
    have HK2 := Lib.hid (HK1.out.trans (Kr.set (B := Bs) (k := g + 1) (by omega) x1 (.slice (some ⟨g, 0, none⟩) (16 * L + 2) 128)))
    gi_wp2_with fail
    refine ⟨trivial, (CallsIn.inRound l (callsIn_wide.2 (number_int 2 m.c g 128 (16 * L + 2) (A ++ num 2 m.e.toNat) HE2.out.fil (by rw [List.length_append, num_len, HAL.out]) (by omega) (by omega) (by omega) (by omega) (by omega)))).mono ?_⟩
    rintro e x2 ⟨rfl, hf, hgr⟩
    have z2 : x1.heap.size ≤ x2.heap.size := by have := hgr.size; rwa [World.size_setCell] at this
    have HK3 := Lib.hid (HK2.out.trans (Kr.fill (B := Bs) (by omega) (by rw [World.size_setCell]; omega) HE2.out.fil hgr))
    have HE3 := Lib.hid (HE2.out.fill hf hgr)
    clear hf hgr HE1 HE2 HK1 HK2 c1 cb fb
    have cb := HE3.out.bx.cell 0
    have fb := HE3.out.bx.frozen 0
    have c2 := HE3.out.pl.cell 0
    simp at cb c2
    have HE4 := Lib.hid (HE3.out.box (.slice (some ⟨g, 0, none⟩) (16 * L + 2 + 2) 128))
    have HK4 := Lib.hid (HK3.out.trans (Kr.set (B := Bs) (k := g + 1) (by omega) x2 (.slice (some ⟨g, 0, none⟩) (16 * L + 2 + 2) 128)))
    gi_wp2_with fail
    refine ⟨trivial, (CallsIn.inRound l (callsIn_wide.2 (number_int 1 (L : Int) g 128 (16 * L + 2 + 2) (A ++ num 2 m.e.toNat ++ num 2 m.c.toNat) HE4.out.fil (by simp only [List.length_append, num_len, HAL.out]) (by omega) (by omega) (by omega) (by omega) (by omega)))).mono ?_⟩
    rintro e x3 ⟨rfl, hf, hgr⟩
    have z3 : x2.heap.size ≤ x3.heap.size := by have := hgr.size; rwa [World.size_setCell] at this
    have HK5 := Lib.hid (HK4.out.trans (Kr.fill (B := Bs) (by omega) (by rw [World.size_setCell]; omega) HE4.out.fil hgr))
    have HE5 := Lib.hid (HE4.out.fill hf hgr)
    clear hf hgr HE3 HE4 HK3 HK4 c2 cb fb
    have cb := HE5.out.bx.cell 0
    have fb := HE5.out.bx.frozen 0
    simp at cb
    have HE6 := Lib.hid (HE5.out.box (.slice (some ⟨g, 0, none⟩) (16 * L + 2 + 2 + 1) 128))
    have HK6 := Lib.hid (HK5.out.trans (Kr.set (B := Bs) (k := g + 1) (by omega) x3 (.slice (some ⟨g, 0, none⟩) (16 * L + 2 + 2 + 1) 128)))
    have HZ : Hid (((zpad 88 (wds m s)).drop (11 * x.val)).take 11 ≠ [] ∧ 11 = (((zpad 88 (wds m s)).drop (11 * x.val)).take 11).length) := by
      have hlw := HW.out
      have : 11 = (((zpad 88 (wds m s)).drop (11 * x.val)).take 11).length := by rw [List.length_take, List.length_drop, hlw]; omega
      exact ⟨(fun e => by rw [e] at this; cases this), this⟩
    gi_wp2_with (gi_at_builtin; refine wpListIn_append_fil rfl (.tmp 32) (.tmp 33) 49 rfl Tryd.underlying49 info_u8f g 128 (16 * L + 2 + 2 + 1) (A ++ num 2 m.e.toNat ++ num 2 m.c.toNat ++ num 1 L) rfl (by simp only [List.length_append, num_len, HAL.out]) HE6.out.fil (some ⟨bw, 11 * x.val, none⟩) 11 11 (((zpad 88 (wds m s)).drop (11 * x.val)).take 11) rfl HZ.out.2 (fil_part HE6.out.wd (by decide) (11 * x.val) 11 (by omega)) HZ.out.1 (by omega) ?_; intro x4 hf hgr; have HK7 := Lib.hid (HK6.out.trans (Kr.fill (B := Bs) (by omega) (by rw [World.size_setCell]; omega) HE6.out.fil hgr)); have z4 : x3.heap.size ≤ x4.heap.size := (by have := hgr.size; rwa [World.size_setCell] at this); have HE7 := Lib.hid (HE6.out.fill hf hgr); clear hf hgr HE5 HE6 HK5 HK6 cb fb; have cb := HE7.out.bx.cell 0; have fb := HE7.out.bx.frozen 0; have cp := HE7.out.pl.cell 0; have fp := HE7.out.pl.frozen 0; simp at cb cp)
    have HE8 := (HE7.out.box (.slice (some ⟨g, 0, none⟩) (16 * L + 2 + 2 + 1 + 11) 128)).plc (.int .i64 ((L : Int) + 1))
    have HK8 := (HK7.out.trans (Kr.set (B := Bs) (k := g + 1) (by omega) x4 (.slice (some ⟨g, 0, none⟩) (16 * L + 2 + 2 + 1 + 11) 128))).trans (Kr.set (B := Bs) (k := g + 2) (by omega) _ (.int .i64 ((L : Int) + 1)))
    refine ⟨HK8.1, HK8.2, ?_, by simp only [World.size_setCell]; omega⟩
    rw [HPL.out, ← HME.out, HA.out]
    have e1 : 16 * (L + 1) = 16 * L + 2 + 2 + 1 + 11 := by omega
    rw [e1, Int.natCast_add]
    exact HE8
  case done =>
    rintro D ys W hD hys ⟨hE, hsW⟩ hK
    have hbx := hE.bx.cell 0
    simp at hbx
    have hl8 : ys.length = 8 := by have := congrArg List.length hys; simpa using this
    have hfin := hE.fil
    rw [hys, accM_range] at hfin
    rw [hl8] at hbx
    have HFin := Lib.hid (show Fil W g 128 (encM m s) from hfin)
    have HBl := Lib.hid hE.below
    clear hE hfin hys hl8
    go_wp2
    refine ⟨by simp, .inl ⟨_, _, rfl, run_takeDeferred hK, ?_⟩⟩
    refine ⟨.tuple #[.slice (some ⟨g, 0, none⟩) 128 128, .int .i64 0], by simp [results, Tryd.f50, go_sem], g, rfl, by omega, fil_own HFin.out (grownBy_putObj' _ D (.deferred none)) (fun r e => by cases e; exact ⟨_, hK, rfl⟩), HBl.out.trans (belowK_b (w := w) (Nat.le_refl _) W D _ _ (by omega) hK rfl rfl)⟩
  case stop =>
    rintro D c pre W _ _ h _
    exact h.elim
end Go.Proofs.YtlkgaefabahkoaaDoor
/-
  Partial segments: Write.
-/
namespace Go.Proofs.YtlkgaefabahkoaaDoor
open Go.RowKit

def headM (m : Sm) (ls : List (List Nat)) : List Nat := encM m (crc ls.flatten)
def segW (d : Dm) (addr : Int) (m : Sm) (ls : List (List Nat)) : Dm × Int :=
  if chkM m ≠ 0 then (d, chkM m)
  else if wrB d.n addr m.x m.fs m.is ls = false then (d, 22)
  else if (putsD d (addr + 2) ls).2 ≠ 0 then putsD d (addr + 2) ls
  else if (cleanD (putsD d (addr + 2) ls).1 m.x).2 ≠ 0 then cleanD (putsD d (addr + 2) ls).1 m.x
  else sureD (cleanD (putsD d (addr + 2) ls).1 m.x).1 addr [(headM m ls).take 64, (headM m ls).drop 64]
theorem flat_all (L : List (List Nat)) (n : Nat) (h : n = L.length) : flat L n = L.flatten := by
  unfold flat
  rw [h, List.take_length]
/-- Slices of bytes that are read, none of them the disk's. -/
structure Lsk (w : World) (L : Dl) (a : Option Addr) (n : Nat) (A : Nat → Option Addr) (Cp : Nat → Nat) (ls : List (List Nat)) : Prop where
  l : Lists w a n A Cp ls
  b : ∀ b o, n ≠ 0 → a = some ⟨b, o, none⟩ → ¬ L.has b
  g : ∀ i b o, i < n → A i = some ⟨b, o, none⟩ → nthL ls i ≠ [] → ¬ L.has b
theorem wrB_len {n : Nat} {addr x : Int} {fs : List Fi} {is : List Int} {ls : List (List Nat)} (h : wrB n addr x fs is ls = true) : 0 ≤ addr ∧ addr + (ls.length + 2 : Nat) ≤ n ∧ 0 ≤ x ∧ x + 2 ≤ n ∧ (∀ i, i < ls.length → (nthL ls i).length = 64) ∧ ls.length + 2 = blks fs is ∧ (x + 2 ≤ addr ∨ addr + (ls.length + 2 : Nat) ≤ x) := by
  simp only [wrB, Bool.and_eq_true, decide_eq_true_eq, Bool.or_eq_true, List.all_eq_true, beq_iff_eq] at h
  obtain ⟨h1, h2, h3, h4, h5⟩ := h
  have q2 := hasB_yes h2
  have q3 := hasB_yes h3
  refine ⟨q2.1, by omega, q3.1, by omega, fun i hi => ?_, h1, by omega⟩
  unfold nthL
  rw [List.getD_eq_getElem?_getD, List.getElem?_eq_getElem hi]
  exact h4 _ (List.getElem_mem hi)
section
variable {C : Nat} {w w' W : World} {L : Dl} {d : Dm}
theorem Lsk.later {a : Option Addr} {n : Nat} {A : Nat → Option Addr} {Cp : Nat → Nat} {ls : List (List Nat)} (h : Lsk w L a n A Cp ls) (hb : Below w.heap.size w w') : Lsk w' L a n A Cp ls := ⟨h.l.below hb, h.b, h.g⟩
theorem bytes_so {g o : Nat} {l : List Nat} (h : Bytes w (some ⟨g, o, none⟩) l) (hl : l.length = 64) : SBO w g o l := by
  obtain ⟨b', o', e, hc⟩ := h.2.2 (fun e => by rw [e] at hl; cases hl)
  injection e with e
  injection e with e1 e2
  subst e1 e2
  refine ⟨fun j v hv => ?_, ?_, hl, h.1⟩
  · have hj : j < l.length := by
      have := (List.getElem?_eq_some_iff.1 hv).1
      rwa [cellsB_length] at this
    rw [cellsB_get _ _ hj] at hv
    cases hv
    exact hc j hj
  · exact World.block_lt_of_cell? w _ (hc 0 (by omega))
theorem Lsk.bks {a : Option Addr} {n : Nat} {A : Nat → Option Addr} {Cp : Nat → Nat} {ls : List (List Nat)} (h : Lsk w L a n A Cp ls) (hall : ∀ i, i < n → (nthL ls i).length = 64) : ∃ G O, Bks w L a n G O ls := by
  have each : ∀ i, i < n → ∃ g : Nat × Nat, A i = some ⟨g.1, g.2, none⟩ := fun i hi => by
    obtain ⟨b, o, e, _⟩ := (h.l.each i hi).1.2.2 (fun e => by have := hall i hi; rw [e] at this; cases this)
    exact ⟨(b, o), e⟩
  obtain ⟨F, hF⟩ := Go.Deep.choose_lt (α := Nat × Nat) each
  refine ⟨fun i => (F i).1, fun i => (F i).2, h.l.len, fun hn => ?_, fun i hi => ?_⟩
  · obtain ⟨b, o, ha, hc⟩ := h.l.at_ hn
    exact ⟨b, o, ha, h.b b o hn ha, fun i hi => ⟨Cp i, by rw [hc i hi, hall i hi, hF i hi]⟩⟩
  · have hb := (h.l.each i hi).1
    rw [hF i hi] at hb
    exact ⟨bytes_so hb (hall i hi), h.g i _ _ hi (hF i hi) (fun e => by have := hall i hi; rw [e] at this; cases this)⟩
/-- What Write has beside the disk while it writes. -/
structure WrS (C : Nat) (L : Dl) (d : Dm) (bx : Nat) (pv : Array Value) (g : Nat) (h1 h2 : List Nat) (W : World) : Prop where
  dk : Dk C W L d
  box : Blo W bx 36 pv
  nb : ¬ L.has bx
  s1 : SBO W g 0 h1
  s2 : SBO W g 64 h2
  ng : ¬ L.has g
theorem WrS.next {bx g : Nat} {pv : Array Value} {h1 h2 : List Nat} {q : Value} {d' : Dm} (h : WrS C L d bx pv g h1 h2 W) (ho : Out L.has W w') (hq : QvO W L q) (hD : Dk C w' { L with qv := q } d') : WrS C { L with qv := q } d' bx pv g h1 h2 w' :=
  ⟨hD, ho.blo h.box h.nb, hq.not h.box.lt h.nb, h.s1.out ho h.ng, h.s2.out ho h.ng, hq.not h.s1.lt h.ng⟩
theorem WrS.later {bx g : Nat} {pv : Array Value} {h1 h2 : List Nat} (h : WrS C L d bx pv g h1 h2 W) (hb : Below W.heap.size W w') : WrS C L d bx pv g h1 h2 w' :=
  ⟨h.dk.later hb, h.box.later hb, h.nb, h.s1.out (X := fun _ => False) (Out.of_below hb) (fun h => h), h.s2.out (X := fun _ => False) (Out.of_below hb) (fun h => h), h.ng⟩
/-- Write's end: the summary, and the barrier. -/
theorem write_end (addr : Int) (h0 : 0 ≤ addr) (h1 : addr ≤ 100000) {bx g : Nat} {pv : Array Value} {x1 x2 : List Nat} (h : WrS C L d bx pv g x1 x2 W) (hr : Rm d 3) (c1 c2 : Nat) (hb : Below W.heap.size W w')
    (hc : w' = (W.alloc (.cells #[.slice (some ⟨g, 0, none⟩) 64 c1, .slice (some ⟨g, 64, none⟩) 64 c2] 49)) ∨ w' = (W.drew.alloc (.cells #[.slice (some ⟨g, 0, none⟩) 64 c1, .slice (some ⟨g, 64, none⟩) 64 c2] 49))) :
    Calls Tryd.prog 53 #[.pointer (some ⟨L.bd, 0, none⟩), .int .i64 addr, .slice (some ⟨W.heap.size, 0, none⟩) 2 2] w' (CodeO C W L (sureD d addr [x1, x2]).1 (sureD d addr [x1, x2]).2) := by
  have hbl : Blo w' W.heap.size 49 #[.slice (some ⟨g, 0, none⟩) 64 c1, .slice (some ⟨g, 64, none⟩) 64 c2] := by
    rcases hc with rfl | rfl
    · exact blo_laid W _ _
    · exact blo_laid W.drew _ _
  have h2 := h.later hb
  refine (sure_any addr h0 h1 _ 2 2 _ _ [x1, x2] (by omega) (bks_pair W.heap.size g 0 c1 g 64 c2 x1 x2 (h.dk.fresh (by omega)) (hbl.cell 0) (hbl.cell 1) h2.s1 h2.s2 h2.ng h2.ng) hr h2.dk).mono ?_
  exact fun e w2 hO => hO.before hb
theorem headM_len (m : Sm) (ls : List (List Nat)) (h : chkM m = 0) : (headM m ls).length = 128 := encM_len m _ (good_of h)
set_option maxRecDepth 100000 in
set_option maxHeartbeats 4000000 in
theorem segWrite_any (addr : Int) (m : Sm) (fa : Option Addr) (fn fc : Nat) (ia : Option Addr) (inn ic : Nat) (hF : Fis w fa m.fs) (hn : fn = m.fs.length) (hs : szF m.fs ≤ 1000000) (hI : Ints w ia m.is) (hin : inn = m.is.length) (hi : inn ≤ 1000000) (hlb : ∀ x ∈ m.fs, ∀ n ∈ x.lb, -9223372036854775808 ≤ n)
    (a : Option Addr) (n cap : Nat) (A : Nat → Option Addr) (Cp : Nat → Nat) (ls : List (List Nat)) (hl : Lsk w L a n A Cp ls) (ht : Tab w) (hz : 0 < w.heap.size) (hr : Rm d (n + 6)) (h : Dk C w L d) :
    Calls Tryd.prog 17 #[.pointer (some ⟨L.bd, 0, none⟩), .int .i64 addr, part m.e m.c m.i m.p m.x fa fn fc ia inn ic, .slice a n cap] w (CodeO C w L (segW d addr m ls).1 (segW d addr m ls).2) := by
  obtain ⟨pv, hpv⟩ : ∃ pv : Array Value, pv = #[.int .i64 m.e, .int .i64 m.c, .int .i64 m.i, .int .i64 m.p, .int .i64 m.x, .slice fa fn fc, .slice ia inn ic] := ⟨_, rfl⟩
  have hb1 := sup_pc w (.cells pv 36)
  have HCk := Lib.hid (check_any (w := w.alloc (.cells pv 36)) m.e m.c m.i m.p m.x m.fs m.is fa fn fc ia inn ic (hF.later hb1) hn (by omega) (hI.below hb1) hin (by omega) hlb)
  have HBx := Lib.hid (blo_laid w 36 pv)
  have HB1 := Lib.hid hb1
  have HF := Lib.hid hF
  have HI := Lib.hid hI
  have HL := Lib.hid hl
  have HT := Lib.hid (show ∀ W, Below w.heap.size w W → Tab W from fun W hb => ht.below hb hz)
  have HD := Lib.hid h
  have HNB := Lib.hid (h.fresh (Nat.le_refl w.heap.size))
  have HRm := Lib.hid hr
  have HN := Lib.hid hn
  have HIn := Lib.hid hin
  have HS := Lib.hid hs
  have HI9 := Lib.hid hi
  clear hF hI hl ht hz h hb1 hr hn hin hs hi hlb
  subst hpv
  by_cases hchk : chkM m = 0
  case neg =>
    have hE : segW d addr m ls = (d, chkM m) := by unfold segW; rw [if_pos hchk]
    rw [hE]
    have HSt := Lib.hid (fun (W : World) (hb : Below w.heap.size w W) => (CodeO.stay (HD.out.later hb) (chkM m)).before hb)
    replace HCk : Hid (Calls Tryd.prog 48 _ _ fun en w' => en = .returned (.int .i64 (chkM m)) ∧ Below _ _ w') := HCk.out
    clear hE HF HI HL HT HD HNB HRm HN HIn HS HI9
    have hc1 : (chkM m != 0) = true := by simpa using hchk
    generalize chkM m = cc at *
    go_enter Tryd.func17, Tryd.ntmps17
    go_wp2_with fail
    refine HCk.out.mono ?_
    rintro e w1 ⟨rfl, hb2⟩
    have HE := Lib.hid (HSt.out w1 (HB1.out.trans (hb2.mono HB1.out.size)))
    clear HSt HCk HB1 HBx hb2 hchk
    go_wp2
    go_ret
    exact HE.out
  case pos =>
    replace HCk : Hid (Calls Tryd.prog 48 _ _ fun en w' => en = .returned (.int .i64 (chkM m)) ∧ Below _ _ w') := HCk.out
    rw [hchk] at HCk
    by_cases hw : wrB d.n addr m.x m.fs m.is ls = true
    case neg =>
      have hw := bool_no hw
      have hE : segW d addr m ls = (d, 22) := by unfold segW; rw [if_neg (fun h => h hchk), if_pos hw]
      rw [hE]
      have HSt := Lib.hid (fun (W : World) (hb : Below w.heap.size w W) => (CodeO.stay (HD.out.later hb) 22).before hb)
      have HW := Lib.hid hw
      clear hE hchk hw
      go_enter Tryd.func17, Tryd.ntmps17
      go_wp2_with fail
      refine HCk.out.mono ?_
      rintro e w1 ⟨rfl, hb2⟩
      have hb3 := HB1.out.trans (hb2.mono HB1.out.size)
      have HB3 := Lib.hid hb3
      have HX := Lib.hid (HBx.out.later hb2)
      have c0 := HX.out.cell 0
      have c1 := HX.out.cell 1
      have c2 := HX.out.cell 2
      have c3 := HX.out.cell 3
      have c4 := HX.out.cell 4
      have c5 := HX.out.cell 5
      have c6 := HX.out.cell 6
      simp at c0 c1 c2 c3 c4 c5 c6
      have HWr := Lib.hid (writable_any addr m.e m.c m.i m.p m.x m.fs m.is fa fn fc ia inn ic (HF.out.later hb3) HN.out HS.out HIn.out HI9.out a n cap A Cp ls (HL.out.l.below hb3) (HD.out.later hb3))
      rw [HW.out] at HWr
      clear hb2 hb3 HCk HBx HB1
      go_wp2_with fail
      refine HWr.out.mono ?_
      rintro e w2 ⟨rfl, hb4⟩
      have HE := Lib.hid (HSt.out w2 (HB3.out.trans (hb4.mono HB3.out.size)))
      clear hb4 HWr HX HB3 HSt HF HI HL HT HD HNB HRm HN HIn HS HI9 c0 c1 c2 c3 c4 c5 c6
      go_wp2
      go_ret
      exact HE.out
    case pos =>
      have hwl := wrB_len hw
      have hnl : n = ls.length := HL.out.l.len
      have hf := HD.out.few.2
      have hx0 : 0 ≤ m.x := hwl.2.2.1
      have hx1 : m.x ≤ 100000 := by omega
      have ha0 : 0 ≤ addr := hwl.1
      have ha1 : addr ≤ 90000 := by omega
      have hn5 : n ≤ 100000 := by omega
      have Hall : Hid (∀ i, i < n → (nthL ls i).length = 64) := fun i hi => hwl.2.2.2.2.1 i (by omega)
      have hcrc : crc ls.flatten < 4294967296 := by
        have := flat_bytes HL.out.l n (Nat.le_refl _)
        rw [flat_all ls n hnl] at this
        exact crc_lt _ this
      have hE : segW d addr m ls = if (putsD d (addr + 2) ls).2 ≠ 0 then putsD d (addr + 2) ls
          else if (cleanD (putsD d (addr + 2) ls).1 m.x).2 ≠ 0 then cleanD (putsD d (addr + 2) ls).1 m.x
          else sureD (cleanD (putsD d (addr + 2) ls).1 m.x).1 addr [(headM m ls).take 64, (headM m ls).drop 64] := by
        unfold segW; rw [if_neg (fun h => h hchk), if_neg (by rw [hw]; simp)]
      have HHl := Lib.hid (headM_len m ls hchk)
      have HEn := Lib.hid (fun (W : World) (hb : Below w.heap.size w W) => encode_good (w := W) m (crc ls.flatten) fa fn fc ia inn ic hchk (HF.out.later hb) HN.out (HI.out.below hb) HIn.out hcrc)
      have HPa := Lib.hid (fun (W : World) (hb : Below w.heap.size w W) => parts_any a cap n A Cp ls W (HT.out W hb) (HL.out.l.below hb))
      rw [flat_all ls n hnl] at HPa
      have HWr0 := Lib.hid (fun (W : World) (hb : Below w.heap.size w W) => writable_any addr m.e m.c m.i m.p m.x m.fs m.is fa fn fc ia inn ic (HF.out.later hb) HN.out HS.out HIn.out HI9.out a n cap A Cp ls (HL.out.l.below hb) (HD.out.later hb))
      rw [hw] at HWr0
      have HR2 : Hid (Rm (putsD d (addr + 2) ls).1 6) := Rm.puts ls (addr + 2) (by rw [← hnl]; exact HRm.out)
      have HR3 : Hid (Rm (cleanD (putsD d (addr + 2) ls).1 m.x).1 3) := Rm.clean m.x HR2.out
      obtain ⟨d2, hd2⟩ : ∃ d2, putsD d (addr + 2) ls = d2 := ⟨_, rfl⟩
      have HPu := Lib.hid (fun (W : World) (hb : Below w.heap.size w W) (G O : Nat → Nat) (hB : Bks W L a n G O ls) => put_any (w := W) (addr + 2) (by omega) (by omega) a n cap G O ls hn5 hB (HRm.out.mono (by omega)) (HD.out.later hb))
      rw [hd2] at hE HR2 HR3 HPu
      obtain ⟨d3, hd3⟩ : ∃ d3, cleanD d2.1 m.x = d3 := ⟨_, rfl⟩
      have HCl := Lib.hid (fun (W : World) (L' : Dl) (hD : Dk C W L' d2.1) => clean_any (w := W) m.x hx0 hx1 (HR2.out.mono (by omega)) hD)
      rw [hd3] at hE HR3 HCl
      obtain ⟨d4, hd4⟩ : ∃ d4, segW d addr m ls = d4 := ⟨_, rfl⟩
      rw [hd4] at hE ⊢
      have HE := Lib.hid hE
      generalize hcr : crc ls.flatten = cr at *
      have HEnc : Hid (headM m ls = encM m cr) := by show _ = _; unfold headM; rw [hcr]
      clear hE hd2 hd3 hd4 hwl hnl hf hw hchk hcrc hcr
      obtain ⟨d2, c2⟩ := d2
      obtain ⟨d3, c3⟩ := d3
      obtain ⟨d4, c4⟩ := d4
      go_enter Tryd.func17, Tryd.ntmps17
      go_wp2_with fail
      refine HCk.out.mono ?_
      rintro e w1 ⟨rfl, hb2⟩
      have HB3 := Lib.hid (HB1.out.trans (hb2.mono HB1.out.size))
      have HX := Lib.hid (HBx.out.later hb2)
      have c0 := HX.out.cell 0
      have c1 := HX.out.cell 1
      have c2' := HX.out.cell 2
      have c3' := HX.out.cell 3
      have c4' := HX.out.cell 4
      have c5 := HX.out.cell 5
      have c6 := HX.out.cell 6
      simp at c0 c1 c2' c3' c4' c5 c6
      clear hb2 HCk HBx HB1
      go_wp2_with fail
      refine (HWr0.out w1 HB3.out).mono ?_
      rintro e w2 ⟨rfl, hb4⟩
      have HB4 := Lib.hid (HB3.out.trans (hb4.mono HB3.out.size))
      have HX4 := Lib.hid (HX.out.later hb4)
      clear c0 c1 c2' c3' c4' c5 c6 hb4 HB3 HX HWr0
      have c0 := HX4.out.cell 0
      have c1 := HX4.out.cell 1
      have c2' := HX4.out.cell 2
      have c3' := HX4.out.cell 3
      have c4' := HX4.out.cell 4
      have c5 := HX4.out.cell 5
      have c6 := HX4.out.cell 6
      simp at c0 c1 c2' c3' c4' c5 c6
      go_wp2_with fail
      have HK : Hid (∀ W, Below w2.heap.size w2 W → (W.cell? ⟨w.heap.size, 0, none⟩ = some (.int .i64 m.e) ∧ W.cell? ⟨w.heap.size, 1, none⟩ = some (.int .i64 m.c) ∧ W.cell? ⟨w.heap.size, 2, none⟩ = some (.int .i64 m.i) ∧ W.cell? ⟨w.heap.size, 3, none⟩ = some (.int .i64 m.p) ∧ W.cell? ⟨w.heap.size, 4, none⟩ = some (.int .i64 m.x) ∧ W.cell? ⟨w.heap.size, 5, none⟩ = some (.slice fa fn fc) ∧ W.cell? ⟨w.heap.size, 6, none⟩ = some (.slice ia inn ic))) := fun W hb => by
        have hX := HX4.out.later hb
        exact ⟨hX.cell 0, hX.cell 1, hX.cell 2, hX.cell 3, hX.cell 4, hX.cell 5, hX.cell 6⟩
      have HPa2 : Hid (∀ W, Below w2.heap.size w2 W → _) := fun W hb => HPa.out W (HB4.out.trans (hb.mono HB4.out.size))
      have HEn2 : Hid (∀ W, Below w2.heap.size w2 W → _) := fun W hb => HEn.out W (HB4.out.trans (hb.mono HB4.out.size))
      go_region_held (fun W => W.cell? ⟨w.heap.size, 0, none⟩ = some (.int .i64 m.e) ∧ W.cell? ⟨w.heap.size, 1, none⟩ = some (.int .i64 m.c) ∧ W.cell? ⟨w.heap.size, 2, none⟩ = some (.int .i64 m.i) ∧ W.cell? ⟨w.heap.size, 3, none⟩ = some (.int .i64 m.p) ∧ W.cell? ⟨w.heap.size, 4, none⟩ = some (.int .i64 m.x) ∧ W.cell? ⟨w.heap.size, 5, none⟩ = some (.slice fa fn fc) ∧ W.cell? ⟨w.heap.size, 6, none⟩ = some (.slice ia inn ic))
        (first | exact HK.out _ ((Below.refl _ _).drew) | exact HK.out _ HB5.out | fail)
        (first | (go_at_call 43; (with_reducible refine (HPa2.out _ ((Below.refl _ _).drew)).mono ?_); rintro e w5 ⟨rfl, rfl⟩) | (go_at_call 50; (with_reducible refine (HEn2.out _ ((Below.refl _ _).drew)).mono ?_); rintro e w5 ⟨g5, rfl, hg5, hfil5, hb5⟩; have HF5 := Lib.hid hfil5; have HG5 := Lib.hid hg5; have HB5 := Lib.hid (show Below w2.heap.size w2 w5 from ((Below.refl w2.heap.size w2).drew).trans (hb5.mono (by exact Nat.le_refl _))); clear hfil5 hb5 hg5) | fail)
      rename_i hHeld
      clear hHeld HK HPa2 HEn2 HPa HEn c0 c1 c2' c3' c4' c5 c6
      have hb6 := HB4.out.trans (HB5.out.mono HB4.out.size)
      have HB6 := Lib.hid hb6
      have HW : Hid (WrS C L d w.heap.size #[.int .i64 m.e, .int .i64 m.c, .int .i64 m.i, .int .i64 m.p, .int .i64 m.x, .slice fa fn fc, .slice ia inn ic] g5 ((headM m ls).take 64) ((headM m ls).drop 64) w5) := by
        have hlen := HHl.out
        have e0 : zpad 128 (encM m cr) = headM m ls := by rw [← HEnc.out]; unfold zpad; rw [hlen]; simp
        have hg5 : w.heap.size ≤ g5 := Nat.le_trans HB4.out.size HG5.out
        have b1 := fil_part HF5.out (by decide) 0 64 (by decide)
        have b2 := fil_part HF5.out (by decide) 64 64 (by decide)
        rw [e0, List.drop_zero] at b1
        rw [e0, List.take_of_length_le (by rw [List.length_drop, hlen]; decide)] at b2
        exact ⟨HD.out.later hb6, HX4.out.later HB5.out, HNB.out, bytes_so b1 (by rw [List.length_take, hlen]; rfl), bytes_so b2 (by rw [List.length_drop, hlen]), HD.out.fresh hg5⟩
      obtain ⟨G, O, hBk⟩ := (HL.out.later hb6).bks Hall.out
      have HP := Lib.hid (HPu.out w5 hb6 G O hBk)
      generalize ((headM m ls).take 64) = x1 at *
      generalize ((headM m ls).drop 64) = x2 at *
      clear hBk hb6 HPu HX4 HB4 HB5 HF5 HG5 HEnc HHl Hall HL HT HF HI HD HNB HRm HN HIn HS HI9
      go_wp2_with fail
      refine HP.out.mono ?_
      intro e w6 hO
      have HO := Lib.hid (hO.before (w0 := w) HB6.out)
      obtain ⟨rfl, q2, hD6, hO6, hq6⟩ := hO
      by_cases hc2 : c2 = 0
      · subst hc2
        have HW6 := Lib.hid (HW.out.next hO6 hq6 hD6)
        have HO6 := Lib.hid ((Out.of_below HB6.out).trans hO6 (fun _ _ h => h))
        have HQ6 : Hid (QvO w L q2) := fun g hg => by
          rcases hq6 g hg with h | h
          · exact .inl h
          · exact .inr (Nat.le_trans HB6.out.size h)
        have t4 := HW6.out.box.cell 4
        simp at t4
        have HC := Lib.hid (HCl.out w6 _ HW6.out.dk)
        clear hD6 hO6 hq6 HP HW HB6 HO HCl HR2
        go_wp2_with fail
        refine HC.out.mono ?_
        intro e w7 hO7
        have HO7 := Lib.hid (CodeO.seq HO6.out HQ6.out hO7)
        obtain ⟨rfl, q3, hD7, hO7, hq7⟩ := hO7
        clear t4 HC
        by_cases hc3 : c3 = 0
        · subst hc3
          have HW7 := Lib.hid (HW6.out.next hO7 hq7 hD7)
          have HO8 := Lib.hid (HO6.out.next HQ6.out hO7)
          have HQ8 := Lib.hid (QvO.next HO6.out HQ6.out hq7)
          have HS : Hid ((d4, c4) = sureD d3 addr [x1, x2]) := by
            have := HE.out
            show (d4, c4) = sureD d3 addr [x1, x2]
            simpa using this
          clear hD7 hO7 hq7 HO7 HE HW6 HO6 HQ6
          have hb8 : ∀ o, Below w7.heap.size w7 (w7.drew.alloc o) := fun o => ((Below.refl w7.heap.size w7).drew).alloc (Nat.le_refl _) o
          have HSu := Lib.hid (fun o h => write_end (W := w7) addr ha0 (by omega) HW7.out HR3.out 128 64 (hb8 o) h)
          clear hb8
          go_wp2_with fail
          go_region_with ((go_at_call 53; (refine (HSu.out _ (.inr rfl)).mono ?_); rintro e w8 hO8; have HO9 := Lib.hid (CodeO.seq HO8.out HQ8.out hO8); obtain ⟨rfl, q4, hD8, hO8, hq8⟩ := hO8; clear hD8 hO8 hq8))
          generalize sureD d3 addr [x1, x2] = sd at *
          have hsd := HS.out
          clear HS HSu HW7 HO8 HQ8 HR3
          subst hsd
          go_wp2
          go_ret
          exact HO9.out
        · have hE3 : (d4, c4) = (d3, c3) := by
            have := HE.out
            simpa [hc3] using this
          injection hE3 with q1 q2
          subst q1 q2
          have hc4 : (c4 != 0) = true := by simpa using hc3
          clear hD7 hO7 hq7 HE HW6 HO6 HQ6 HR3 hc3
          go_wp2
          go_ret
          exact HO7.out
      · have hE2 : (d4, c4) = (d2, c2) := by
          have := HE.out
          simpa [hc2] using this
        injection hE2 with q1 q2
        subst q1 q2
        have hc4 : (c4 != 0) = true := by simpa using hc2
        clear hD6 hO6 hq6 HP HW HB6 HCl HR2 HR3 HE hc2
        go_wp2
        go_ret
        exact HO.out
end
end Go.Proofs.YtlkgaefabahkoaaDoor
/-
  Rows of elements of any size, told by their cells: append, what is read.
-/
namespace Go.Proofs.YtlkgaefabahkoaaDoor
open Go.RowKit

/-- 'append(own, more...)' at elements of any size, told by their cells. -/
theorem wp_append_row {P : Program} {w : World} {ops : Array Oper} {rest : List Oper} {o : Oper} {act : Act} {Q : Exit → Act → World → Prop} (hgd : o.guard = none) (s x : Operand) (t : TypeId)
    (ho : o.op = .call { callee := .builtin .append, args := #[s, x], argTypes := #[t, t] })
    (base : Nat) (e : TypeId) (z : Value) (size bytes : Nat) (ht : P.underlying t = some (.slice e)) (hi : (P.info? e).map (fun i => (i.zero, i.size, i.bytes)) = some (some z, size, bytes)) (hzs : z.cells.size = size) (hsz : 0 < size) (hby : bytes ≤ 1000)
    (v : Value) (n : Nat) (xs : List Value) (hs : act.eval s = v) (hown : w.ownsRow base e size v n xs)
    (ao : Option Addr) (m c : Nat) (ys : List Value) (hx : act.eval x = .slice ao m c) (hl : ys.length = m * size) (hy : ∀ ad, ao = some ad → ∀ j u, ys[j]? = some u → w.cell? (ad.add j) = some u) (h1 : ∀ u ∈ ys, u.oneCell' = true) (hnone : ao = none → m = 0 ∧ c = 0)
    (hroom : n + m ≤ 1000000) (hbase : base ≤ w.heap.size)
    (h : ∀ a' cap' w', w'.ownsRow base e size (.slice a' (n + m) cap') (n + m) (xs ++ ys) → w.grownBy w' v.ownBlock → wpList P ops Q rest (act.put o.dst (.slice a' (n + m) cap')) w') : wpList P ops Q (o :: rest) act w := by
  obtain ⟨i, hi0, hz, hs1, hb1⟩ := info_parts hi
  have fin : ∀ v' w', w'.ownsRow base e size v' (n + m) (xs ++ ys) → w.grownBy w' v.ownBlock → wpList P ops Q rest (act.put o.dst v') w' := by
    intro v' w' h1 h2
    obtain ⟨a', cap', rfl, _⟩ := own_slice h1
    exact h a' cap' w' h1 h2
  cases ao with
  | none =>
    obtain ⟨rfl, rfl⟩ := hnone rfl
    have hys : ys = [] := List.eq_nil_of_length_eq_zero (by rw [hl]; simp)
    subst hys
    refine wpList_append_own_none hgd s x t ho base e i size ht hi0 v n xs hs hown hx ?_
    have := fin v w (by simpa using hown) ⟨rfl, rfl, rfl, Nat.le_refl _, fun _ _ _ => rfl⟩
    exact this
  | some ad =>
    refine wpList_append_own w hgd s x t ho base e i _ size bytes ht hi0 hz hs1 hb1 hzs hsz v n xs hs hown ad m c ys hx hl (hy ad rfl) h1 (by unfold maxLen; omega) ?_ hbase ?_
    · exact Nat.le_trans (Nat.mul_le_mul hroom hby) (by decide)
    · intro v' w' h1 h2 _
      exact fin v' w' h1 h2
/-- What a slice that is read holds, told by its cells. -/
def Rds (w : World) (a : Option Addr) (xs : List Value) : Prop := ∀ j u, xs[j]? = some u → ∃ b o, a = some ⟨b, o, none⟩ ∧ w.cell? ⟨b, o + j, none⟩ = some u
theorem Rds.later {w w' : World} {a : Option Addr} {xs : List Value} (h : Rds w a xs) (hb : Below w.heap.size w w') : Rds w' a xs := fun j u hj => by
  obtain ⟨b, o, ha, hc⟩ := h j u hj
  exact ⟨b, o, ha, cell_later hb hc⟩
theorem Rds.add {w : World} {a : Option Addr} {xs : List Value} (h : Rds w a xs) : ∀ ad, a = some ad → ∀ j u, xs[j]? = some u → w.cell? (ad.add j) = some u := fun ad ha j u hj => by
  obtain ⟨b, o, ha', hc⟩ := h j u hj
  rw [ha] at ha'
  cases ha'
  rw [Addr.add_lit]
  exact hc
theorem Rds.own {w : World} {base : Nat} {e : TypeId} {size : Nat} {a : Option Addr} {n cap : Nat} {xs : List Value} (h : w.ownsRow base e size (.slice a n cap) n xs) : Rds w a xs := fun j u hj => by
  rcases id h.2 with ⟨h1, h0⟩ | ⟨g, c, cur, h1, _⟩
  · have hl := h.1
    rw [h0] at hl
    have : xs = [] := List.eq_nil_of_length_eq_zero (by simpa using hl)
    rw [this] at hj; cases hj
  · cases h1
    have hjl : j < xs.length := by
      rcases Nat.lt_or_ge j xs.length with h | h
      · exact h
      · rw [List.getElem?_eq_none h] at hj; cases hj
    refine ⟨g, 0, rfl, ?_⟩
    rw [Nat.zero_add, h.cellAt j (Nat.lt_of_lt_of_eq hjl h.1), hj]
/-- The same, at a step of a region that draws its order. -/
theorem step_append_row {P : Program} {ops : Array Oper} {Q : Exit → Act → World → Prop} {o : Oper} {a : Act} {w : World} {K : Act → World → Prop} {E : Prop} (hg : o.guard = none) (s x : Operand) (t : TypeId) (ho : o.op = .call { callee := .builtin .append, args := #[s, x], argTypes := #[t, t] })
    (base : Nat) (e : TypeId) (z : Value) (size bytes : Nat) (ht : P.underlying t = some (.slice e)) (hi : (P.info? e).map (fun i => (i.zero, i.size, i.bytes)) = some (some z, size, bytes)) (hzs : z.cells.size = size) (hsz : 0 < size) (hby : bytes ≤ 1000)
    (v : Value) (n : Nat) (xs : List Value) (hs : a.eval s = v) (hown : w.ownsRow base e size v n xs) (ao : Option Addr) (m c : Nat) (ys : List Value) (hx : a.eval x = .slice ao m c) (hl : ys.length = m * size) (hy : ∀ ad, ao = some ad → ∀ j u, ys[j]? = some u → w.cell? (ad.add j) = some u) (h1 : ∀ u ∈ ys, u.oneCell' = true) (hnone : ao = none → m = 0 ∧ c = 0)
    (hroom : n + m ≤ 1000000) (hbase : base ≤ w.heap.size)
    (hk : ∀ v' w', w'.ownsRow base e size v' (n + m) (xs ++ ys) → w.grownBy w' v.ownBlock → (v'.ownBlock = v.ownBlock ∨ v'.ownBlock = some w.heap.size) → K (a.put o.dst v') w') :
    if Region.wanted o (yielded ops a.tmps) = true then Oper.wp P o a w K Q else E := by
  obtain ⟨i, hi0, hz, hs1, hb1⟩ := info_parts hi
  rw [if_pos (by simp [Region.wanted, hg])]
  unfold Oper.wp
  cases ao with
  | none =>
    obtain ⟨rfl, rfl⟩ := hnone rfl
    have hys : ys = [] := List.eq_nil_of_length_eq_zero (by rw [hl]; simp)
    subst hys
    have hrun := run_append_owned_none (P := P) (w := w) base t o.type e i size ht hi0 v n xs hown
    simp [execOp, ho, resolve, invoke, builtin, hs, hx, hrun, Result.andThen]
    exact hk v w (by simpa using hown) ⟨rfl, rfl, rfl, Nat.le_refl _, fun _ _ _ => rfl⟩ (.inl rfl)
  | some ad =>
    obtain ⟨v', w', hrun, h2, h3, _, h5⟩ := run_append_own_at (P := P) w base t o.type e i z size bytes ht hi0 hz hs1 hb1 hzs hsz v n xs hown ad m c ys hl (hy ad rfl) h1 (by unfold maxLen; omega) (Nat.le_trans (Nat.mul_le_mul hroom hby) (by decide)) hbase
    simp [execOp, ho, resolve, invoke, builtin, hs, hx, hrun, Result.andThen]
    exact hk v' w' h2 h3 h5
end Go.Proofs.YtlkgaefabahkoaaDoor
/-
  An append onto a row of one's own, with the slice's own form handed on.
-/
namespace Go.Proofs.YtlkgaefabahkoaaDoor
open Go.RowKit

theorem laid_srcO (w : World) (t : TypeId) (cs : Array Value) (l : List Value) (hl : cs.toList = l) : ∀ ad, some (⟨w.heap.size, 0, none⟩ : Addr) = some ad → ∀ j u, l[j]? = some u → (w.alloc (.cells cs t)).cell? (ad.add j) = some u := fun ad e j u hj => by
  cases e
  rw [Addr.add_lit, Nat.zero_add, (blo_laid w t cs).cell, ← Array.getElem?_toList, hl, hj]
theorem wp_append_rowO {P : Program} {w : World} {ops : Array Oper} {rest : List Oper} {o : Oper} {act : Act} {Q : Exit → Act → World → Prop} (hgd : o.guard = none) (s x : Operand) (t : TypeId)
    (ho : o.op = .call { callee := .builtin .append, args := #[s, x], argTypes := #[t, t] })
    (base : Nat) (e : TypeId) (z : Value) (size bytes : Nat) (ht : P.underlying t = some (.slice e)) (hi : (P.info? e).map (fun i => (i.zero, i.size, i.bytes)) = some (some z, size, bytes)) (hzs : z.cells.size = size) (hsz : 0 < size) (hby : bytes ≤ 1000)
    (v : Value) (n : Nat) (xs : List Value) (hs : act.eval s = v) (hown : w.ownsRow base e size v n xs)
    (ao : Option Addr) (m c : Nat) (ys : List Value) (hx : act.eval x = .slice ao m c) (hl : ys.length = m * size) (hy : ∀ ad, ao = some ad → ∀ j u, ys[j]? = some u → w.cell? (ad.add j) = some u) (h1 : ∀ u ∈ ys, u.oneCell' = true) (hnone : ao = none → m = 0 ∧ c = 0)
    (hroom : n + m ≤ 1000000) (hbase : base ≤ w.heap.size)
    (h : ∀ a' cap' w', w'.ownsRow base e size (.slice a' (n + m) cap') (n + m) (xs ++ ys) → w.grownBy w' v.ownBlock → ((Value.slice a' (n + m) cap').ownBlock = v.ownBlock ∨ (Value.slice a' (n + m) cap').ownBlock = some w.heap.size) → wpList P ops Q rest (act.put o.dst (.slice a' (n + m) cap')) w') : wpList P ops Q (o :: rest) act w := by
  refine wpList_plain hgd fun K hK => ?_
  have hw : Region.wanted o (yielded ops act.tmps) = true := by simp [Region.wanted, hgd]
  have := step_append_row (P := P) (ops := ops) (Q := Q) (o := o) (a := act) (w := w) (K := K) (E := True) hgd s x t ho base e z size bytes ht hi hzs hsz hby v n xs hs hown ao m c ys hx hl hy h1 hnone hroom hbase (fun v' w' h2 h3 h4 => by
    obtain ⟨a', cap', rfl, _⟩ := own_slice h2
    exact hK _ _ (h a' cap' w' h2 h3 h4))
  rwa [if_pos hw] at this
theorem ints_src {w : World} {a : Option Addr} {l : List Int} (h : Ints w a l) : ∀ ad, a = some ad → ∀ j u, (cellsI l)[j]? = some u → w.cell? (ad.add j) = some u := fun ad ha j u hj => by
  have hl : j < l.length := by
    have := (List.getElem?_eq_some_iff.1 hj).1
    simpa [cellsI] using this
  obtain ⟨b, o, rfl, hc⟩ := h (fun e => by rw [e] at hl; cases hl)
  cases ha
  rw [Addr.add_lit, hc j hl, ← hj]
  simp [cellsI, List.getD_eq_getElem?_getD, List.getElem?_eq_getElem hl]
theorem ints_one (l : List Int) : ∀ u ∈ cellsI l, u.oneCell' = true := fun u hu => by
  unfold cellsI at hu
  obtain ⟨x, _, rfl⟩ := List.mem_map.1 hu
  rfl
end Go.Proofs.YtlkgaefabahkoaaDoor
/-
  marllaw06.Own: a summary's files and inodes, copied.
-/
namespace Go.Proofs.YtlkgaefabahkoaaDoor
open Go.RowKit

abbrev PTY := 36
def updF {α : Type} (f : Nat → α) (i : Nat) (x : α) : Nat → α := fun j => if j = i then x else f j
theorem updF_at {α : Type} (f : Nat → α) (i : Nat) (x : α) : updF f i x i = x := if_pos rfl
theorem updF_ne {α : Type} (f : Nat → α) (i : Nat) (x : α) {j : Nat} (h : j ≠ i) : updF f i x j = f j := if_neg h
def flo (l : List Fi) (av : Nat → Value) (n : Nat) : List Value := (List.range n).flatMap fun i => [.int .i64 (l.getD i fi0).ino, .int .i64 (l.getD i fi0).ver, av i]
theorem flo_succ (l : List Fi) (av : Nat → Value) (n : Nat) : flo l av (n + 1) = flo l av n ++ [.int .i64 (l.getD n fi0).ino, .int .i64 (l.getD n fi0).ver, av n] := by
  simp [flo, List.range_succ]
theorem flo_len (l : List Fi) (av : Nat → Value) (n : Nat) : (flo l av n).length = n * 3 := by
  induction n with
  | zero => rfl
  | succ n ih => rw [flo_succ, List.length_append, ih]; simp; omega
theorem flo_congr (l : List Fi) {f g : Nat → Value} (n : Nat) (h : ∀ i, i < n → f i = g i) : flo l f n = flo l g n := by
  induction n with
  | zero => rfl
  | succ n ih => rw [flo_succ, flo_succ, ih (fun i hi => h i (by omega)), h n (Nat.lt_succ_self _)]
theorem flo_get (l : List Fi) (av : Nat → Value) {n : Nat} : ∀ {i : Nat}, i < n → (flo l av n)[i * 3]? = some (.int .i64 (l.getD i fi0).ino) ∧ (flo l av n)[i * 3 + 1]? = some (.int .i64 (l.getD i fi0).ver) ∧ (flo l av n)[i * 3 + 2]? = some (av i) := by
  induction n with
  | zero => intro i hi; omega
  | succ n ih =>
    intro i hi
    have hl := flo_len l av n
    rw [flo_succ]
    by_cases e : i = n
    · subst e
      rw [List.getElem?_append_right (by omega), List.getElem?_append_right (by omega), List.getElem?_append_right (by omega), hl, Nat.sub_self, Nat.add_sub_cancel_left, Nat.add_sub_cancel_left]
      exact ⟨rfl, rfl, rfl⟩
    · rw [List.getElem?_append_left (by omega), List.getElem?_append_left (by omega), List.getElem?_append_left (by omega)]
      exact ih (by omega)
theorem oblo {w : World} {base n size : Nat} {e : TypeId} {v : Value} {xs : List Value} {g : Nat} (h : w.ownsRow base e size v n xs) (hg : v.ownBlock = some g) : base ≤ g ∧ g < w.heap.size ∧ ∃ cs, Blo w g e cs := by
  rcases h.2 with ⟨h1, h2⟩ | ⟨g', cap, cur, h1, h2, h3, _⟩
  · subst h1; cases hg
  · subst h1
    have : g' = g := by simpa [Value.ownBlock] using hg
    subst this
    exact ⟨h2, (Array.getElem?_eq_some_iff.1 h3).1, cur, h3⟩
structure Fo (w : World) (base : Nat) (v : Value) (av : Nat → Value) (l : List Fi) (k : Nat) : Prop where
  row : w.ownsRow base FN 3 v k (flo l av k)
  its : ∀ i, i < k → w.ownsRow base IT 1 (av i) (l.getD i fi0).lb.length (cellsI (l.getD i fi0).lb)
section
variable {w w' : World} {base k : Nat} {v v' : Value} {av : Nat → Value} {l : List Fi}
theorem Fo.later (h : Fo w base v av l k) (hb : Below w.heap.size w w') : Fo w' base v av l k := ⟨own_later h.row hb, fun i hi => own_later (h.its i hi) hb⟩
theorem fo_nil (w : World) (base : Nat) (l : List Fi) : Fo w base (.slice none 0 0) (fun _ => .slice none 0 0) l 0 := ⟨⟨by simp [flo], .inl ⟨rfl, rfl⟩⟩, fun i hi => by omega⟩
theorem Fo.next (h : Fo w base v av l k) {u : Value} (ho : w'.ownsRow base FN 3 v' (k + 1) (flo l av k ++ [.int .i64 (l.getD k fi0).ino, .int .i64 (l.getD k fi0).ver, u])) (hg : w.grownBy w' v.ownBlock)
    (hu : w.ownsRow base IT 1 u (l.getD k fi0).lb.length (cellsI (l.getD k fi0).lb)) : Fo w' base v' (updF av k u) l (k + 1) := by
  have keep : ∀ {u : Value} {n : Nat} {xs : List Value}, w.ownsRow base IT 1 u n xs → w'.ownsRow base IT 1 u n xs := fun hu => (Out.of_grown (X := fun g => v.ownBlock = some g) hg (fun g e => e)).own hu (fun q e1 e2 => by
    obtain ⟨-, -, c1, hb1⟩ := oblo hu e1
    obtain ⟨-, -, c2, hb2⟩ := oblo h.row e2
    have h3 := hb1.symm.trans hb2
    cases h3)
  refine ⟨?_, fun j hj => ?_⟩
  · rw [flo_succ, flo_congr l k (g := av) (fun i hi => updF_ne _ _ _ (by omega)), updF_at]
    exact ho
  · by_cases e : j = k
    · subst e; rw [updF_at]; exact keep hu
    · rw [updF_ne _ _ _ e]; exact keep (h.its j (by omega))
theorem Fo.fis {a : Option Addr} {c : Nat} (h : Fo w base (.slice a k c) av l k) (hk : k = l.length) : Fis w a l := fun hl => by
  subst hk
  have hpos : 0 < l.length := List.length_pos_iff.2 hl
  rcases h.row.2 with ⟨h1, h2⟩ | ⟨g, cap, cur, h1, _⟩
  · omega
  · cases h1
    refine ⟨g, 0, rfl, fun i hi => ?_⟩
    obtain ⟨q1, q2, q3⟩ := flo_get l av hi
    obtain ⟨a2, c2, e2, _⟩ := own_slice (h.its i hi)
    refine ⟨by rw [Nat.zero_add, h.row.cellAt _ (by omega)]; exact q1, by rw [Nat.zero_add, h.row.cellAt _ (by omega)]; exact q2, a2, c2, by rw [Nat.zero_add, h.row.cellAt _ (by omega), q3, e2], ?_⟩
    exact Ints.own (e2 ▸ h.its i hi)
end
/-- Of a slice of files: where there is no list there is nothing in it. -/
def FisN (w : World) (a : Option Addr) (l : List Fi) : Prop := ∀ b o i n c, i < l.length → a = some ⟨b, o, none⟩ → w.cell? ⟨b, o + i * 3 + 2, none⟩ = some (.slice none n c) → n = 0 ∧ c = 0
end Go.Proofs.YtlkgaefabahkoaaDoor
/-
  Partial segments: rows of blocks in memory of one's own; get.
-/
namespace Go.Proofs.YtlkgaefabahkoaaDoor
open Go.RowKit

abbrev SB := 49
theorem info_sb : (Tryd.prog.info? SB).map (fun i => (i.zero, i.size, i.bytes)) = some (some (.slice none 0 0), 1, 24) := by kernel_rfl
def cellsG (G : Nat → Nat) (n : Nat) : List Value := (List.range n).map fun i => .slice (some ⟨G i, 0, none⟩) 64 64
theorem cellsG_length (G : Nat → Nat) (n : Nat) : (cellsG G n).length = n := by simp [cellsG]
theorem cellsG_get (G : Nat → Nat) {n i : Nat} (h : i < n) : (cellsG G n)[i]? = some (.slice (some ⟨G i, 0, none⟩) 64 64) := by
  simp [cellsG, List.getElem?_range h]
theorem cellsG_succ (G : Nat → Nat) (n : Nat) : cellsG G (n + 1) = cellsG G n ++ [.slice (some ⟨G n, 0, none⟩) 64 64] := by simp [cellsG, List.range_succ]
theorem cellsG_congr {G H : Nat → Nat} (n : Nat) (h : ∀ i, i < n → G i = H i) : cellsG G n = cellsG H n := by
  unfold cellsG
  exact List.map_congr_left fun i hi => by rw [h i (List.mem_range.1 hi)]
/-- A row of blocks of bytes, all in memory of one's own. -/
structure RowB (w : World) (base : Nat) (v : Value) (n : Nat) (G : Nat → Nat) (F : Nat → List Nat) : Prop where
  row : w.ownsRow base SB 1 v n (cellsG G n)
  each : ∀ i, i < n → BBlk w (G i) (F i)
  low : ∀ i, i < n → base ≤ G i
  inj : ∀ i j, i < n → j < n → G i = G j → i = j
def lsF (F : Nat → List Nat) (n : Nat) : List (List Nat) := (List.range n).map F
theorem lsF_length (F : Nat → List Nat) (n : Nat) : (lsF F n).length = n := by simp [lsF]
theorem lsF_get (F : Nat → List Nat) {n i : Nat} (h : i < n) : nthL (lsF F n) i = F i := by
  unfold nthL lsF
  rw [List.getD_eq_getElem?_getD, List.getElem?_map, List.getElem?_range h]
  rfl
section
variable {C base n : Nat} {w w' W : World} {L : Dl} {d : Dm} {v v' : Value} {G : Nat → Nat} {F : Nat → List Nat}
theorem rowB_nil (w : World) (base : Nat) (G : Nat → Nat) (F : Nat → List Nat) : RowB w base (.slice none 0 0) 0 G F :=
  ⟨⟨by simp [cellsG], .inl ⟨rfl, rfl⟩⟩, fun i hi => by omega, fun i hi => by omega, fun i j hi => by omega⟩
theorem RowB.congr {F' : Nat → List Nat} (h : RowB w base v n G F) (hF : ∀ i, i < n → F' i = F i) : RowB w base v n G F' :=
  ⟨h.row, fun i hi => by rw [hF i hi]; exact h.each i hi, h.low, h.inj⟩
theorem RowB.later (h : RowB w base v n G F) (hb : Below w.heap.size w w') : RowB w' base v n G F :=
  ⟨own_later h.row hb, fun i hi => (h.each i hi).out (X := fun _ => False) (Out.of_below hb) (fun h => h), h.low, h.inj⟩
theorem RowB.out {X : Nat → Prop} (h : RowB w base v n G F) (ho : Out X w w') (hv : ∀ g, v.ownBlock = some g → ¬ X g) (hg : ∀ i, i < n → ¬ X (G i)) : RowB w' base v n G F :=
  ⟨ho.own h.row hv, fun i hi => (h.each i hi).out ho (hg i hi), h.low, h.inj⟩
theorem RowB.apart (h : RowB w base v n G F) (hD : Dk C w L d) : (∀ g, v.ownBlock = some g → ¬ L.has g) ∧ ∀ i, i < n → ¬ L.has (G i) := by
  refine ⟨fun g hg => ?_, fun i hi => hD.apart (h.each i hi).1 (by decide) (by decide) (by decide)⟩
  obtain ⟨_, _, cs, hc⟩ := oblo h.row hg
  exact hD.apart hc (by decide) (by decide) (by decide)
theorem RowB.over {L' : Dl} (h : RowB w base v n G F) (hD : Dk C w L d) (ho : Out L.has w w') : RowB w' base v n G F := h.out ho (h.apart hD).1 (h.apart hD).2
theorem RowB.snoc {g : Nat} {l : List Nat} (h : RowB w base v n G F) (hg : w.grownBy w' v.ownBlock) (ho : w'.ownsRow base SB 1 v' (n + 1) (cellsG G n ++ [.slice (some ⟨g, 0, none⟩) 64 64])) (hb : BBlk w g l) (hlow : base ≤ g) (hnew : ∀ i, i < n → G i ≠ g) :
    RowB w' base v' (n + 1) (updF G n g) (updB F n l) := by
  have hkeep : ∀ {k : Nat} {m : List Nat}, BBlk w k m → BBlk w' k m := fun hk => ⟨hk.1.grown hg (hk.1.row_apart h.row (by decide)), hk.2⟩
  refine ⟨?_, fun i hi => ?_, fun i hi => ?_, fun i j hi hj he => ?_⟩
  · rw [cellsG_succ, updF_at, cellsG_congr (H := G) n (fun i hi => updF_ne G n g (by omega))]
    exact ho
  · by_cases e : i = n
    · subst e; rw [updF_at, updB_at]; exact hkeep hb
    · rw [updF_ne _ _ _ e, updB_ne _ _ e]; exact hkeep (h.each i (by omega))
  · by_cases e : i = n
    · subst e; rw [updF_at]; exact hlow
    · rw [updF_ne _ _ _ e]; exact h.low i (by omega)
  · by_cases e1 : i = n
    · by_cases e2 : j = n
      · rw [e1, e2]
      · subst e1; rw [updF_at, updF_ne _ _ _ e2] at he; exact absurd he.symm (hnew j (by omega))
    · by_cases e2 : j = n
      · subst e2; rw [updF_at, updF_ne _ _ _ e1] at he; exact absurd he (hnew i (by omega))
      · rw [updF_ne _ _ _ e1, updF_ne _ _ _ e2] at he; exact h.inj i j (by omega) (by omega) he
theorem RowB.lists {a : Option Addr} {cap : Nat} (h : RowB w base (.slice a n cap) n G F) (hn : n ≤ 1000000) : Lists w a n (fun i => some ⟨G i, 0, none⟩) (fun _ => 64) (lsF F n) := by
  refine ⟨(lsF_length F n).symm, by omega, fun hn0 => ?_, fun i hi => ?_⟩
  · rcases id h.row.2 with ⟨h1, h0⟩ | ⟨g, c, cur, h1, _⟩
    · exact absurd h0 hn0
    · cases h1
      refine ⟨g, 0, rfl, fun i hi => ?_⟩
      rw [Nat.zero_add, h.row.cellAt i (by omega), cellsG_get G hi, lsF_get F hi, (h.each i hi).2.1]
  · have hb := h.each i hi
    rw [lsF_get F hi]
    refine ⟨⟨hb.2.2, by rw [hb.2.1]; decide, fun _ => ⟨G i, 0, rfl, fun j hj => ?_⟩⟩, (fun e => by cases e), by rw [hb.2.1]; exact Nat.le_refl _⟩
    rw [Nat.zero_add, hb.1.cell, List.getElem?_toArray, cellsB_get _ _ hj]
theorem RowB.lsk {a : Option Addr} {cap : Nat} (h : RowB w base (.slice a n cap) n G F) (hn : n ≤ 1000000) (hD : Dk C w L d) : Lsk w L a n (fun i => some ⟨G i, 0, none⟩) (fun _ => 64) (lsF F n) := by
  refine ⟨h.lists hn, fun b o hn0 ha => ?_, fun i b o hi ha _ => ?_⟩
  · subst ha
    exact (h.apart hD).1 b rfl
  · injection ha with ha
    injection ha with e1 _
    subst e1
    exact (h.apart hD).2 i hi
def GetR (d : Dm) (a0 : Nat) (w : World) (k : Nat) (v : Value) (wr : World) : Prop := ∃ G, RowB wr w.heap.size v k G (fun i => d.N (a0 + i)) ∧ Below w.heap.size w wr
def GetO (d : Dm) (a0 n : Nat) (w : World) (e : Ending) (w' : World) : Prop := ∃ a c G, e = .returned (.tuple #[.slice a n c, .bool true]) ∧ RowB w' w.heap.size (.slice a n c) n G (fun i => d.N (a0 + i)) ∧ Below w.heap.size w w'
set_option maxHeartbeats 1000000 in
theorem get_no (addr k : Int) (hk : 0 ≤ k) (hh : hasB d.n addr k = false) (h : Dk C w L d) : Calls Tryd.prog 41 #[.pointer (some ⟨L.bd, 0, none⟩), .int .i64 addr, .int .i64 k] w fun e w' => e = .returned (.tuple #[.slice none 0 0, .bool false]) ∧ w = w' := by
  have HH := Lib.hid (has_any addr k hk h)
  rw [hh] at HH
  clear h hh
  go_enter Tryd.func41, Tryd.ntmps41
  go_wp2_with fail
  refine HH.out.mono ?_
  rintro e w1 ⟨rfl, rfl⟩
  go_wp2
  go_ret2
  exact ⟨rfl, rfl⟩
set_option maxHeartbeats 2000000 in
theorem get_yes (a0 n : Nat) (hh : a0 + n ≤ d.n) (h : Dk C w L d) : Calls Tryd.prog 41 #[.pointer (some ⟨L.bd, 0, none⟩), .int .i64 a0, .int .i64 n] w (GetO d a0 n w) := by
  have HH := Lib.hid (has_any (a0 : Int) (n : Int) (by omega) h)
  have hb : hasB d.n (a0 : Int) (n : Int) = true := by
    simp only [hasB, Bool.and_eq_true, decide_eq_true_eq]
    omega
  rw [hb] at HH
  have hf := h.few.2
  have H := Lib.hid h
  have HX := Lib.hid hh
  have hn4 : n ≤ 4096 := by omega
  have ha4 : a0 ≤ 4096 := by omega
  have HR0 : Hid (GetR d a0 w 0 (.slice none 0 0) w) := ⟨fun _ => 0, rowB_nil w _ _ _, Below.refl _ _⟩
  clear h hh hb hf
  go_enter Tryd.func41, Tryd.ntmps41
  go_wp2_with fail
  refine HH.out.mono ?_
  rintro e w1 ⟨rfl, rfl⟩
  clear HH
  go_wp2_with fail
  go_loopw [8, 18] (fun v i wr => ∃ k : Nat, k ≤ n ∧ i = .int .i64 k ∧ GetR d a0 w k v wr) (fun _ i _ => n - (intOf i).toNat)
  case atStart => exact ⟨0, Nat.zero_le _, rfl, HR0.out⟩
  case round =>
    clear HR0
    obtain ⟨k, hk, rfl, G, hR, hb⟩ := hrel
    have HR := Lib.hid hR
    have HB := Lib.hid hb
    obtain ⟨va, vc, rfl, _⟩ := own_slice hR.row
    clear hR hb
    by_cases hlt : k < n
    · have k1 : (k : Int) < (n : Int) := by omega
      have HRd : Hid (Calls Tryd.prog 24 #[.pointer (some ⟨L.bd, 0, none⟩), .int .i64 ((a0 : Int) + (k : Int))] wr (ReadO wr (d.N (a0 + k)))) := by
        have := read_yes (a0 + k) (by have := HX.out; omega) (H.out.later HB.out)
        rwa [Int.natCast_add] at this
      go_wp2_with fail
      refine HRd.out.mono ?_
      rintro e w2 ⟨g, rfl, hbk, hgl, hb2⟩
      have HR2 := Lib.hid (HR.out.later (hb2.trans ((sup_pc w2 (.cells #[.slice (some ⟨g, 0, none⟩) 64 64] SB)).mono hb2.size)))
      have HBk := Lib.hid (hbk.out (X := fun _ => False) (Out.of_below (sup_pc w2 (.cells #[.slice (some ⟨g, 0, none⟩) 64 64] SB))) (fun h => h))
      have HB2 := Lib.hid (HB.out.trans ((hb2.trans ((sup_pc w2 (.cells #[.slice (some ⟨g, 0, none⟩) 64 64] SB)).mono hb2.size)).mono HB.out.size))
      have HGl := Lib.hid (Nat.le_trans HB.out.size hgl)
      have HNew : Hid (∀ i, i < k → G i ≠ g) := fun i hi e => by have := (HR.out.each i hi).1.lt; omega
      have hz2 : w.heap.size ≤ w2.heap.size + 1 := by have := HB2.out.size; simpa using this
      clear hbk hgl hb2 HR HB HRd
      go_wp2_with (at_builtin; refine wp_append_rowO rfl (.tmp 31) (.tmp 33) 23 rfl w.heap.size SB _ 1 24 Tryd.underlying23 info_sb (by kernel_rfl) (by decide) (by decide) (.slice va k vc) k _ rfl HR2.out.row (some ⟨w2.heap.size, 0, none⟩) 1 1 [.slice (some ⟨g, 0, none⟩) 64 64] rfl rfl (laid_srcO w2 SB _ _ rfl) (by simp [Value.oneCell']) (fun e => by cases e) (by omega) (by simp; omega) ?_; intro a6 c6 w6 hown hgrow hat; have HR6 := Lib.hid (HR2.out.snoc hgrow hown HBk.out HGl.out HNew.out); have HB6 := Lib.hid (HB2.out.grown hgrow (by simpa using hz2) (fun b hb => (own_lt HR2.out.row hb).1)); clear hown hgrow hat)
      have HR7 : Hid (GetR d a0 w (k + 1) (.slice a6 (k + 1) c6) w6) := ⟨_, HR6.out.congr (fun i hi => by
        by_cases e : i = k
        · subst e; rw [updB_at]
        · rw [updB_ne _ _ e]), HB6.out⟩
      clear HR6 HB6 HR2 HBk HB2 HGl HNew
      go_roundw
      case rel => exact ⟨k + 1, hlt, by simp, HR7.out⟩
      case measure => simp [intOf]; omega
    · obtain rfl : n = k := by omega
      have HE : Hid (GetO d a0 n w (.returned (.tuple #[.slice va n vc, .bool true])) wr) := ⟨va, vc, G, rfl, HR.out, HB.out⟩
      clear HR HB
      go_wp2
      go_ret2
      exact HE.out
end
end Go.Proofs.YtlkgaefabahkoaaDoor
/-
  summary.reader.take: numbers from bytes, one behind the other; what isn't there is zero.
-/
namespace Go.Proofs.YtlkgaefabahkoaaDoor
open Go.RowKit

abbrev TRD := 163
def val (l : List Nat) : Nat := l.foldr (fun b v => b + 256 * v) 0
theorem val_nil : val [] = 0 := rfl
theorem val_lt : ∀ l : List Nat, (∀ x ∈ l, x < 256) → val l < 256 ^ l.length
  | [], _ => by decide
  | b :: l, h => by
    have h1 := val_lt l (fun x hx => h x (List.mem_cons_of_mem _ hx))
    have h2 := h b (List.mem_cons_self ..)
    show b + 256 * val l < 256 ^ (l.length + 1)
    rw [Nat.pow_succ]
    omega
theorem val_snoc : ∀ (l : List Nat) (x : Nat), val (l ++ [x]) = val l + x * 256 ^ l.length
  | [], x => by simp [val]
  | b :: l, x => by
    have := val_snoc l x
    show b + 256 * val (l ++ [x]) = b + 256 * val l + x * 256 ^ (l.length + 1)
    rw [this, Nat.pow_succ, Nat.mul_add, ← Nat.mul_assoc, ← Nat.mul_assoc]
    have : 256 * x * 256 ^ l.length = x * 256 ^ l.length * 256 := by rw [Nat.mul_comm 256 x, Nat.mul_assoc, Nat.mul_comm 256, ← Nat.mul_assoc]
    omega
structure RdS (w : World) (R : Nat) (a : Option Addr) (n cap : Nat) (l : List Nat) : Prop where
  blo : Blo w R TRD #[.slice a n cap]
  len : n = l.length
  le : n ≤ cap
  lt : n ≤ 1000
  bytes : Bytes w a l
  nil : a = none → l = [] ∧ cap = 0
theorem Bytes.aside {w w' : World} {a : Option Addr} {l : List Nat} {R : Nat} {t : TypeId} {v : Value} (h : Bytes w a l) (hB : Blo w R t #[v]) (hv : ∀ k n, v ≠ .int k n) (hg : w.grownBy w' (some R)) : Bytes w' a l :=
  ⟨h.1, h.2.1, fun hl => by
    obtain ⟨b, o, ha, hc⟩ := h.2.2 hl
    refine ⟨b, o, ha, fun i hi => ?_⟩
    have hne : b ≠ R := fun e => by
      subst e
      have h1 := hc i hi
      rw [hB.cell] at h1
      have : o + i = 0 := by
        rcases Nat.eq_zero_or_pos (o + i) with h | h
        · exact h
        · rw [Array.getElem?_eq_none (by simp; omega)] at h1; cases h1
      rw [this] at h1
      exact hv _ _ (Option.some.inj h1)
    have hlt : b < w.heap.size := by
      obtain ⟨o', ho', _⟩ := cells_of_cell (hc i hi)
      exact (Array.getElem?_eq_some_iff.1 ho').1
    exact (World.cell?_of_block (a := ⟨b, o + i, Option.none⟩) (hg.block b hlt (by simpa using hne))).trans (hc i hi)⟩
theorem size_u8t (w : World) : (Go.sizeOf U8).run Tryd.prog w = .ok 1 w := by kernel_rfl
theorem or_i64_nat (a b : Nat) (ha : a < 4611686018427387904) (hb : b < 4611686018427387904) : bits .or .i64 (a : Int) (b : Int) = ((a ||| b : Nat) : Int) := by
  have hx : a ||| b < 2 ^ 62 := Nat.or_lt_two_pow (by omega) (by omega)
  have h1 : (BitVec.ofInt 64 (a : Int)).toNat = a := by
    rw [BitVec.ofInt_natCast, BitVec.toNat_ofNat]; exact Nat.mod_eq_of_lt (by omega)
  have h2 : (BitVec.ofInt 64 (b : Int)).toNat = b := by
    rw [BitVec.ofInt_natCast, BitVec.toNat_ofNat]; exact Nat.mod_eq_of_lt (by omega)
  show IntKind.i64.wrap ((BitVec.ofInt 64 (a : Int) ||| BitVec.ofInt 64 (b : Int)).toNat : Int) = _
  rw [BitVec.toNat_or, h1, h2, IntKind.wrap_i64]
  omega
theorem or_step (u z j : Nat) (hu : u < 256 ^ j) (hz : z < 256) (hj : j ≤ 3) : bits .or .i64 (u : Int) (wrap64 ((z : Int) * 2 ^ (8 * j))) = ((u + z * 256 ^ j : Nat) : Int) := by
  have e : (256 : Nat) ^ j = 2 ^ (8 * j) := by rw [Nat.pow_mul]
  have hp : (256 : Nat) ^ j ≤ 256 ^ 3 := Nat.pow_le_pow_right (by decide) hj
  have hzp : z * 256 ^ j ≤ 255 * 256 ^ 3 := Nat.mul_le_mul (by omega) hp
  have hc : (z : Int) * 2 ^ (8 * j) = ((z * 256 ^ j : Nat) : Int) := by rw [e, Int.natCast_mul, Int.natCast_pow]; rfl
  have hw : wrap64 ((z : Int) * 2 ^ (8 * j)) = ((z * 256 ^ j : Nat) : Int) := by
    rw [hc]; unfold wrap64; omega
  rw [hw, or_i64_nat _ _ (by omega) (by omega)]
  congr 1
  rw [e] at hu ⊢
  rw [Nat.or_comm, ← Nat.shiftLeft_eq, ← Nat.shiftLeft_add_eq_or_of_lt hu, Nat.add_comm]
theorem slice_tail2 {P : Program} (T e : TypeId) (ht : P.underlying T = some (.slice e)) (hz : ∀ w, (Go.sizeOf e).run P w = .ok 1 w) {a : Option Addr} {l : List Nat} {n cap : Nat} (hn : n = l.length)
    (ha : a = none → l = [] ∧ cap = 0) (hc : n ≤ cap) (h9 : n ≤ 1000) (k : Nat) (hk : k ≤ n) :
    ∃ a', (∀ W, (Instr.slice T (.slice a n cap) (some (.int .i64 (k : Int))) none none).run P W = .ok (.slice a' (n - k) (cap - k)) W) ∧ (∀ w : World, Bytes w a l → Bytes w a' (l.drop k)) ∧ (a' = none → l.drop k = [] ∧ cap - k = 0) := by
  have ht' : P.underlying T = some (.slice (P.elem T)) := by simp [Program.elem, ht]
  have he : P.elem T = e := by simp [Program.elem, ht]
  refine ⟨if cap = k then a else a.map (·.add (k * 1)), fun W => ?_, fun w h => ?_, ?_⟩
  · rw [run_slice_l W T _ _ _ ht' .i64 _ (by omega) (by omega), he, hz]
    simp [Result.andThen, sliced]
  · refine ⟨fun x hx => h.1 x (List.mem_of_mem_drop hx), by have := h.2.1; simp; omega, fun hne => ?_⟩
    have hlen : k < l.length := by
      rcases Nat.lt_or_ge k l.length with hh | hh
      · exact hh
      · exact absurd (List.drop_eq_nil_of_le hh) hne
    have hl : l ≠ [] := fun e => by subst e; simp at hlen
    obtain ⟨b, o, rfl, hcell⟩ := h.2.2 hl
    rw [if_neg (by omega)]
    refine ⟨b, o + k, by simp [Addr.add_lit], fun i hi => ?_⟩
    simp only [List.length_drop] at hi
    rw [Nat.add_assoc, hcell (k + i) (by omega), List.getD_eq_getElem?_getD, List.getD_eq_getElem?_getD, List.getElem?_drop]
  · intro hn'
    cases a with
    | none => obtain ⟨rfl, h0⟩ := ha rfl; exact ⟨by simp, by omega⟩
    | some x => split at hn' <;> simp at hn'
theorem rds_cut {w : World} {R n cap : Nat} {a : Option Addr} {l : List Nat} (h : RdS w R a n cap l) (a' : Option Addr) (n' cap' j : Nat) (hj : j ≤ n) (hn' : n' = n - j) (hy : Bytes w a' (l.drop j)) (hnl : a' = none → l.drop j = [] ∧ cap - j = 0) (hc' : cap' = cap - j := by rfl) :
    RdS (w.setCell ⟨R, 0, none⟩ (.slice a' n' cap')).drew R a' n' cap' (l.drop j) ∧ w.grownBy (w.setCell ⟨R, 0, none⟩ (.slice a' n' cap')).drew (some R) := by
  subst hn' hc'
  have hg : w.grownBy (w.setCell ⟨R, 0, none⟩ (.slice a' (n - j) (cap - j))).drew (some R) := by
    have := grown_put w ⟨R, 0, none⟩ (.slice a' (n - j) (cap - j))
    exact ⟨this.os, this.tape, this.output, this.size, this.block⟩
  refine ⟨⟨(h.blo.put 0 (.slice a' (n - j) (cap - j))).drew, ?_, ?_, ?_, hy.aside h.blo (fun k m => by simp) hg, hnl⟩, hg⟩
  · rw [List.length_drop, h.len]
  · have := h.le; omega
  · have := h.lt; omega
set_option maxHeartbeats 4000000 in
theorem take_any {w : World} (k R : Nat) (a : Option Addr) (n cap : Nat) (l : List Nat) (h : RdS w R a n cap l) (hk : k ≤ 4) :
    Calls Tryd.prog 92 #[.pointer (some ⟨R, 0, none⟩), .int .i64 k] w fun e w' => ∃ a' n' cap', e = .returned (.int .i64 (val (l.take k) : Nat)) ∧ RdS w' R a' n' cap' (l.drop k) ∧ w.grownBy w' (some R) ∧ ∀ W, Bytes W a l → Bytes W a' (l.drop k) := by
  have HR := Lib.hid h
  have c0 := h.blo.cell 0
  have f0 := h.blo.frozen 0
  have hn := h.lt
  simp at c0
  clear h
  rcases Nat.lt_or_ge n k with hc | hc
  · have hmin : ((n : Int) < (k : Int)) = True := eq_true (by omega)
    have hmin2 : (n < k) = True := eq_true (by omega)
    go_enter Tryd.func92, Tryd.ntmps92
    go_wp2_with fail
    go_loopw [5, 6, 14] (fun v _ t wr => ∃ j : Nat, j ≤ n ∧ t = .int .i64 j ∧ v = .int .i64 (val (l.take j) : Nat) ∧ wr = w) (fun _ _ t _ => n - (intOf t).toNat)
    case atStart => exact ⟨0, Nat.zero_le _, rfl, rfl, rfl⟩
    case round =>
      obtain ⟨j, hj, rfl, rfl, rfl⟩ := hrel
      by_cases hjl : j < n
      · have hjl' : j < l.length := by have := HR.out.len; omega
        obtain ⟨b, o, rfl, hc⟩ := HR.out.bytes.2.2 (fun e => by rw [e] at hjl'; cases hjl')
        have t1 := hc j hjl'
        have hb8 : l.getD j 0 < 256 := getD_byte HR.out.bytes.1 j
        have hv8 : val (l.take j) < 256 ^ j := by
          have := val_lt (l.take j) (fun x hx => HR.out.bytes.1 x (List.mem_of_mem_take hx))
          rwa [List.length_take, Nat.min_eq_left (by omega)] at this
        have HV : Hid (val (l.take (j + 1)) = val (l.take j) + l.getD j 0 * 256 ^ j) := by
          show _ = _
          rw [take_snocF l 0 j hjl', val_snoc, List.length_take, Nat.min_eq_left (by omega)]
        clear hc
        generalize val (l.take j) = u at *
        generalize l.getD j 0 = z at *
        have HO := Lib.hid (or_step u z j hv8 hb8 (by omega))
        go_wp2_with fail
        go_roundw
        case rel => exact ⟨j + 1, by omega, by simp, by rw [HV.out]; exact congrArg _ HO.out, trivial⟩
        case measure => simp [intOf]; omega
      · obtain rfl : j = n := by omega
        obtain ⟨a', hsl, hby, hnl⟩ := slice_tail2 49 5 Tryd.underlying49 size_u8t HR.out.len HR.out.nil HR.out.le hn j (by omega)
        have HY := Lib.hid hby
        have HNl := Lib.hid hnl
        have HTk : Hid (l.take j = l.take k ∧ l.drop j = l.drop k) := by
          have hx := HR.out.len
          constructor
          · exact (List.take_of_length_le (by omega)).trans (List.take_of_length_le (by omega)).symm
          · exact (List.drop_of_length_le (by omega)).trans (List.drop_of_length_le (by omega)).symm
        clear hby hnl hjl
        go_wp2_with fail
        have HS := Lib.hid (rds_cut HR.out a' (0) (cap - j) j (by omega) (by omega) (HY.out _ HR.out.bytes) HNl.out)
        go_region
        go_wp2
        go_ret
        exact ⟨a', _, _, (by rw [HTk.out.1]; rfl), by rw [← HTk.out.2]; exact HS.out.1, HS.out.2, by rw [← HTk.out.2]; exact HY.out⟩
  · have hmin : ((n : Int) < (k : Int)) = False := eq_false (by omega)
    have hmin2 : (n < k) = False := eq_false (by omega)
    go_enter Tryd.func92, Tryd.ntmps92
    go_wp2_with fail
    go_loopw [5, 6, 14] (fun v _ t wr => ∃ j : Nat, j ≤ k ∧ t = .int .i64 j ∧ v = .int .i64 (val (l.take j) : Nat) ∧ wr = w) (fun _ _ t _ => k - (intOf t).toNat)
    case atStart => exact ⟨0, Nat.zero_le _, rfl, rfl, rfl⟩
    case round =>
      obtain ⟨j, hj, rfl, rfl, rfl⟩ := hrel
      by_cases hjl : j < k
      · have hjl' : j < l.length := by have := HR.out.len; omega
        obtain ⟨b, o, rfl, hc⟩ := HR.out.bytes.2.2 (fun e => by rw [e] at hjl'; cases hjl')
        have t1 := hc j hjl'
        have hb8 : l.getD j 0 < 256 := getD_byte HR.out.bytes.1 j
        have hv8 : val (l.take j) < 256 ^ j := by
          have := val_lt (l.take j) (fun x hx => HR.out.bytes.1 x (List.mem_of_mem_take hx))
          rwa [List.length_take, Nat.min_eq_left (by omega)] at this
        have HV : Hid (val (l.take (j + 1)) = val (l.take j) + l.getD j 0 * 256 ^ j) := by
          show _ = _
          rw [take_snocF l 0 j hjl', val_snoc, List.length_take, Nat.min_eq_left (by omega)]
        clear hc
        generalize val (l.take j) = u at *
        generalize l.getD j 0 = z at *
        have HO := Lib.hid (or_step u z j hv8 hb8 (by omega))
        go_wp2_with fail
        go_roundw
        case rel => exact ⟨j + 1, by omega, by simp, by rw [HV.out]; exact congrArg _ HO.out, trivial⟩
        case measure => simp [intOf]; omega
      · obtain rfl : j = k := by omega
        obtain ⟨a', hsl, hby, hnl⟩ := slice_tail2 49 5 Tryd.underlying49 size_u8t HR.out.len HR.out.nil HR.out.le hn j (by omega)
        have HY := Lib.hid hby
        have HNl := Lib.hid hnl
        have HTk : Hid (l.take j = l.take j ∧ l.drop j = l.drop j) := by
          have hx := HR.out.len
          constructor
          · rfl
          · rfl
        clear hby hnl hjl
        go_wp2_with fail
        have HS := Lib.hid (rds_cut HR.out a' (n - j) (cap - j) j (by omega) (by omega) (HY.out _ HR.out.bytes) HNl.out)
        go_region
        go_wp2
        go_ret
        exact ⟨a', _, _, rfl, HS.out.1, HS.out.2, HY.out⟩
end Go.Proofs.YtlkgaefabahkoaaDoor
/-
  summary.gather: the Epoch and Count of the first sector, and the words of all.
-/
namespace Go.Proofs.YtlkgaefabahkoaaDoor
open Go.RowKit

attribute [local go_sem] Oper.semAt_some

theorem opIn_append_bytes {F : Fence} {fn : Nat} {P : Program} {w : World} {o : Oper} {act : Act} {K : Act → World → Prop} {Q : Exit → Act → World → Prop} (s x : Operand) (t : TypeId)
    (ho : o.op = .call { callee := .builtin .append, args := #[s, x], argTypes := #[t, t] })
    (base : Nat) (ht : P.underlying t = some (.slice U8)) (hi : (P.info? U8).map (fun i => (i.zero, i.size, i.bytes)) = some (some (.int .u8 0), 1, 1))
    (v : Value) (n : Nat) (xs : List Nat) (hs : act.eval s = v) (hown : w.ownsRow base U8 1 v n (cellsB xs))
    (a : Option Addr) (m cap : Nat) (l : List Nat) (hx : act.eval x = .slice a m cap) (hm : m = l.length) (hl : Bytes w a l) (hne : l ≠ [])
    (hroom : n + m ≤ 140737488355328) (hbase : base ≤ w.heap.size)
    (h : ∀ v' w', w'.ownsRow base U8 1 v' (n + m) (cellsB (xs ++ l)) → w.grownBy w' v.ownBlock → K (act.put o.dst v') w') : o.wpIn F fn P act w K Q := by
  obtain ⟨i, hi0, hz, hs1, hb1⟩ := info_parts hi
  obtain ⟨b, off, rfl, hc⟩ := hl.2.2 hne
  subst hm
  obtain ⟨v', w', hrun, r1, r2, r3⟩ := run_append_own (P := P) w base t o.type U8 i (.int .u8 0) 1 1 ht hi0 hz hs1 hb1 rfl (by decide) v n (cellsB xs) hown ⟨b, off, none⟩ l.length cap (cellsB l) (by rw [cellsB_length, Nat.mul_one])
    (fun j u hj => by
      have hjl : j < l.length := by
        rcases Nat.lt_or_ge j l.length with h | h
        · exact h
        · rw [List.getElem?_eq_none (by rw [cellsB_length]; exact h)] at hj; cases hj
      rw [cellsB_get l j hjl] at hj
      cases hj
      rw [Addr.add_lit]; exact hc j hjl)
    (fun u hu => by
      simp only [cellsB, List.mem_map] at hu
      obtain ⟨_, _, rfl⟩ := hu
      rfl) (by unfold maxLen; omega) (by omega) hbase
  rw [cellsB_append] at r1
  unfold Oper.wpIn
  refine ⟨?_, ?_⟩
  · simp [Oper.about, ho, resolve, Target.leads, Sem.run_pure]
  · rw [Oper.semAt_plain F _ _ (by rw [ho]; intro c hc'; cases hc')]
    simp [execOp, ho, resolve, invoke, builtin, hs, hx, hrun, Result.andThen]
    exact h v' w' r1 r2
theorem bytes_part {w : World} {b o : Nat} {l : List Nat} (h : Bytes w (some ⟨b, o, none⟩) l) (k n : Nat) (hkn : k + n ≤ l.length) (hn : 0 < n) : Bytes w (some ⟨b, o + k, none⟩) ((l.drop k).take n) := by
  have hx := h.2.1
  refine ⟨fun x hx => h.1 x (List.mem_of_mem_drop (List.mem_of_mem_take hx)), by simp only [List.length_take, List.length_drop]; omega, fun _ => ?_⟩
  obtain ⟨b', o', e, hc⟩ := h.2.2 (fun e => by rw [e] at hkn; simp at hkn; omega)
  cases e
  refine ⟨b, o + k, rfl, fun i hi => ?_⟩
  simp only [List.length_take, List.length_drop] at hi
  rw [Nat.add_assoc, hc (k + i) (by omega)]
  simp [List.getD_eq_getElem?_getD, List.getElem?_take_of_lt (show i < n by omega)]
theorem val_2 (l : List Nat) (o : Nat) : val ((l.drop o).take 2) = v2 l o := by
  rw [show v2 l o = v2 (l.drop o) 0 by rw [v2_drop]; rfl]
  rcases l.drop o with _ | ⟨a, _ | ⟨b, t⟩⟩ <;> simp [val, v2, at']
theorem val_1 (l : List Nat) (o : Nat) : val ((l.drop o).take 1) = at' l o := by
  rw [show at' l o = at' (l.drop o) 0 by rw [at_drop]; rfl]
  rcases l.drop o with _ | ⟨a, t⟩ <;> simp [val, at']
theorem val_4 (l : List Nat) (o : Nat) : val ((l.drop o).take 4) = at' l o + 256 * at' l (o + 1) + 65536 * at' l (o + 2) + 16777216 * at' l (o + 3) := by
  have e : ∀ j, at' l (o + j) = at' (l.drop o) j := fun j => (at_drop l o j).symm
  rw [e 1, e 2, e 3, show at' l o = at' (l.drop o) 0 from e 0]
  rcases l.drop o with _ | ⟨a, _ | ⟨b, _ | ⟨c, _ | ⟨d, t⟩⟩⟩⟩ <;> simp [val, at'] <;> omega
def gatL (l ys : List Nat) : List Nat := ys.flatMap fun k => (l.drop (16 * k + 5)).take 11
theorem gatL_snoc (l ys : List Nat) (x : Nat) : gatL l (ys ++ [x]) = gatL l ys ++ (l.drop (16 * x + 5)).take 11 := by simp [gatL]
theorem gatL_range (l : List Nat) (n : Nat) : gatL l (List.range n) = gat l n := rfl
theorem gatL_len {l : List Nat} (hl : l.length = 128) : ∀ ys : List (Fin 8), (gatL l (ys.map fun (y : Fin 8) => y.val)).length = 11 * ys.length
  | [] => rfl
  | y :: ys => by
    have := gatL_len hl ys
    show ((l.drop (16 * y.val + 5)).take 11 ++ gatL l (ys.map fun (y : Fin 8) => y.val)).length = _
    have hy := y.2
    rw [List.length_append, this, List.length_take, List.length_drop, hl, List.length_cons]
    omega
/-- The box of the words' slice, and the words. -/
structure Gr (w : World) (s B : Nat) (n : Nat) (xs : List Nat) (wr : World) : Prop where
  row : ∃ v, Blo wr B 49 #[v] ∧ wr.ownsRow s U8 1 v n (cellsB xs)
  below : Below w.heap.size w wr
  le : w.heap.size ≤ B
  hs : B + 2 < s
end Go.Proofs.YtlkgaefabahkoaaDoor
