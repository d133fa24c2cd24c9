/-
  SwDecM · SwDec · Structs · FinIn · SwIn · RegInv · ObjInv: these texts in one.
-/
import Derived.Test.YtlkgaefabahkoaaDoorPk04
import Derived.Test.YtlkgaefabahkoaaDoorPk05
import Derived.Test.YtlkgaefabahkoaaDoorPk03
import Derived.Deep.DeepCutAuto
import Derived.Test.YtlkgaefabahkoaaDoorPk00
import Derived.Deep.Slices
import Derived.Deep.Grids
import Derived.SizedLaws
import Derived.ChangeArms
import Derived.OpenShut
import Derived.Test.YtlkgaefabahkoaaDoorPk01
import Derived.Lib.SmallJoins
import Derived.StillTail
import Derived.RegionTactic
import Derived.Laws.Tables
/-
  summary.Encode of what is no summary; what summary.parse answers, in numbers.
-/
namespace Go.Proofs.YtlkgaefabahkoaaDoor
open Go.RowKit

set_option maxHeartbeats 4000000 in
theorem encode_bad {w : World} (m : Sm) (s : Nat) (fa : Option Addr) (fn fc : Nat) (ia : Option Addr) (inn ic : Nat) (hchk : chkM m ≠ 0) (hF : Fis w fa m.fs) (hn : fn = m.fs.length) (hI : Ints w ia m.is) (hin : inn = m.is.length) (hsz : szF m.fs ≤ 1000000000) (hi9 : inn ≤ 1000000000) (hlb : ∀ x ∈ m.fs, ∀ n ∈ x.lb, -9223372036854775808 ≤ n) :
    Calls Tryd.prog 50 #[part m.e m.c m.i m.p m.x fa fn fc ia inn ic, .int .u32 s] w fun e w' => e = .returned (.tuple #[.slice none 0 0, .int .i64 (chkM m)]) ∧ Below w.heap.size w w' := by
  have HC := Lib.hid (fun W (hW : Below w.heap.size w W) => check_any (w := W) m.e m.c m.i m.p m.x m.fs m.is fa fn fc ia inn ic (hF.later hW) hn hsz (hI.below hW) hin hi9 hlb)
  have HCM : Hid (chkC m.e m.c m.i m.p m.x m.fs m.is = chkM m) := rfl
  clear hF hI hn hin hsz hlb
  generalize chkM m = z at *
  go_enter Tryd.func50, Tryd.ntmps50
  go_wp2_with fail
  refine (HC.out _ (sup_pc _ _)).mono ?_
  rintro e w1 ⟨rfl, hb1⟩
  have HB1 := Lib.hid ((sup_pc w (.cells #[.int .i64 m.e, .int .i64 m.c, .int .i64 m.i, .int .i64 m.p, .int .i64 m.x, .slice fa fn fc, .slice ia inn ic] 36)).trans (hb1.mono (sup_pc _ _).size))
  rw [HCM.out]
  clear hb1 HC
  go_wp2
  refine bodyPost_ret (results_tmp2 rfl _ _ _) rfl ?_
  exact ⟨rfl, HB1.out⟩
theorem szF_files (L : List Nat) (hL : ∀ i, at' L i < 256) (n : Nat) : szF (filesM L n) ≤ n * 514 := by
  induction n with
  | zero => exact Nat.le_refl _
  | succ n ih =>
    have e : filesM L (n + 1) = filesM L n ++ [fiAt L (pos L n)] := by simp [filesM, List.range_succ]
    rw [e, szF_snoc]
    have : (fiAt L (pos L n)).lb.length = at' L (pos L n + 3) := lbAt_len _ _ _
    have := hL (pos L n + 3)
    omega
theorem lb_files (L : List Nat) (n : Nat) : ∀ x ∈ filesM L n, ∀ k ∈ x.lb, -9223372036854775808 ≤ k := fun x hx k hk => by
  obtain ⟨j, _, rfl⟩ := List.mem_map.1 hx
  obtain ⟨i, _, rfl⟩ := List.mem_map.1 (show k ∈ lbAt L (pos L j + 4) (at' L (pos L j + 3)) from hk)
  omega
theorem gat_lt {l : List Nat} (h : ∀ x ∈ l, x < 256) (n : Nat) : ∀ x ∈ gat l n, x < 256 := fun x hx => by
  obtain ⟨k, _, h1⟩ := List.mem_flatMap.1 hx
  exact h x (List.mem_of_mem_drop (List.mem_of_mem_take h1))
theorem gat_len {l : List Nat} (hl : l.length = 128) : (gat l 8).length = 88 := by
  have := gatL_len hl (List.finRange 8)
  have e : ((List.finRange 8).map fun (y : Fin 8) => y.val) = List.range 8 := by decide
  rw [e, gatL_range] at this
  exact this
end Go.Proofs.YtlkgaefabahkoaaDoor
/-
  summary.Decode: of any bytes.
-/
namespace Go.Proofs.YtlkgaefabahkoaaDoor
open Go.RowKit

/-- What a part that is read lies in: new memory. -/
structure DecY (w : World) (l W : List Nat) (e : Ending) (w' : World) (fa : Option Addr) (fc : Nat) (ia : Option Addr) (ic : Nat) (av : Nat → Value) (SB : Nat) : Prop where
  eq : e = .returned (.tuple #[.agg #[.int .i64 (v2 l 0 : Nat), .int .i64 (v2 l 2 : Nat), .int .i64 (at' W 0 : Nat), .int .i64 (at' W 1 : Nat), .int .i64 (v2 W 2 : Nat), .slice fa (at' W 4) fc, .slice ia (at' W 5) ic], .int .u32 (sumM W : Nat), .int .i64 0])
  fo : Fo w' w.heap.size (.slice fa (at' W 4) fc) av (filesM W (at' W 4)) (at' W 4)
  ino : w'.ownsRow SB IT 1 (.slice ia (at' W 5) ic) (at' W 5) (cellsI (inosM W (pos W (at' W 4)) (at' W 5)))
  lt : ∀ i g, i < at' W 4 → (av i).ownBlock = some g → g < SB
  sep : SepAv av (at' W 4)
  le : w.heap.size ≤ SB
def DecO (l : List Nat) (w : World) (e : Ending) (w' : World) : Prop :=
  Below w.heap.size w w' ∧ (okB l = false → e = .returned (.tuple #[.agg #[.int .i64 0, .int .i64 0, .int .i64 0, .int .i64 0, .int .i64 0, .slice none 0 0, .slice none 0 0], .int .u32 0, .int .i64 100])) ∧ (okB l = true → ∃ fa fc ia ic av SB, DecY w l (gat l 8) e w' fa fc ia ic av SB)
set_option maxHeartbeats 4000000 in
theorem decode_short {w : World} (a : Option Addr) (n cap : Nat) (l : List Nat) (hn : n = l.length) (hne : n ≠ 128) (h9 : n ≤ 9223372036854775807) : Calls Tryd.prog 42 #[.slice a n cap] w fun e w' => DecO l w e w' := by
  have HO : Hid (okB l = false) := by show _ = _; unfold okB; rw [decide_eq_false (by omega)]; rfl
  have hb := sup_pc w (.cells #[.int .i64 0, .int .i64 0, .int .i64 0, .int .i64 0, .int .i64 0, .slice none 0 0, .slice none 0 0] 36)
  have hres := blo_laid w 36 #[.int .i64 0, .int .i64 0, .int .i64 0, .int .i64 0, .int .i64 0, .slice none 0 0, .slice none 0 0]
  have hi : ((n : Int) != 128) = true := by simp; omega
  have hi2 : ((n : Int) == 128) = false := by simp; omega
  have hi3 : ¬ (n : Int) = 128 := by omega
  have HB := Lib.hid hb
  have HR := Lib.hid hres
  clear hn hb
  go_enter Tryd.func42, Tryd.ntmps42
  go_wp2_with (refine wpList_store_row rfl 36 (.tmp 2) (.tmp 15) rfl w.heap.size (#[.int .i64 0, .int .i64 0, .int .i64 0, .int .i64 0, .int .i64 0, .slice none 0 0, .slice none 0 0]) (by first | rfl | simp [go_sem]) (by first | rfl | simp [go_sem]) 36 _ hres (by kernel_rfl) rfl (by simp [Value.oneCell']) ?_)
  (try simp only [Exit.inBlock, Exit.then])
  refine bodyPost_ret (results_row_tmp2 (p := 2) (u := 3) (v := 4) (ty := 36) rfl _ _ w.heap.size 36 #[.int .i64 0, .int .i64 0, .int .i64 0, .int .i64 0, .int .i64 0, .slice none 0 0, .slice none 0 0] _ (by simp) (blo_row HR.out #[.int .i64 0, .int .i64 0, .int .i64 0, .int .i64 0, .int .i64 0, .slice none 0 0, .slice none 0 0]) Tryd.underlying36 rfl (by kernel_rfl)) rfl ⟨below_setRow HB.out (Nat.le_refl _) _, fun _ => rfl, fun h => by rw [HO.out] at h; cases h⟩
set_option maxRecDepth 100000 in
set_option maxHeartbeats 4000000 in
theorem decode_128 {w : World} (b o cap : Nat) (l : List Nat) (hl : l.length = 128) (hcap : 128 ≤ cap) (hY : Bytes w (some ⟨b, o, none⟩) l) : Calls Tryd.prog 42 #[.slice (some ⟨b, o, none⟩) 128 cap] w fun e w' => DecO l w e w' := by
  have HL := Lib.hid hl
  have HY := Lib.hid hY
  have HR0 := Lib.hid (blo_laid w 36 #[.int .i64 0, .int .i64 0, .int .i64 0, .int .i64 0, .int .i64 0, .slice none 0 0, .slice none 0 0])
  have HB0 := Lib.hid (sup_pc w (.cells #[.int .i64 0, .int .i64 0, .int .i64 0, .int .i64 0, .int .i64 0, .slice none 0 0, .slice none 0 0] 36))
  have hgl := gat_len hl
  have HGL := Lib.hid hgl
  have hne : gat l 8 ≠ [] := fun e => by rw [e] at hgl; cases hgl
  have HNE := Lib.hid hne
  have HC := Lib.hid hcap
  clear hl hY hgl hne
  go_enter Tryd.func42, Tryd.ntmps42
  go_wp2_with fail
  refine (gather_any b o cap l HL.out HC.out (HY.out.below HB0.out)).mono ?_
  rintro e w1 ⟨a1, c1, rfl, hY1, hc1, hb1⟩
  have HR1 := Lib.hid (HR0.out.later hb1)
  have HB1 := Lib.hid (HB0.out.trans (hb1.mono HB0.out.size))
  have HC1 := Lib.hid hc1
  have HY1 := Lib.hid hY1
  have HN1 : Hid (a1 = none → gat l 8 = [] ∧ c1 = 0) := fun e => by
    obtain ⟨b', o', e', _⟩ := hY1.2.2 HNE.out
    rw [e] at e'; cases e'
  have HBY : Hid (∀ i, at' (gat l 8) i < 256) := fun i => at_lt hY1.1 i
  clear hb1 hc1 hY1 HR0 HB0
  obtain ⟨W, hW⟩ : ∃ W, gat l 8 = W := ⟨_, rfl⟩
  have HWe := Lib.hid hW
  rw [hW] at HGL HY1 HN1 HBY HNE
  clear hW
  go_wp2_with fail
  refine (parse_any a1 88 c1 W HGL.out.symm (by decide) HC1.out HY1.out HN1.out).mono ?_
  rintro e w2 ⟨fa, fc, av, iv, SB, rfl, hF, hO, hLt, hSp, hSB, hb2⟩
  obtain ⟨ia, ic, rfl, -⟩ := own_slice hO
  have HR2 := Lib.hid (HR1.out.later hb2)
  have HB2 := Lib.hid (HB1.out.trans (hb2.mono HB1.out.size))
  have HF2 := Lib.hid (hF.weak (show w.heap.size + 1 ≤ w1.heap.size from HR1.out.lt))
  have HO2 := Lib.hid hO
  have HLt := Lib.hid hLt
  have HSp := Lib.hid hSp
  have HSB : Hid (w.heap.size + 1 ≤ SB) := Nat.le_trans (show w.heap.size + 1 ≤ w1.heap.size from HR1.out.lt) hSB
  clear hF hO hLt hSp hSB hb2 HR1 HB1 HC1 HY1 HN1 HNE
  have hw2 : w.heap.size < w2.heap.size := HR2.out.lt
  go_upto_region 6 with (fail)
  have hb3 : Below w2.heap.size w2 (w2.alloc (.cells #[.int .i64 (v2 l 0 : Nat), .int .i64 (v2 l 2 : Nat), .int .i64 (at' W 0 : Nat), .int .i64 (at' W 1 : Nat), .int .i64 (v2 W 2 : Nat), .slice fa (at' W 4) fc, .slice ia (at' W 5) ic] 36)) := sup_pc w2 _
  have hbx : Blo (w2.alloc (.cells #[.int .i64 (v2 l 0 : Nat), .int .i64 (v2 l 2 : Nat), .int .i64 (at' W 0 : Nat), .int .i64 (at' W 1 : Nat), .int .i64 (v2 W 2 : Nat), .slice fa (at' W 4) fc, .slice ia (at' W 5) ic] 36)) w2.heap.size 36 #[.int .i64 (v2 l 0 : Nat), .int .i64 (v2 l 2 : Nat), .int .i64 (at' W 0 : Nat), .int .i64 (at' W 1 : Nat), .int .i64 (v2 W 2 : Nat), .slice fa (at' W 4) fc, .slice ia (at' W 5) ic] := blo_laid w2 36 #[.int .i64 (v2 l 0 : Nat), .int .i64 (v2 l 2 : Nat), .int .i64 (at' W 0 : Nat), .int .i64 (at' W 1 : Nat), .int .i64 (v2 W 2 : Nat), .slice fa (at' W 4) fc, .slice ia (at' W 5) ic]
  generalize w2.alloc (.cells #[.int .i64 (v2 l 0 : Nat), .int .i64 (v2 l 2 : Nat), .int .i64 (at' W 0 : Nat), .int .i64 (at' W 1 : Nat), .int .i64 (v2 W 2 : Nat), .slice fa (at' W 4) fc, .slice ia (at' W 5) ic] 36) = w3 at *
  have HR3 := Lib.hid (HR2.out.later hb3)
  have HB3 := Lib.hid (HB2.out.trans (hb3.mono HB2.out.size))
  have HF3 := Lib.hid (HF2.out.later hb3)
  have HO3 := Lib.hid (own_later HO2.out hb3)
  have HBx := Lib.hid hbx
  clear hb3 HR2 HB2 HF2 HO2
  generalize w2.heap.size = B at *
  have hb4 := HBY.out 4
  have hb5 := HBY.out 5
  have HFi := Lib.hid (HF3.out.fis (filesM_len _ _).symm)
  have HIi := Lib.hid (Ints.own HO3.out)
  have HOk : Hid (okB l = (decide (chkM ⟨(v2 l 0 : Nat), (v2 l 2 : Nat), (at' W 0 : Nat), (at' W 1 : Nat), (v2 W 2 : Nat), filesM W (at' W 4), inosM W (pos W (at' W 4)) (at' W 5)⟩ = 0) && decide (encM ⟨(v2 l 0 : Nat), (v2 l 2 : Nat), (at' W 0 : Nat), (at' W 1 : Nat), (v2 W 2 : Nat), filesM W (at' W 4), inosM W (pos W (at' W 4)) (at' W 5)⟩ (sumM W) = l))) := by
    show _ = _
    unfold okB decM parM
    rw [HWe.out, decide_eq_true HL.out, Bool.true_and]
  have hbs : sumM W < 4294967296 := by
    have b6 := HBY.out 6
    have b7 := HBY.out 7
    have b8 := HBY.out 8
    have b9 := HBY.out 9
    unfold sumM
    omega
  by_cases hk : chkM ⟨(v2 l 0 : Nat), (v2 l 2 : Nat), (at' W 0 : Nat), (at' W 1 : Nat), (v2 W 2 : Nat), filesM W (at' W 4), inosM W (pos W (at' W 4)) (at' W 5)⟩ = 0
  · have HE := Lib.hid (encode_good (w := w3) ⟨(v2 l 0 : Nat), (v2 l 2 : Nat), (at' W 0 : Nat), (at' W 1 : Nat), (v2 W 2 : Nat), filesM W (at' W 4), inosM W (pos W (at' W 4)) (at' W 5)⟩ (sumM W) fa (at' W 4) fc ia (at' W 5) ic hk HFi.out (filesM_len _ _).symm HIi.out (inosM_len _ _ _).symm hbs)
    have HEL := Lib.hid (encM_len ⟨(v2 l 0 : Nat), (v2 l 2 : Nat), (at' W 0 : Nat), (at' W 1 : Nat), (v2 W 2 : Nat), filesM W (at' W 4), inosM W (pos W (at' W 4)) (at' W 5)⟩ (sumM W) (good_of hk))
    rw [decide_eq_true hk, Bool.true_and] at HOk
    clear hk
    generalize encM ⟨(v2 l 0 : Nat), (v2 l 2 : Nat), (at' W 0 : Nat), (at' W 1 : Nat), (v2 W 2 : Nat), filesM W (at' W 4), inosM W (pos W (at' W 4)) (at' W 5)⟩ (sumM W) = E at *
    go_wp2_with (refine wpList_load_row rfl 36 (.tmp 8) rfl B rfl 36 #[.int .i64 (v2 l 0 : Nat), .int .i64 (v2 l 2 : Nat), .int .i64 (at' W 0 : Nat), .int .i64 (at' W 1 : Nat), .int .i64 (v2 W 2 : Nat), .slice fa (at' W 4) fc, .slice ia (at' W 5) ic] (0, 0) _ HBx.out Tryd.underlying36 rfl (by kernel_rfl) ?_)
    refine HE.out.mono ?_
    rintro e w4 ⟨g, rfl, hgl, hfil, hb4'⟩
    have hEb : Bytes w4 (some ⟨g, 0, none⟩) E := by
      have := hfil.bytes (by decide)
      rwa [show zpad 128 E = E by unfold zpad; rw [HEL.out]; simp] at this
    have HEb := Lib.hid hEb
    have HR4 := Lib.hid (HR3.out.later hb4')
    have HB4 := Lib.hid (HB3.out.trans (hb4'.mono HB3.out.size))
    have HF4 := Lib.hid (HF3.out.later hb4')
    have HO4 := Lib.hid (own_later HO3.out hb4')
    have HX4 := Lib.hid (HBx.out.later hb4')
    have HY4 := Lib.hid (HY.out.below HB4.out)
    have hwB : w.heap.size ≠ B := by omega
    clear hgl hfil hb4' hEb HE HBx HFi HIi HR3 HB3 HF3 HO3
    by_cases heq : E = l
    · rw [decide_eq_true heq] at HOk
      have HQ := Lib.hid (equal_same l 128 HL.out.symm (some ⟨g, 0, none⟩) (some ⟨b, o, none⟩) 128 cap w4 (heq ▸ HEb.out) HY4.out)
      clear heq
      go_wp2_with fail
      refine HQ.out.mono ?_
      rintro e w5 ⟨rfl, rfl⟩
      have hres := HR4.out
      go_wp2_with (first | (refine wpList_load_row rfl 36 (.tmp 8) rfl B rfl 36 #[.int .i64 (v2 l 0 : Nat), .int .i64 (v2 l 2 : Nat), .int .i64 (at' W 0 : Nat), .int .i64 (at' W 1 : Nat), .int .i64 (v2 W 2 : Nat), .slice fa (at' W 4) fc, .slice ia (at' W 5) ic] (0, 0) _ HX4.out Tryd.underlying36 rfl (by kernel_rfl) ?_) | (refine wpList_store_row rfl 36 (.tmp 2) (.tmp 46) rfl w.heap.size (#[.int .i64 (v2 l 0 : Nat), .int .i64 (v2 l 2 : Nat), .int .i64 (at' W 0 : Nat), .int .i64 (at' W 1 : Nat), .int .i64 (v2 W 2 : Nat), .slice fa (at' W 4) fc, .slice ia (at' W 5) ic]) (by first | rfl | simp [go_sem]) (by first | rfl | simp [go_sem]) 36 _ hres (by kernel_rfl) rfl (by simp [Value.oneCell']) ?_))
      (try simp only [Exit.inBlock, Exit.then])
      have hout : Out (fun g => g = w.heap.size) w4 (w4.setRow w.heap.size #[.int .i64 (v2 l 0 : Nat), .int .i64 (v2 l 2 : Nat), .int .i64 (at' W 0 : Nat), .int .i64 (at' W 1 : Nat), .int .i64 (v2 W 2 : Nat), .slice fa (at' W 4) fc, .slice ia (at' W 5) ic]) := out_row w4 w.heap.size _ rfl
      refine bodyPost_ret (results_row_tmp2 (p := 2) (u := 3) (v := 4) (ty := 36) rfl _ _ w.heap.size 36 #[.int .i64 (v2 l 0 : Nat), .int .i64 (v2 l 2 : Nat), .int .i64 (at' W 0 : Nat), .int .i64 (at' W 1 : Nat), .int .i64 (v2 W 2 : Nat), .slice fa (at' W 4) fc, .slice ia (at' W 5) ic] _ (by simp) (blo_row HR4.out #[.int .i64 (v2 l 0 : Nat), .int .i64 (v2 l 2 : Nat), .int .i64 (at' W 0 : Nat), .int .i64 (at' W 1 : Nat), .int .i64 (v2 W 2 : Nat), .slice fa (at' W 4) fc, .slice ia (at' W 5) ic]) Tryd.underlying36 rfl (by kernel_rfl)) rfl ⟨below_setRow HB4.out (Nat.le_refl _) _, fun h => (by rw [HOk.out] at h; cases h), fun _ => ⟨fa, fc, ia, ic, av, SB, ?_⟩⟩
      rw [HWe.out]
      have hs9 := HSB.out
      exact ⟨rfl, (HF4.out.out hout (fun g e _ => by omega)).weak (by omega), own_out HO4.out hout (fun g e _ => by omega), fun i g hi hg => HLt.out i g hi hg, HSp.out, by omega⟩
    · rw [decide_eq_false heq] at HOk
      have HQ := Lib.hid (equal_ne E l 128 128 HEL.out.symm HL.out.symm heq (some ⟨g, 0, none⟩) (some ⟨b, o, none⟩) 128 cap w4 HEb.out HY4.out)
      clear heq
      go_wp2_with fail
      refine HQ.out.mono ?_
      rintro e w5 ⟨rfl, rfl⟩
      have hres := HR4.out
      go_wp2_with (refine wpList_store_row rfl 36 (.tmp 2) (.tmp 45) rfl w.heap.size (#[.int .i64 0, .int .i64 0, .int .i64 0, .int .i64 0, .int .i64 0, .slice none 0 0, .slice none 0 0]) (by first | rfl | simp [go_sem]) (by first | rfl | simp [go_sem]) 36 _ hres (by kernel_rfl) rfl (by simp [Value.oneCell']) ?_)
      (try simp only [Exit.inBlock, Exit.then])
      refine bodyPost_ret (results_row_tmp2 (p := 2) (u := 3) (v := 4) (ty := 36) rfl _ _ w.heap.size 36 #[.int .i64 0, .int .i64 0, .int .i64 0, .int .i64 0, .int .i64 0, .slice none 0 0, .slice none 0 0] _ (by simp) (blo_row HR4.out #[.int .i64 0, .int .i64 0, .int .i64 0, .int .i64 0, .int .i64 0, .slice none 0 0, .slice none 0 0]) Tryd.underlying36 rfl (by kernel_rfl)) rfl ⟨below_setRow HB4.out (Nat.le_refl _) _, fun _ => rfl, fun h => by rw [HOk.out] at h; cases h⟩
  · have HE := Lib.hid (encode_bad (w := w3) (s := sumM W) ⟨(v2 l 0 : Nat), (v2 l 2 : Nat), (at' W 0 : Nat), (at' W 1 : Nat), (v2 W 2 : Nat), filesM W (at' W 4), inosM W (pos W (at' W 4)) (at' W 5)⟩ fa (at' W 4) fc ia (at' W 5) ic hk HFi.out (filesM_len _ _).symm HIi.out (inosM_len _ _ _).symm (Nat.le_trans (szF_files W HBY.out _) (by omega)) (by omega) (lb_files W _))
    rw [decide_eq_false hk, Bool.false_and] at HOk
    generalize chkM ⟨(v2 l 0 : Nat), (v2 l 2 : Nat), (at' W 0 : Nat), (at' W 1 : Nat), (v2 W 2 : Nat), filesM W (at' W 4), inosM W (pos W (at' W 4)) (at' W 5)⟩ = z at *
    have hz1 : (z != 0) = true := by simp [hk]
    have hz2 : (z == 0) = false := by simp [hk]
    go_wp2_with (refine wpList_load_row rfl 36 (.tmp 8) rfl B rfl 36 #[.int .i64 (v2 l 0 : Nat), .int .i64 (v2 l 2 : Nat), .int .i64 (at' W 0 : Nat), .int .i64 (at' W 1 : Nat), .int .i64 (v2 W 2 : Nat), .slice fa (at' W 4) fc, .slice ia (at' W 5) ic] (0, 0) _ HBx.out Tryd.underlying36 rfl (by kernel_rfl) ?_)
    refine HE.out.mono ?_
    rintro e w4 ⟨rfl, hb4'⟩
    have HR4 := Lib.hid (HR3.out.later hb4')
    have HB4 := Lib.hid (HB3.out.trans (hb4'.mono HB3.out.size))
    clear hb4' HE HBx HFi HIi HR3 HB3 HF3 HO3
    have hres := HR4.out
    go_wp2_with (refine wpList_store_row rfl 36 (.tmp 2) (.tmp 45) rfl w.heap.size (#[.int .i64 0, .int .i64 0, .int .i64 0, .int .i64 0, .int .i64 0, .slice none 0 0, .slice none 0 0]) (by first | rfl | simp [go_sem]) (by first | rfl | simp [go_sem]) 36 _ hres (by kernel_rfl) rfl (by simp [Value.oneCell']) ?_)
    (try simp only [Exit.inBlock, Exit.then])
    refine bodyPost_ret (results_row_tmp2 (p := 2) (u := 3) (v := 4) (ty := 36) rfl _ _ w.heap.size 36 #[.int .i64 0, .int .i64 0, .int .i64 0, .int .i64 0, .int .i64 0, .slice none 0 0, .slice none 0 0] _ (by simp) (blo_row HR4.out #[.int .i64 0, .int .i64 0, .int .i64 0, .int .i64 0, .int .i64 0, .slice none 0 0, .slice none 0 0]) Tryd.underlying36 rfl (by kernel_rfl)) rfl ⟨below_setRow HB4.out (Nat.le_refl _) _, fun _ => rfl, fun h => by rw [HOk.out] at h; cases h⟩
theorem decode_any {w : World} (a : Option Addr) (n cap : Nat) (l : List Nat) (hn : n = l.length) (hc : n ≤ cap) (hY : Bytes w a l) : Calls Tryd.prog 42 #[.slice a n cap] w fun e w' => DecO l w e w' := by
  by_cases h : n = 128
  · subst h
    obtain ⟨b, o, rfl, _⟩ := hY.2.2 (fun e => by rw [e] at hn; cases hn)
    exact decode_128 b o cap l hn.symm hc hY
  · exact decode_short a n cap l hn h (by rw [hn]; exact hY.2.1)
end Go.Proofs.YtlkgaefabahkoaaDoor
/-
  A slice of structs that came in, field by field, with the form's own reach of what the fields hold; slices of bytes and of bools within.
-/
namespace Go.Proofs.YtlkgaefabahkoaaDoor
open Go.RowKit

theorem weightsAll_mem {H : Type} {P : Program} {e : TypeId} : ∀ {l : List (DataW H)} {d : DataW H}, d ∈ l → ∀ n ∈ d.weights P e, n ∈ DataW.weightsAll P e l
  | c :: r, d, hd, n, hn => by
    simp only [DataW.weightsAll, List.mem_append]
    rcases List.mem_cons.1 hd with rfl | h
    · exact Or.inl hn
    · exact Or.inr (weightsAll_mem h n hn)
  | [], _, hd, _, _ => by cases hd
section
open Go.ChangeShapes Go.WideShapes Go.Deep
variable {H : Type} {enc : TypeId × Value → H} {P : Program} {w : World} {base : Nat} {held : Bool}
theorem open_structs {t e : TypeId} {fs : Array Field} {fuel : Nat} {cs : List Value} {x : DataW H × List MemPlace} (ht : P.underlying t = some (.slice e)) (he : P.underlying e = some (.struct fs))
    (h : DataW.trod enc P w base (fun _ => true) held fuel t cs = some x) :
    ∃ (a : Option Addr) (len cap : Nat), cs = [.slice a len cap] ∧ (a = none → len = 0 ∧ cap = 0) ∧ len ≤ cap ∧ cap ≤ 9223372036854775807 ∧
      ∀ ad, a = some ad → ∀ i, i < len → ∃ C : List Value, C.length = P.cellsOf e ∧ (∀ j v, C[j]? = some v → w.cell? (ad.add (i * P.cellsOf e + j)) = some v) ∧
        ∀ (k : Nat) (f : Field), fs[k]? = some f → ∃ y n, DataW.trod enc P w base (fun _ => true) held n f.type ((C.drop f.offset).take (P.cellsOf f.type)) = some y ∧ ∀ q ∈ y.1.weights P f.type, q ∈ x.1.weights P t := by
  have hmx : (maxLen : Nat) = 9223372036854775807 := by decide
  rcases open_slice ht h with ⟨rfl, _⟩ | ⟨a, len, cap, m, n, D, Pl, rfl, _, hl, hm, hmm, rfl, hi⟩
  · exact ⟨none, 0, 0, rfl, fun _ => ⟨rfl, rfl⟩, by omega, by omega, fun ad h => by cases h⟩
  · refine ⟨some a, len, cap, rfl, fun h => (by cases h), hl, by omega, fun ad had i hlt => ?_⟩
    cases had
    have hlm : len ≤ m := by rw [hmm]; split <;> omega
    obtain ⟨cs', hc, ht'⟩ := hi i (by omega)
    obtain ⟨_, hcl, hat⟩ := World.cells?_some hc
    obtain ⟨xs, m', _, hx, _, hn, hel⟩ := DataW.trod_struct he ht'
    refine ⟨cs', hcl, fun j v hj => ?_, fun k f hk => ?_⟩
    · have := hat j (by rcases Nat.lt_or_ge j cs'.length with h | h; · omega
                        · rw [List.getElem?_eq_none h] at hj; cases hj)
      rw [Go.Deep.add_add] at this
      rw [this, hj]
    · have hkl : k < xs.length := by
        have : k < fs.size := (Array.getElem?_eq_some_iff.1 hk).1
        omega
      have h0 := hel k f hk
      rw [List.getElem?_eq_getElem hkl] at h0
      refine ⟨xs[k], m', h0, fun q hq => ?_⟩
      have hD : D i = .agg (xs.map (·.1)) := by
        have := congrArg Prod.fst hx
        simpa using this
      have hmem : D i ∈ (List.range len).map D := List.mem_map.2 ⟨i, List.mem_range.2 hlt, rfl⟩
      simp only [DataW.weights, ht, List.mem_cons, List.mem_append]
      refine .inr (.inl (weightsAll_mem hmem q ?_))
      rw [hD]
      simp only [DataW.weights, he]
      exact DataW.weights_mem_each (j := k) (t := f.type) (d := xs[k].1) (by rw [List.getElem?_map]; simp [hk]) (by rw [List.getElem?_map, List.getElem?_eq_getElem hkl]; rfl) q hq
/-- A slice of bytes within what came in. -/
def BytesIn (w : World) (a : Option Addr) (n cap : Nat) (l : List Nat) : Prop := n = l.length ∧ Bytes w a l ∧ (a = none → n = 0 ∧ cap = 0) ∧ n ≤ cap ∧ n ≤ 140737488351232
theorem cell_lt {a : Addr} {v : Value} (h : w.cell? a = some v) : a.block < w.heap.size := World.block_lt_of_cell? w a h
theorem bytesIn_of_trod {t e : TypeId} {fuel : Nat} {cs : List Value} {x : DataW H × List MemPlace} (ht : P.underlying t = some (.slice e)) (he : P.underlying e = some (.int .u8)) (hc : P.cellsOf e = 1) (hb : P.bytesOf e = 1)
    (h : DataW.trod enc P w base (fun _ => true) held fuel t cs = some x) (hw : ∀ q ∈ x.1.weights P t, q ≤ reachBytes) : ∃ a n cap l, cs = [.slice a n cap] ∧ BytesIn w a n cap l := by
  have hr : reachBytes = 140737488351232 := rfl
  rcases open_ints ht he hc h with ⟨hcs, _⟩ | ⟨a, n, cap, zs, hcs, h0, h1, h2, h3, hx, hcell, hwz⟩
  · exact ⟨none, 0, 0, [], hcs, rfl, Bytes.none _ _, fun _ => ⟨rfl, rfl⟩, Nat.le_refl _, by decide⟩
  · have h3' : zs.length = cap := by simpa using h3
    obtain ⟨l, e1, e2, e3, e4, e5⟩ := IsRow.bytes (w := w) (a := some a) (len := n) (cap := cap) (zs := zs) (.inr ⟨_, rfl, h1, h2, by simpa using h3, hcell, hwz⟩)
    have hq := hw ((lits (H := H) .u8 (zs.take n)).length + (lits (H := H) .u8 (zs.drop n)).length) (by rw [hx]; simp [DataW.weights, ht, hb])
    refine ⟨some a, n, cap, l, hcs, e1, e2, fun h => (by cases h), e5, ?_⟩
    simp [lits] at hq; omega
theorem bytes_blk0 {a : Option Addr} {l : List Nat} (h : Bytes w a l) (hl : l ≠ []) : ∃ b o, a = some ⟨b, o, none⟩ ∧ b < w.heap.size := by
  obtain ⟨b, o, ha, hc⟩ := h.2.2 hl
  have h0 : 0 < l.length := by cases l with
    | nil => exact absurd rfl hl
    | cons _ _ => simp
  exact ⟨b, o, ha, cell_lt (hc 0 h0)⟩
theorem bytes_out {w' : World} {X : Nat → Prop} {a : Option Addr} {l : List Nat} (h : Bytes w a l) (hc : ∀ b o (v : Value), ¬ X b → w.cell? ⟨b, o, none⟩ = some v → w'.cell? ⟨b, o, none⟩ = some v) (hx : ∀ b o, l ≠ [] → a = some ⟨b, o, none⟩ → ¬ X b) : Bytes w' a l :=
  ⟨h.1, h.2.1, fun hl => by
    obtain ⟨b, o, ha, h2⟩ := h.2.2 hl
    exact ⟨b, o, ha, fun i hi => hc b _ _ (hx b o hl ha) (h2 i hi)⟩⟩
end
end Go.Proofs.YtlkgaefabahkoaaDoor
/-
  Pack: a slice of files that came in; a slice of integers that came in.
-/
namespace Go.Proofs.YtlkgaefabahkoaaDoor
open Go.RowKit

/-- What the walk is told of a slice of files that came in. -/
structure FinIn (w : World) (a : Option Addr) (len cap : Nat) (L : List Fi) : Prop where
  fis : Fis w a L
  leq : len = L.length
  lenm : len ≤ 9223372036854775807
  lb : ∀ x ∈ L, x.lb.length ≤ 9223372036854775807
  wf : ∀ x ∈ L, (Lit.int .i64 x.ino).wf = true ∧ (Lit.int .i64 x.ver).wf = true ∧ ∀ n ∈ x.lb, (Lit.int .i64 n).wf = true
  nil : a = .none → len = 0 ∧ cap = 0
  nils : FisN w a L
structure IntsIn (w : World) (a : Option Addr) (len cap : Nat) (l : List Int) : Prop where
  ints : Ints w a l
  leq : len = l.length
  lenm : len ≤ 9223372036854775807
  nil : a = .none → len = 0 ∧ cap = 0
  wf : ∀ n ∈ l, (Lit.int .i64 n).wf = true
section
open Go.ChangeShapes Go.WideShapes Go.Deep
variable {H : Type} {enc : TypeId × Value → H} {P : Program} {w : World} {base : Nat} {held : Bool} {spare : Nat → Bool}
theorem intsIn_of_trod {t e : TypeId} {fuel : Nat} {cs : List Value} {x : DataW H × List MemPlace} (ht : P.underlying t = some (.slice e)) (he : P.underlying e = some (.int .i64)) (hc : P.cellsOf e = 1)
    (h : DataW.trod enc P w base (fun _ => true) held fuel t cs = some x) : ∃ a n cap l, cs = [.slice a n cap] ∧ IntsIn w a n cap l := by
  have hmx : (maxLen : Nat) = 9223372036854775807 := by decide
  rcases open_ints ht he hc h with ⟨hcs, _⟩ | ⟨a, n, cap, zs, hcs, h0, h1, h2, h3, hx, hcell, hwz⟩
  · exact ⟨none, 0, 0, [], hcs, Ints.nil _ _, rfl, by decide, fun _ => ⟨rfl, rfl⟩, fun n hn => by cases hn⟩
  · have h3' : zs.length = cap := by simpa using h3
    refine ⟨some a, n, cap, zs.take n, hcs, fun hne => ?_, by rw [List.length_take]; omega, by omega, (fun h => by cases h), fun m hm => hwz m (List.mem_of_mem_take hm)⟩
    have hlen : 0 < n := by
      rcases Nat.eq_zero_or_pos n with h | h
      · subst h; simp at hne
      · exact h
    obtain ⟨b, off, rfl, hcl⟩ := Go.ints_at hcell (by omega)
    refine ⟨b, off, rfl, fun i hi => ?_⟩
    rw [List.length_take] at hi
    rw [hcl i (by omega), List.getD_eq_getElem?_getD, List.getD_eq_getElem?_getD, List.getElem?_take_of_lt (by omega)]
theorem files_of_trod {t e ti ts : TypeId} {fuel : Nat} {cs : List Value} {x : DataW H × List MemPlace} {f0 f1 f2 : Field}
    (ht : P.underlying t = some (.slice e)) (he : P.underlying e = some (.struct #[f0, f1, f2])) (hce : P.cellsOf e = 3)
    (g0 : f0.type = ti ∧ f0.offset = 0) (g1 : f1.type = ti ∧ f1.offset = 1) (g2 : f2.type = ts ∧ f2.offset = 2)
    (hti : P.underlying ti = some (.int .i64)) (hci : P.cellsOf ti = 1) (hts : P.underlying ts = some (.slice ti)) (hcs : P.cellsOf ts = 1)
    (h : DataW.trod enc P w base (fun _ => true) held fuel t cs = some x) :
    ∃ a len cap L, cs = [.slice a len cap] ∧ FinIn w a len cap L := by
  obtain ⟨a, len, cap, rfl, hn, hl, hc, hi⟩ := open_structs ht he h
  have key : ∀ i, i < len → ∃ p : Fi, ∃ b o c cp, a = some ⟨b, o, none⟩ ∧ (p.lb.length ≤ 9223372036854775807 ∧ (Lit.int .i64 p.ino).wf = true ∧ (Lit.int .i64 p.ver).wf = true ∧ ∀ n ∈ p.lb, (Lit.int .i64 n).wf = true) ∧ (c = none → p.lb.length = 0 ∧ cp = 0) ∧ Ints w c p.lb ∧ w.cell? ⟨b, o + i * 3, none⟩ = some (.int .i64 p.ino) ∧ w.cell? ⟨b, o + i * 3 + 1, none⟩ = some (.int .i64 p.ver) ∧ w.cell? ⟨b, o + i * 3 + 2, none⟩ = some (.slice c p.lb.length cp) := by
    intro i hlt
    cases a with
    | none => have := (hn rfl).1; omega
    | some ad =>
      obtain ⟨C, hC, hcell, hf⟩ := hi ad rfl i hlt
      rw [hce] at hC hcell
      match C, hC with
      | [c0, c1, c2], _ =>
        obtain ⟨y0, n0, t0, _⟩ := hf 0 f0 rfl
        obtain ⟨y1, n1, t1, _⟩ := hf 1 f1 rfl
        obtain ⟨y2, n2, t2, _⟩ := hf 2 f2 rfl
        rw [g0.1, g0.2, hci] at t0
        rw [g1.1, g1.2, hci] at t1
        rw [g2.1, g2.2, hcs] at t2
        obtain ⟨x0, e0, _, wf0⟩ := DataW.trod_int hti t0
        obtain ⟨x1, e1, _, wf1⟩ := DataW.trod_int hti t1
        obtain ⟨c, n, cp, l, e2, hI⟩ := intsIn_of_trod hts hti hci t2
        simp at e0 e1 e2
        subst e0 e1 e2
        obtain ⟨b, off, spot⟩ := ad
        have hspot : spot = none := by
          obtain ⟨C0, hC0, hcell0, _⟩ := hi ⟨b, off, spot⟩ rfl 0 (by omega)
          rw [hce] at hC0 hcell0
          have h0 := hcell0 0 C0[0] (List.getElem?_eq_getElem (by omega))
          simpa [Addr.add] using World.cell?_spot h0
        subst hspot
        have q0 := hcell 0 _ rfl
        have q1 := hcell 1 _ rfl
        have q2 := hcell 2 _ rfl
        rw [Addr.add_lit] at q0 q1 q2
        have hlen := hI.leq
        subst hlen
        exact ⟨⟨x0, x1, l⟩, b, off, c, cp, rfl, ⟨hI.lenm, wf0, wf1, hI.wf⟩, hI.nil, hI.ints, by simpa using q0, by rw [Nat.add_assoc]; exact q1, by rw [Nat.add_assoc]; exact q2⟩
  obtain ⟨F, hF⟩ : ∃ F : Nat → Fi, ∀ i, i < len → ∃ b o c cp, a = some ⟨b, o, none⟩ ∧ ((F i).lb.length ≤ 9223372036854775807 ∧ (Lit.int .i64 (F i).ino).wf = true ∧ (Lit.int .i64 (F i).ver).wf = true ∧ ∀ n ∈ (F i).lb, (Lit.int .i64 n).wf = true) ∧ (c = none → (F i).lb.length = 0 ∧ cp = 0) ∧ Ints w c (F i).lb ∧ w.cell? ⟨b, o + i * 3, none⟩ = some (.int .i64 (F i).ino) ∧ w.cell? ⟨b, o + i * 3 + 1, none⟩ = some (.int .i64 (F i).ver) ∧ w.cell? ⟨b, o + i * 3 + 2, none⟩ = some (.slice c (F i).lb.length cp) :=
    ⟨fun i => if h : i < len then Classical.choose (key i h) else fi0, fun i h => by simp only [dif_pos h]; exact Classical.choose_spec (key i h)⟩
  have hget : ∀ i, i < len → ((List.range len).map F).getD i fi0 = F i := fun i hi => by
    rw [List.getD_eq_getElem?_getD, List.getElem?_map, List.getElem?_range hi]; rfl
  refine ⟨a, len, cap, (List.range len).map F, rfl, fun hne => ?_, by simp, by omega, fun x hx => ?_, fun x hx => ?_, hn, fun b o i n c hi ha hc => ?_⟩
  · have hpos : 0 < len := by
      rcases Nat.eq_zero_or_pos len with h | h
      · subst h; exact absurd rfl hne
      · exact h
    obtain ⟨b, o, c, cp, ha, -⟩ := hF 0 hpos
    refine ⟨b, o, ha, fun i hi => ?_⟩
    have hi' : i < len := by simpa using hi
    obtain ⟨b', o', c, cp, ha', _, _, h2, h3, h4, h5⟩ := hF i hi'
    rw [ha] at ha'
    cases ha'
    rw [hget i hi']
    exact ⟨h3, h4, c, cp, h5, h2⟩
  · obtain ⟨i, hi, rfl⟩ := List.mem_map.1 hx
    obtain ⟨b, o, c, cp, _, h1, -⟩ := hF i (List.mem_range.1 hi)
    exact h1.1
  · obtain ⟨i, hi, rfl⟩ := List.mem_map.1 hx
    obtain ⟨b, o, c, cp, _, h1, -⟩ := hF i (List.mem_range.1 hi)
    exact h1.2
  · have hi' : i < len := by simpa using hi
    obtain ⟨b', o', c', cp', ha', _, h9, h2, h3, h4, h5⟩ := hF i hi'
    rw [ha] at ha'
    cases ha'
    rw [hc] at h5
    cases h5
    exact h9 rfl
end
end Go.Proofs.YtlkgaefabahkoaaDoor
/-
  A summary that came in, opened.
-/
namespace Go.Proofs.YtlkgaefabahkoaaDoor
open Go.RowKit
/-- What the walk is told of a summary that came in. -/
structure PartIn (w : World) (m : Sm) (fa : Option Addr) (fn fc : Nat) (ia : Option Addr) (inn ic : Nat) : Prop where
  fin : FinIn w fa fn fc m.fs
  ins : IntsIn w ia inn ic m.is
  we : -9223372036854775808 ≤ m.e ∧ m.e ≤ 9223372036854775807
  wc : -9223372036854775808 ≤ m.c ∧ m.c ≤ 9223372036854775807
  wi : -9223372036854775808 ≤ m.i ∧ m.i ≤ 9223372036854775807
  wp : -9223372036854775808 ≤ m.p ∧ m.p ≤ 9223372036854775807
  wx : -9223372036854775808 ≤ m.x ∧ m.x ≤ 9223372036854775807
section
open Go.ChangeShapes Go.WideShapes Go.ChangeAt
set_option maxRecDepth 100000 in
theorem open_part {H : Type} {enc : TypeId × Value → H} {w : World} {base : Nat} {held : Bool} {r : Reach} {b0 : Nat} {v : Value} {d : DataW H} {p : List MemPlace}
    (hv : Value.okWide Tryd.prog w r b0 36 v) (h : DataW.Trod enc Tryd.prog w base (fun _ => true) held 36 v d p) :
    ∃ (m : Sm) (fa : Option Addr) (fn fc : Nat) (ia : Option Addr) (inn ic : Nat), v = part m.e m.c m.i m.p m.x fa fn fc ia inn ic ∧ PartIn w m fa fn fc ia inn ic := by
  obtain ⟨cs, rfl, hsz⟩ := okWide_struct Tryd.underlying36 hv
  obtain ⟨l⟩ := cs
  have hc7 : Tryd.prog.cellsOf 36 = 7 := by kernel_rfl
  have hci : Tryd.prog.cellsOf 3 = 1 := by kernel_rfl
  have hcf : Tryd.prog.cellsOf 33 = 1 := by kernel_rfl
  have hcl : Tryd.prog.cellsOf 34 = 1 := by kernel_rfl
  match l, hsz.trans hc7 with
  | [c0, c1, c2, c3, c4, c5, c6], _ =>
    obtain ⟨fuel, hf⟩ := h
    obtain ⟨xs, n, _, hx, _, hlen, hg⟩ := DataW.trod_struct Tryd.underlying36 hf
    have hlen7 : xs.length = 7 := hlen
    have h0 := hg 0 _ rfl
    rw [List.getElem?_eq_getElem (by omega)] at h0
    obtain ⟨x0, e0, _, w0⟩ := DataW.trod_int Tryd.underlying3 h0
    simp [Value.cells, hci] at e0
    subst e0
    have h1 := hg 1 _ rfl
    rw [List.getElem?_eq_getElem (by omega)] at h1
    obtain ⟨x1, e1, _, w1⟩ := DataW.trod_int Tryd.underlying3 h1
    simp [Value.cells, hci] at e1
    subst e1
    have h2 := hg 2 _ rfl
    rw [List.getElem?_eq_getElem (by omega)] at h2
    obtain ⟨x2, e2, _, w2⟩ := DataW.trod_int Tryd.underlying3 h2
    simp [Value.cells, hci] at e2
    subst e2
    have h3 := hg 3 _ rfl
    rw [List.getElem?_eq_getElem (by omega)] at h3
    obtain ⟨x3, e3, _, w3⟩ := DataW.trod_int Tryd.underlying3 h3
    simp [Value.cells, hci] at e3
    subst e3
    have h4 := hg 4 _ rfl
    rw [List.getElem?_eq_getElem (by omega)] at h4
    obtain ⟨x4, e4, _, w4⟩ := DataW.trod_int Tryd.underlying3 h4
    simp [Value.cells, hci] at e4
    subst e4
    have h5 := hg 5 _ rfl
    rw [List.getElem?_eq_getElem (by omega)] at h5
    obtain ⟨fa, fn, fc, L, e5, hF⟩ := files_of_trod Tryd.underlying33 Tryd.underlying108 (by kernel_rfl) ⟨rfl, rfl⟩ ⟨rfl, rfl⟩ ⟨rfl, rfl⟩ Tryd.underlying3 (by kernel_rfl) Tryd.underlying34 (by kernel_rfl) h5
    simp [Value.cells, hcf] at e5
    subst e5
    have h6 := hg 6 _ rfl
    rw [List.getElem?_eq_getElem (by omega)] at h6
    obtain ⟨ia, inn, ic, zs, e6, hI⟩ := intsIn_of_trod Tryd.underlying34 Tryd.underlying3 (by kernel_rfl) h6
    simp [Value.cells, hcl] at e6
    subst e6
    exact ⟨⟨x0, x1, x2, x3, x4, L, zs⟩, fa, fn, fc, ia, inn, ic, rfl, hF, hI, Go.bounds_i64 w0, Go.bounds_i64 w1, Go.bounds_i64 w2, Go.bounds_i64 w3, Go.bounds_i64 w4⟩
end
def few6 (m : Sm) : Bool := decide (m.fs.length ≤ 40 ∧ m.is.length ≤ 150 ∧ m.is.length + blF m.fs ≤ 150)
section
variable {w : World} (m : Sm) (fa : Option Addr) (fn fc : Nat) (ia : Option Addr) (inn ic : Nat)
abbrev pcs (m : Sm) (fa : Option Addr) (fn fc : Nat) (ia : Option Addr) (inn ic : Nat) : Array Value := #[.int .i64 m.e, .int .i64 m.c, .int .i64 m.i, .int .i64 m.p, .int .i64 m.x, .slice fa fn fc, .slice ia inn ic]
end
end Go.Proofs.YtlkgaefabahkoaaDoor
/-
  A region that draws its order, by what each of its operations leaves: one proof an operation, whatever the order.
-/
namespace Go.Proofs.YtlkgaefabahkoaaDoor

def updV (X : Nat → Value) (i : Nat) (v : Value) : Nat → Value := fun j => if j = i then v else X j
theorem updV_at (X : Nat → Value) (i : Nat) (v : Value) : updV X i v i = v := by unfold updV; rw [if_pos rfl]
theorem updV_ne (X : Nat → Value) (i : Nat) (v : Value) {j : Nat} (h : j ≠ i) : updV X i v j = X j := by unfold updV; rw [if_neg h]
/-- The operations behind number n come one by one; those ahead wait for earlier ones alone. -/
def regInvB (md : Region.Mode) (ops : Array Oper) (n : Nat) : Bool :=
  decide (n ≤ ops.size) && (List.range n).all (fun i => ((ops[i]?).map (·.after.all fun e => !Region.binds md e || decide (e.on < i))).getD false) &&
  (decide (n = ops.size) || (List.range n).all (fun i => Region.waitsFor md ops n i)) && Region.chainB md ops n &&
  Region.seqB md ops (ops.size - n) n (Array.replicate n true ++ Array.replicate (ops.size - n) false)
section
variable {P : Program} {ops : Array Oper} {Q : Exit → Act → World → Prop} {md : Region.Mode}
structure HeadI (ops : Array Oper) (n : Nat) (listed : Array Bool) : Prop where
  size : listed.size = ops.size
  tail : ∀ t, n ≤ t → t < ops.size → listed.getD t true = false
theorem HeadI.set {n i : Nat} {listed : Array Bool} (h : HeadI ops n listed) (hi : i < n) : HeadI ops n (listed.setIfInBounds i true) :=
  ⟨by simp [h.size], fun t ht hts => by rw [getD_set_ne true (by omega)]; exact h.tail t ht hts⟩
theorem HeadI.full {n : Nat} {listed : Array Bool} (h : HeadI ops n listed) (hn : n ≤ ops.size) (hl : ∀ i, i < n → listed.getD i false = true) : listed = Array.replicate n true ++ Array.replicate (ops.size - n) false := by
  refine Array.ext (by simp [h.size]; omega) fun i h1 h2 => ?_
  by_cases hi : i < n
  · have := hl i hi
    rw [Array.getElem_append_left (by simpa using hi), Array.getElem_replicate]
    simpa [h1] using this
  · have := h.tail i (by omega) (by rw [← h.size]; exact h1)
    rw [Array.getElem_append_right (by simpa using hi), Array.getElem_replicate]
    simpa [h1] using this
theorem wpAny_inv {n : Nat} {I : Array Bool → Act → World → Prop} (hB : regInvB md ops n = true)
    (hstep : ∀ (listed : Array Bool) (a : Act) (w : World) (i : Nat) (o : Oper), ops[i]? = some o → i < n → listed.getD i true = false → (∀ e ∈ o.after, Region.binds md e = true → listed.getD e.on false = true) → I listed a w →
      ∀ K : Act → World → Prop, (∀ a' w', I (listed.setIfInBounds i true) a' w' → K a' w') → if Region.wanted o (yielded ops a.tmps) = true then Oper.wp P o a w K Q else K (a.put o.dst undef) w)
    (hend : ∀ (listed : Array Bool) (a : Act) (w : World), (∀ i, i < n → listed.getD i false = true) → I listed a w → wpList P ops Q (ops.toList.drop n) a w) :
    ∀ (f : Nat) (listed : Array Bool) (a : Act) (w : World), (listed.toList.take n).count false = f → HeadI ops n listed → I listed a w → wpAny P md ops Q (f + (ops.size - n)) listed a w := by
  unfold regInvB at hB
  simp only [Bool.and_eq_true, decide_eq_true_eq, Bool.or_eq_true] at hB
  obtain ⟨⟨⟨⟨hn, hlow⟩, hsink⟩, hchain⟩, hseq⟩ := hB
  intro f
  induction f with
  | zero =>
    intro listed a w hc hI h
    have hl : ∀ i, i < n → listed.getD i false = true := fun i hi => by
      have his : i < listed.size := by rw [hI.size]; omega
      cases hv : listed[i] with
      | true => simp [his, hv]
      | false =>
        exfalso
        have : false ∈ listed.toList.take n := by
          rw [List.mem_take_iff_getElem]
          exact ⟨i, by simp; omega, by simpa using hv⟩
        have := List.count_pos_iff.2 this
        omega
    have hcan := hI.full hn hl
    rw [Nat.zero_add]
    have hlen : (ops.toList.drop n).length = ops.size - n := by simp
    have hs2 : Region.seqB md ops (ops.toList.drop n).length n listed = true := by rw [hlen, hcan]; exact hseq
    have := wpAny_of_seq (md := md) (Q' := Q) (P := P) (ops.toList.drop n) n listed a w (fun j => by simp [List.getElem?_drop]) hs2 (hend listed a w hl h)
    rwa [hlen] at this
  | succ f ih =>
    intro listed a w hc hI h
    -- some head is unlisted
    have hex : ∃ i, i < n ∧ listed.getD i true = false ∧ ∀ j, j < i → listed.getD j false = true := by
      have hm : ∃ i, i < n ∧ listed.getD i true = false := by
        have : false ∈ listed.toList.take n := List.count_pos_iff.1 (by omega)
        rw [List.mem_take_iff_getElem] at this
        obtain ⟨i, hi, hv⟩ := this
        have his : i < listed.size := by simp at hi; omega
        refine ⟨i, by simp at hi; omega, ?_⟩
        simp [his]
        simpa using hv
      obtain ⟨i, hi, hv⟩ := hm
      induction i using Nat.strongRecOn with
      | _ i ih2 =>
        by_cases hall : ∀ j, j < i → listed.getD j false = true
        · exact ⟨i, hi, hv, hall⟩
        · obtain ⟨j, hj⟩ := Classical.not_forall.1 hall
          obtain ⟨hji, hjv⟩ := Classical.not_imp.1 hj
          exact ih2 j hji (by omega) (by
            have hjs : j < listed.size := by rw [hI.size]; omega
            simp [hjs] at hjv ⊢
            exact hjv)
    obtain ⟨i0, hi0, hv0, hbef⟩ := hex
    have hready0 : i0 ∈ Region.ready md ops listed := by
      have his : i0 < ops.size := by omega
      have h1 := List.all_eq_true.1 hlow i0 (List.mem_range.2 hi0)
      rw [mem_ready]
      rw [Array.getElem?_eq_getElem his] at h1
      simp only [Option.map_some, Option.getD_some] at h1
      refine ⟨hv0, _, Array.getElem?_eq_getElem his, fun e he hb => ?_⟩
      have h2 := Array.all_eq_true'.1 h1 e he
      simp only [hb, Bool.not_true, Bool.false_or, decide_eq_true_eq] at h2
      exact hbef _ h2
    rw [show f + 1 + (ops.size - n) = (f + (ops.size - n)) + 1 by omega]
    refine ⟨fun h0 => (by rw [h0] at hready0; cases hready0), fun i hi => ?_⟩
    obtain ⟨hiu, oi, hoi, hall⟩ := mem_ready.1 hi
    have his : i < ops.size := (Array.getElem?_eq_some_iff.1 hoi).1
    have hin : i < n := by
      rcases Nat.lt_or_ge i n with h' | h'
      · exact h'
      · exfalso
        by_cases hie : i = n
        · subst hie
          rcases hsink with hs | hs
          · omega
          · have h1 := List.all_eq_true.1 hs i0 (List.mem_range.2 hi0)
            obtain ⟨oj, hoj, e, he, hb, hon⟩ := Region.waitsFor_spec h1
            have : oj = oi := Option.some.inj (hoj.symm.trans hoi)
            subst this
            have h2 := hall e he hb
            rw [hon, getD_both hv0] at h2
            cases h2
        · have h1 := List.all_eq_true.1 hchain i (List.mem_range.2 his)
          simp only [Bool.or_eq_true, decide_eq_true_eq] at h1
          rcases h1 with h1 | h1
          · omega
          · obtain ⟨oj, hoj, e, he, hb, hon⟩ := Region.waitsFor_spec h1
            have : oj = oi := Option.some.inj (hoj.symm.trans hoi)
            subst this
            have h2 := hall e he hb
            rw [hon, getD_both (hI.tail (i - 1) (by omega) (by omega))] at h2
            cases h2
    refine wpOp_step hoi fun K' hK => ?_
    refine hstep listed a w i oi hoi hin hiu hall h K' fun a' w' hI' => hK a' w' (ih _ a' w' ?_ (hI.set hin) hI')
    have hil : i < listed.toList.length := by simp; rw [hI.size]; exact his
    have hiv : listed.toList[i] = false := by
      have := hiu
      simp at hil
      simp [hil] at this
      simpa using this
    have hlt2 : i < (List.take n listed.toList).length := by rw [List.length_take]; omega
    rw [Array.toList_setIfInBounds, List.take_set, List.count_set hlt2]
    have hgt : (List.take n listed.toList)[i]'hlt2 = false := by rw [List.getElem_take]; exact hiv
    simp [hgt, hc]
/-- The slots of the first operations, written one after another. -/
def putL : List (Nat × Nat) → (Nat → Value) → Act → Act
  | [], _, a => a
  | (i, d) :: l, X, a => putL l X (a.put (some d) (X i))
theorem put_comm (a : Act) {d d' : Nat} (h : d ≠ d') (u v : Value) : (a.put (some d) u).put (some d') v = (a.put (some d') v).put (some d) u := by
  simp only [Act.put]
  rw [Array.setIfInBounds_comm _ _ h]
theorem put_put (a : Act) (d : Nat) (u v : Value) : (a.put (some d) u).put (some d) v = a.put (some d) v := by
  simp [Act.put]
theorem put_putL : ∀ (l : List (Nat × Nat)) (X : Nat → Value) (a : Act) (d : Nat) (v : Value), (∀ x ∈ l, x.2 ≠ d) → (putL l X a).put (some d) v = putL l X (a.put (some d) v)
  | [], _, _, _, _, _ => rfl
  | (i, e) :: l, X, a, d, v, h => by
    rw [putL, put_putL l X _ d v (fun x hx => h x (List.mem_cons_of_mem _ hx)), put_comm a (h (i, e) List.mem_cons_self), putL]
theorem putL_upd : ∀ (l : List (Nat × Nat)) (X : Nat → Value) (a : Act) (i : Nat) (v : Value), (∀ x ∈ l, x.1 ≠ i) → putL l (updV X i v) a = putL l X a
  | [], _, _, _, _, _ => rfl
  | (j, e) :: l, X, a, i, v, h => by
    rw [putL, putL, updV_ne X i v (h (j, e) List.mem_cons_self), putL_upd l X _ i v (fun x hx => h x (List.mem_cons_of_mem _ hx))]
theorem putL_put : ∀ (l : List (Nat × Nat)) (X : Nat → Value) (a : Act) (i d : Nat) (v : Value), (l.map (·.1)).Nodup → (l.map (·.2)).Nodup → (i, d) ∈ l → (putL l X a).put (some d) v = putL l (updV X i v) a
  | [], _, _, _, _, _, _, _, h => by cases h
  | (j, e) :: l, X, a, i, d, v, h1, h2, hm => by
    rw [List.map_cons, List.nodup_cons] at h1 h2
    rcases List.mem_cons.1 hm with h | h
    · cases h
      rw [putL, putL, updV_at, putL_upd l X _ _ v (fun x hx e => h1.1 (List.mem_map.2 ⟨x, hx, e⟩)), put_putL l X _ _ v (fun x hx e => h2.1 (List.mem_map.2 ⟨x, hx, e⟩)), put_put]
    · have hji : j ≠ i := fun e => h1.1 (by rw [e]; exact List.mem_map_of_mem (f := (·.1)) h)
      rw [putL, putL, updV_ne X i v hji, putL_put l X _ i d v h1.2 h2.2 h]
theorem putL_own (a : Act) (g : Nat → Nat) : ∀ (l : List (Nat × Nat)), (∀ x ∈ l, g x.1 = x.2) → putL l (fun i => (a.tmps[g i]?).getD undef) a = a
  | [], _ => rfl
  | (i, d) :: l, h => by
    have e : a.put (some d) ((a.tmps[g i]?).getD undef) = a := by
      rw [h (i, d) List.mem_cons_self]
      simp only [Act.put]
      rcases Nat.lt_or_ge d a.tmps.size with hd | hd
      · have : a.tmps.setIfInBounds d ((a.tmps[d]?).getD undef) = a.tmps := by
          rw [Array.setIfInBounds, dif_pos hd, Array.getElem?_eq_getElem hd, Option.getD_some]
          exact Array.set_getElem_self hd
        rw [this]
      · have : a.tmps.setIfInBounds d ((a.tmps[d]?).getD undef) = a.tmps := by rw [Array.setIfInBounds, dif_neg (by omega)]
        rw [this]
    rw [putL, e, putL_own a g l (fun x hx => h x (List.mem_cons_of_mem _ hx))]
def nodupB : List Nat → Bool
  | [] => true
  | x :: l => !l.contains x && nodupB l
theorem nodup_of : ∀ {l : List Nat}, nodupB l = true → l.Nodup
  | [], _ => List.nodup_nil
  | x :: l, h => by
    simp only [nodupB, Bool.and_eq_true, Bool.not_eq_true', List.contains_eq_mem, decide_eq_false_iff_not] at h
    exact List.nodup_cons.2 ⟨h.1, nodup_of h.2⟩
def dstsB (ops : Array Oper) (n : Nat) (l : List (Nat × Nat)) : Bool :=
  nodupB (l.map (·.1)) && nodupB (l.map (·.2)) && (List.range n).all (fun i => match (ops[i]?).bind (·.dst) with | some d => l.contains (i, d) | none => true) &&
  l.all (fun x => (ops[x.1]?).bind (·.dst) == some x.2)
def updD (D : Nat → Bool) (i : Nat) : Nat → Bool := fun j => if j = i then true else D j
theorem updD_at (D : Nat → Bool) (i : Nat) : updD D i i = true := by unfold updD; rw [if_pos rfl]
theorem updD_ne (D : Nat → Bool) (i : Nat) {j : Nat} (h : j ≠ i) : updD D i j = D j := by unfold updD; rw [if_neg h]
/-- Each operation's own proof. -/
def StepsI (P : Program) (ops : Array Oper) (Q : Exit → Act → World → Prop) (F : (Nat → Value) → Act) (I : (Nat → Bool) → (Nat → Value) → World → Prop) : Nat → List Oper → Prop
  | _, [] => True
  | k, o :: r => (∀ (D : Nat → Bool) (X : Nat → Value) (W : World), D k = false → (∀ e ∈ o.after, Region.binds .any e = true → D e.on = true) → I D X W →
      ∀ K : Act → World → Prop, (∀ v W', I (updD D k) (updV X k v) W' → K ((F X).put o.dst v) W') → if Region.wanted o (yielded ops (F X).tmps) = true then Oper.wp P o (F X) W K Q else K ((F X).put o.dst undef) W) ∧ StepsI P ops Q F I (k + 1) r
theorem StepsI.at_ {F : (Nat → Value) → Act} {I : (Nat → Bool) → (Nat → Value) → World → Prop} : ∀ {l : List Oper} {k : Nat}, StepsI P ops Q F I k l → ∀ (i : Nat) (o : Oper), l[i]? = some o →
    ∀ (D : Nat → Bool) (X : Nat → Value) (W : World), D (k + i) = false → (∀ e ∈ o.after, Region.binds .any e = true → D e.on = true) → I D X W →
      ∀ K : Act → World → Prop, (∀ v W', I (updD D (k + i)) (updV X (k + i) v) W' → K ((F X).put o.dst v) W') → if Region.wanted o (yielded ops (F X).tmps) = true then Oper.wp P o (F X) W K Q else K ((F X).put o.dst undef) W
  | [], _, _, i, o, ho => by simp at ho
  | o' :: l, k, h, 0, o, ho => by
    have : o' = o := by simpa using ho
    subst this
    exact h.1
  | o' :: l, k, h, i + 1, o, ho => by
    have := StepsI.at_ h.2 i o (by simpa using ho)
    rw [show k + 1 + i = k + (i + 1) by omega] at this
    exact this
/-- The law: what holds between the operations (D: which have been carried out; X: what their slots hold). -/
theorem wp_region_inv {id n : Nat} {a : Act} {w : World} (l : List (Nat × Nat)) (I : (Nat → Bool) → (Nat → Value) → World → Prop) (hm : P.follows .mixedOrders = true) (hB : regInvB .any ops n = true) (hl : dstsB ops n l = true)
    {F : (Nat → Value) → Act} (hF : ∀ X, putL l X a = F X) (h0 : ∀ X, I (fun _ => false) X w.drew) (hs : StepsI P ops Q F I 0 (ops.toList.take n))
    (ht : ∀ D X W, (∀ i, i < n → D i = true) → I D X W → wpList P ops Q (ops.toList.drop n) (F X) W) : (Code.region id ops true).wp P Q a w := by
  refine wp_region_any hm ?_
  have hB' := hB
  unfold regInvB at hB'
  simp only [Bool.and_eq_true, decide_eq_true_eq, Bool.or_eq_true] at hB'
  obtain ⟨⟨⟨⟨hn, hlow⟩, _⟩, _⟩, _⟩ := hB'
  unfold dstsB at hl
  simp only [Bool.and_eq_true] at hl
  obtain ⟨⟨⟨hl1, hl2⟩, hl3⟩, hl4⟩ := hl
  have hput : ∀ (X : Nat → Value) (i : Nat) (o : Oper), ops[i]? = some o → i < n → ∀ v, (F X).put o.dst v = F (updV X i v) := by
    intro X i o ho hi v
    have h1 := List.all_eq_true.1 hl3 i (List.mem_range.2 hi)
    rw [← hF, ← hF]
    cases hd : o.dst with
    | none =>
      show putL l X a = _
      refine (putL_upd l X a i v (fun x hx e => ?_)).symm
      have h2 := List.all_eq_true.1 hl4 x hx
      rw [e, ho] at h2
      simp [hd] at h2
    | some d =>
      rw [ho] at h1
      simp only [Option.bind_some, hd] at h1
      exact putL_put l X a i d v (nodup_of hl1) (nodup_of hl2) (by simpa using h1)
  have hown := putL_own a (fun i => ((ops[i]?).bind (·.dst)).getD 0) l (fun x hx => by
    have h2 := List.all_eq_true.1 hl4 x hx
    have h3 : (ops[x.1]?).bind (·.dst) = some x.2 := by simpa using h2
    rw [h3]; rfl)
  rw [hF] at hown
  have := wpAny_inv (P := P) (Q := Q) (md := .any) (ops := ops) (n := n) (I := fun listed b W => ∃ X D, b = F X ∧ I D X W ∧ ∀ i, i < n → D i = listed.getD i false) hB
    (fun listed b W i o ho hi hu hdeps hI K hK => by
      obtain ⟨X, D, rfl, hI, hD⟩ := hI
      have hi0 : (ops.toList.take n)[i]? = some o := by rw [List.getElem?_take_of_lt hi]; simpa using ho
      have key := StepsI.at_ hs i o hi0 D X W
      rw [Nat.zero_add] at key
      refine key (by rw [hD i hi]; exact getD_both hu) (fun e he hb => ?_) hI K (fun v W' hI' => hK _ _ ⟨updV X i v, updD D i, hput X i o ho hi v, hI', fun j hj => ?_⟩)
      · have h1 := List.all_eq_true.1 hlow i (List.mem_range.2 hi)
        rw [ho] at h1
        simp only [Option.map_some, Option.getD_some] at h1
        have h2 := Array.all_eq_true'.1 h1 e he
        simp only [hb, Bool.not_true, Bool.false_or, decide_eq_true_eq] at h2
        rw [hD e.on (by omega)]
        exact hdeps e he hb
      · by_cases hji : j = i
        · subst hji
          rw [updD_at]
          rcases Nat.lt_or_ge j listed.size with h' | h'
          · simp [h']
          · rw [Array.getD_eq_getD_getElem?, Array.getElem?_eq_none h'] at hu; cases hu
        · rw [updD_ne _ _ hji, getD_set_ne false (Ne.symm hji)]
          exact hD j hj)
    (fun listed b W hll hI => by
      obtain ⟨X, D, rfl, hI, hD⟩ := hI
      exact ht D X W (fun i hi => by rw [hD i hi]; exact hll i hi) hI)
    n (Array.replicate ops.size false) a { w with drawn := w.drawn + 1 }
    (by rw [Array.toList_replicate, List.take_replicate, List.count_replicate]; simp; omega)
    ⟨by simp, fun t ht hts => by simp [hts]⟩
    ⟨_, fun _ => false, hown.symm, h0 _, fun i hi => (getD_replicate_false _ _).symm⟩
  rwa [show n + (ops.size - n) = ops.size by omega] at this
end
end Go.Proofs.YtlkgaefabahkoaaDoor
/-
  Memory of a region's own that draws its order: which operation's slot holds which object: rows that are appended to, blocks that are made and stored into; whatever they hold.
-/
namespace Go.Proofs.YtlkgaefabahkoaaDoor
open Go.RowKit

def blkOf : Value → Option Nat
  | .slice (some a) _ _ => some a.block
  | .pointer (some a) => some a.block
  | _ => none
structure ObjT where
  p : Value → World → Prop
  c : Nat
  o : Nat
def Stab (p : Value → World → Prop) : Prop := ∀ v W W' b, W.grownBy W' b → (∀ k, blkOf v = some k → some k ≠ b) → p v W → p v W'
theorem blk_own {w : World} {base : Nat} {e : TypeId} {size : Nat} {v : Value} {n : Nat} {xs : List Value} (h : w.ownsRow base e size v n xs) : v.ownBlock = blkOf v := by
  rcases h.2 with ⟨rfl, _⟩ | ⟨g, cap, cur, rfl, _⟩ <;> rfl
def rowP (base : Nat) (e : TypeId) (size n : Nat) (xs : List Value) : Value → World → Prop := fun v W => W.ownsRow base e size v n xs
def cellsP (base : Nat) (t : TypeId) (cs : Array Value) : Value → World → Prop := fun v W => ∃ g, v = .pointer (some ⟨g, 0, none⟩) ∧ base ≤ g ∧ Blo W g t cs
theorem stab_row (base : Nat) (e : TypeId) (size n : Nat) (xs : List Value) : Stab (rowP base e size n xs) := fun v W W' b hg hk h => by
  refine World.ownsRow.kept h hg ?_
  rw [blk_own h]
  cases hb : blkOf v with
  | none => exact .inl rfl
  | some k => exact .inr fun e => hk k hb (by rw [← e])
theorem stab_cells (base : Nat) (t : TypeId) (cs : Array Value) : Stab (cellsP base t cs) := fun v W W' b hg hk h => by
  obtain ⟨g, rfl, h1, h2⟩ := h
  exact ⟨g, rfl, h1, h2.grown hg (hk g rfl)⟩
def DetO (T : List (Nat × Value)) (D : Nat → Bool) (X : Nat → Value) : Prop := ∀ x ∈ T, D x.1 = true → X x.1 = x.2
structure GI (R : List (Nat × ObjT)) (T : List (Nat × Value)) (C : List (Nat × Nat)) (w : World) (D : Nat → Bool) (X : Nat → Value) (W : World) : Prop where
  b : Below w.heap.size w W
  rows : ∀ x ∈ R, D x.1 = true → (∀ y ∈ R, y.2.c = x.2.c → x.2.o < y.2.o → D y.1 = false) → x.2.p (X x.1) W
  blk : ∀ x ∈ R, D x.1 = true → ∀ k, blkOf (X x.1) = some k → w.heap.size ≤ k ∧ k < W.heap.size
  ap : ∀ x ∈ R, ∀ y ∈ R, x.2.c ≠ y.2.c → D x.1 = true → D y.1 = true → ∀ k, blkOf (X x.1) = some k → blkOf (X y.1) ≠ some k
  dt : DetO T D X
  cl : ∀ x ∈ C, D x.1 = true → D x.2 = true
def keysO (R : List (Nat × ObjT)) : Prop := ∀ x ∈ R, ∀ y ∈ R, x.1 = y.1 → x = y
def stabs (R : List (Nat × ObjT)) : Prop := ∀ x ∈ R, Stab x.2.p
theorem keysO_of {R : List (Nat × ObjT)} (h : nodupB (R.map (·.1)) = true) : keysO R := by
  have hn := nodup_of h
  clear h
  induction R with
  | nil => intro x hx; cases hx
  | cons a R ih =>
    rw [List.map_cons, List.nodup_cons] at hn
    intro x hx y hy e
    rcases List.mem_cons.1 hx with rfl | hx' <;> rcases List.mem_cons.1 hy with rfl | hy'
    · rfl
    · exact absurd (by rw [e]; exact List.mem_map_of_mem (f := (·.1)) hy') hn.1
    · exact absurd (by rw [← e]; exact List.mem_map_of_mem (f := (·.1)) hx') hn.1
    · exact ih hn.2 x hx' y hy' e
section
variable {R : List (Nat × ObjT)} {T : List (Nat × Value)} {C : List (Nat × Nat)} {w W W' : World} {D : Nat → Bool} {X : Nat → Value}
theorem updD_ofO {D : Nat → Bool} {i j : Nat} (h : updD D i j = true) : j = i ∨ (j ≠ i ∧ D j = true) := by
  by_cases e : j = i
  · exact .inl e
  · rw [updD_ne D i e] at h; exact .inr ⟨e, h⟩
theorem updD_offO {D : Nat → Bool} {i j : Nat} (h : updD D i j = false) : D j = false := by
  by_cases e : j = i
  · rw [e, updD_at] at h; cases h
  · rwa [updD_ne D i e] at h
theorem updD_upO {D : Nat → Bool} {i j : Nat} (h : D j = true) : updD D i j = true := by
  by_cases e : j = i
  · rw [e, updD_at]
  · rw [updD_ne D i e]; exact h
theorem GI.start (hw : Below w.heap.size w W) : GI R T C w (fun _ => false) X W :=
  ⟨hw, fun _ _ h => (by cases h), fun _ _ h => (by cases h), fun _ _ _ _ _ h => (by cases h), fun _ _ h => (by cases h), fun _ _ h => (by cases h)⟩
theorem GI.size (h : GI R T C w D X W) : w.heap.size ≤ W.heap.size := h.b.size
theorem DetO.set {T : List (Nat × Value)} {D : Nat → Bool} {X : Nat → Value} (h : DetO T D X) (i : Nat) (v : Value) (hv : ∀ x ∈ T, x.1 = i → x.2 = v) : DetO T (updD D i) (updV X i v) := fun x hx hd => by
  by_cases e : x.1 = i
  · rw [e, updV_at]; exact (hv x hx e).symm
  · rw [updV_ne X i v e]
    rw [updD_ne D i e] at hd
    exact h x hx hd
/-- An operation whose slot is no object of the region's own; it may make new memory. -/
theorem GI.tell (h : GI R T C w D X W) (hs : stabs R) (i : Nat) (v : Value) (hb : Below W.heap.size W W') (hR : ∀ x ∈ R, x.1 ≠ i) (hv : ∀ x ∈ T, x.1 = i → x.2 = v) (hc : ∀ x ∈ C, x.1 = i → D x.2 = true) : GI R T C w (updD D i) (updV X i v) W' := by
  have hd : ∀ x ∈ R, updD D i x.1 = true → D x.1 = true := fun x hx hh => by rwa [updD_ne D i (hR x hx)] at hh
  have hg : W.grownBy W' none := grown_of_below hb none
  refine ⟨h.b.trans (hb.mono h.size), fun x hx hh hn => ?_, fun x hx hh k hk => ?_, fun x hx y hy hcc h1 h2 k hk => ?_, h.dt.set i v hv, fun x hx hh => ?_⟩
  · rw [updV_ne X i v (hR x hx)]
    exact hs x hx _ W W' none hg (fun _ _ e => by cases e) (h.rows x hx (hd x hx hh) (fun y hy e1 e2 => updD_offO (hn y hy e1 e2)))
  · rw [updV_ne X i v (hR x hx)] at hk
    have := h.blk x hx (hd x hx hh) k hk
    have := hb.size
    omega
  · rw [updV_ne X i v (hR x hx)] at hk
    rw [updV_ne X i v (hR y hy)]
    exact h.ap x hx y hy hcc (hd x hx h1) (hd y hy h2) k hk
  · rcases updD_ofO hh with e | ⟨_, e⟩
    · exact updD_upO (hc x hx e)
    · exact updD_upO (h.cl x hx e)
/-- An operation that makes an object anew (b = none), or changes the newest one of its class. -/
theorem GI.set (h : GI R T C w D X W) (hk : keysO R) (hs : stabs R) (i : Nat) (v : Value) (z : ObjT) (hz : (i, z) ∈ R) (b : Option Nat) (hg : W.grownBy W' b)
    (hb : ∀ k, b = some k → w.heap.size ≤ k ∧ k < W.heap.size ∧ ∀ x ∈ R, D x.1 = true → x.2.c ≠ z.c → blkOf (X x.1) ≠ some k)
    (hv : ∀ k, blkOf v = some k → w.heap.size ≤ k ∧ k < W'.heap.size ∧ (b = some k ∨ W.heap.size ≤ k))
    (hlast : ∀ y ∈ R, y.2.c = z.c → y.1 ≠ i → y.2.o < z.o ∨ D y.1 = false)
    (ho : z.p v W') (hT : ∀ x ∈ T, x.1 ≠ i) (hc : ∀ x ∈ C, x.1 = i → D x.2 = true) : GI R T C w (updD D i) (updV X i v) W' := by
  have hb' : Below w.heap.size w W' := h.b.grown hg h.b.size (fun k hkk => (hb k hkk).1)
  have apr : ∀ x ∈ R, x.2.c ≠ z.c → D x.1 = true → ∀ k, blkOf (X x.1) = some k → some k ≠ b := fun x hx hc hd k hkk e => (hb k e.symm).2.2 x hx hd hc hkk
  have aps : ∀ x ∈ R, x.2.c ≠ z.c → D x.1 = true → ∀ k, blkOf (X x.1) = some k → blkOf v ≠ some k := fun x hx hc hd k hkk e => by
    rcases (hv k e).2.2 with e2 | e2
    · exact apr x hx hc hd k hkk e2.symm
    · have := (h.blk x hx hd k hkk).2
      omega
  have cls : ∀ x ∈ R, x.1 = i → x = (i, z) := fun x hx e => hk x hx _ hz e
  refine ⟨hb', fun x hx hh hn => ?_, fun x hx hh k hkk => ?_, fun x hx y hy hcc h1 h2 k hkk => ?_, fun x hx hd => ?_, fun x hx hh => ?_⟩
  · by_cases e : x.1 = i
    · have := cls x hx e
      subst this
      rw [updV_at]; exact ho
    · rw [updD_ne D i e] at hh
      by_cases hcc : x.2.c = z.c
      · rcases hlast x hx hcc e with h3 | h3
        · have := hn (i, z) hz hcc.symm h3
          rw [updD_at] at this; cases this
        · rw [h3] at hh; cases hh
      · rw [updV_ne X i v e]
        exact hs x hx _ W W' b hg (apr x hx hcc hh) (h.rows x hx hh (fun y hy e1 e2 => updD_offO (hn y hy e1 e2)))
  · by_cases e : x.1 = i
    · rw [e, updV_at] at hkk
      exact ⟨(hv k hkk).1, (hv k hkk).2.1⟩
    · rw [updV_ne X i v e] at hkk
      rw [updD_ne D i e] at hh
      have := h.blk x hx hh k hkk
      have := hg.size
      omega
  · by_cases e : x.1 = i
    · have hxe := cls x hx e
      have hye : y.1 ≠ i := fun e2 => by
        have := cls y hy e2
        rw [hxe, this] at hcc; exact hcc rfl
      rw [e, updV_at] at hkk
      rw [updV_ne X i v hye]
      rw [updD_ne D i hye] at h2
      intro e3
      exact aps y hy (fun e2 => hcc (by rw [hxe, e2])) h2 k e3 hkk
    · rw [updV_ne X i v e] at hkk
      rw [updD_ne D i e] at h1
      by_cases e2 : y.1 = i
      · have hye := cls y hy e2
        rw [e2, updV_at]
        exact aps x hx (fun e3 => hcc (by rw [hye, e3])) h1 k hkk
      · rw [updV_ne X i v e2]
        rw [updD_ne D i e2] at h2
        exact h.ap x hx y hy hcc h1 h2 k hkk
  · rw [updV_ne X i v (hT x hx)]
    rw [updD_ne D i (hT x hx)] at hd
    exact h.dt x hx hd
  · rcases updD_ofO hh with e | ⟨_, e⟩
    · exact updD_upO (hc x hx e)
    · exact updD_upO (h.cl x hx e)
/-- A new block. -/
theorem GI.fresh (h : GI R T C w D X W) (hk : keysO R) (hs : stabs R) (i : Nat) (v : Value) (z : ObjT) (hz : (i, z) ∈ R) (hb : Below W.heap.size W W') (hv : ∀ k, blkOf v = some k → W.heap.size ≤ k ∧ k < W'.heap.size)
    (hlast : ∀ y ∈ R, y.2.c = z.c → y.1 ≠ i → y.2.o < z.o ∨ D y.1 = false) (ho : z.p v W') (hT : ∀ x ∈ T, x.1 ≠ i) (hc : ∀ x ∈ C, x.1 = i → D x.2 = true) : GI R T C w (updD D i) (updV X i v) W' :=
  h.set hk hs i v z hz none (grown_of_below hb none) (fun k e => by cases e) (fun k e => ⟨Nat.le_trans h.size (hv k e).1, (hv k e).2, .inr (hv k e).1⟩) hlast ho hT hc
/-- The newest one of its class changed, or put into a new block. -/
theorem GI.onto (h : GI R T C w D X W) (hk : keysO R) (hs : stabs R) (i p : Nat) (v : Value) (z y0 : ObjT) (hz : (i, z) ∈ R) (hp : (p, y0) ∈ R) (hcl : z.c = y0.c) (hpd : D p = true)
    (hg : W.grownBy W' (blkOf (X p))) (hv : blkOf v = blkOf (X p) ∨ (blkOf v = some W.heap.size ∧ W.heap.size < W'.heap.size))
    (hlast : ∀ y ∈ R, y.2.c = z.c → y.1 ≠ i → y.2.o < z.o ∨ D y.1 = false) (ho : z.p v W') (hT : ∀ x ∈ T, x.1 ≠ i) (hc : ∀ x ∈ C, x.1 = i → D x.2 = true) : GI R T C w (updD D i) (updV X i v) W' := by
  refine h.set hk hs i v z hz (blkOf (X p)) hg (fun k e => ⟨(h.blk _ hp hpd k e).1, (h.blk _ hp hpd k e).2, fun x hx hd hcc e2 => ?_⟩) (fun k e => ?_) hlast ho hT hc
  · exact h.ap x hx (p, y0) hp (by rw [← hcl]; exact hcc) hd hpd k e2 e
  · rcases hv with e2 | ⟨e2, e3⟩
    · rw [e2] at e
      have := h.blk _ hp hpd k e
      have := hg.size
      exact ⟨by omega, by omega, .inl e⟩
    · rw [e2] at e
      cases e
      exact ⟨h.size, e3, .inr (Nat.le_refl _)⟩
end
/-! Steps -/
section
variable {P : Program} {ops : Array Oper} {Q : Exit → Act → World → Prop} {o : Oper} {a : Act} {w w' : World} {K : Act → World → Prop} {E : Prop}
theorem stepO_run {v : Value} (hw : Region.wanted o (yielded ops a.tmps) = true) (hr : (execOp a.eval o).run P w = .ok (.value v) w') (hk : K (a.put o.dst v) w') :
    if Region.wanted o (yielded ops a.tmps) = true then Oper.wp P o a w K Q else E := by
  rw [if_pos hw]
  unfold Oper.wp
  rw [hr]
  exact hk
theorem stepO_call {f : FuncId} {args : Array Value} {post : Ending → World → Prop} (hw : Region.wanted o (yielded ops a.tmps) = true) (hr : (execOp a.eval o).run P w = .ok (.enter f args) w)
    (hc : Calls P f args w post) (hk : ∀ e w', post e w' → ∃ v, e = .returned v ∧ K (a.put o.dst v) w') :
    if Region.wanted o (yielded ops a.tmps) = true then Oper.wp P o a w K Q else E := by
  rw [if_pos hw]
  unfold Oper.wp
  rw [hr]
  exact hc.mono fun e w' h => by
    obtain ⟨v, rfl, h2⟩ := hk e w' h
    exact h2
theorem stepO_store (hw : Region.wanted o (yielded ops a.tmps) = true) (ty : TypeId) (x y : Operand) (ho : o.op = .store ty x y) (g : Nat) (cells : Array Value) (hx : a.eval x = .pointer (some ⟨g, 0, none⟩)) (hy : a.eval y = .agg cells)
    (t : TypeId) (old : Array Value) (hg : Blo w g t old) (hi : (P.info? ty).map (·.size) = some cells.size) (hold : old.size = cells.size) (h1 : cells.all (·.oneCell') = true) (hd : o.dst = none) (v : Value)
    (hk : Blo (w.setRow g cells) g t cells → w.grownBy (w.setRow g cells) (some g) → K (a.put o.dst v) (w.setRow g cells)) :
    if Region.wanted o (yielded ops a.tmps) = true then Oper.wp P o a w K Q else E := by
  rw [if_pos hw]
  refine wp_store_row ty x y ho g cells hx hy t old hg hi hold h1 ?_
  have := hk (setRow_heap w g old cells t (0, 0) hg) ⟨rfl, rfl, rfl, by simp, fun k _ hne => setRow_other w g k cells (fun e => hne (by rw [e]))⟩
  rw [hd] at this ⊢
  exact this
theorem stepO_append (hw : Region.wanted o (yielded ops a.tmps) = true) (s x : Operand) (t : TypeId) (ho : o.op = .call { callee := .builtin .append, args := #[s, x], argTypes := #[t, t] })
    (base : Nat) (e : TypeId) (z : Value) (size bytes : Nat) (ht : P.underlying t = some (.slice e)) (hi : (P.info? e).map (fun i => (i.zero, i.size, i.bytes)) = some (some z, size, bytes)) (hzs : z.cells.size = size) (hsz : 0 < size) (hby : bytes ≤ 1000)
    (v : Value) (n : Nat) (xs : List Value) (hs : a.eval s = v) (hown : w.ownsRow base e size v n xs) (ao : Option Addr) (m c : Nat) (ys : List Value) (hx : a.eval x = .slice ao m c) (hl : ys.length = m * size) (hy : ∀ ad, ao = some ad → ∀ j u, ys[j]? = some u → w.cell? (ad.add j) = some u) (h1 : ∀ u ∈ ys, u.oneCell' = true) (hnone : ao = none → m = 0)
    (hroom : n + m ≤ 1000000) (hbase : base ≤ w.heap.size)
    (hk : ∀ v' w', w'.ownsRow base e size v' (n + m) (xs ++ ys) → w.grownBy w' (blkOf v) → (blkOf v' = blkOf v ∨ (blkOf v' = some w.heap.size ∧ w.heap.size < w'.heap.size)) → K (a.put o.dst v') w') :
    if Region.wanted o (yielded ops a.tmps) = true then Oper.wp P o a w K Q else E := by
  obtain ⟨i, hi0, hz, hs1, hb1⟩ := info_parts hi
  rw [if_pos hw]
  unfold Oper.wp
  cases ao with
  | none =>
    obtain rfl := hnone rfl
    have hys : ys = [] := List.eq_nil_of_length_eq_zero (by rw [hl]; simp)
    subst hys
    have hrun : (Builtin.append_ #[t, t] o.type #[v, .slice none 0 c]).run P w = .ok v w := by
      rcases hown.2 with ⟨rfl, rfl⟩ | ⟨g, cap, cur, rfl, _, _, hnc, _⟩
      · simp [Builtin.append_, run_underlying ht, sizeOf, typeInfo, hi0, Builtin.lenOf, Builtin.firstCells]
      · simp [Builtin.append_, run_underlying ht, sizeOf, typeInfo, hi0, Builtin.lenOf, Builtin.firstCells, hnc, storeCells]
    simp [execOp, ho, resolve, invoke, builtin, hs, hx, hrun, Result.andThen]
    exact hk v w (by simpa using hown) ⟨rfl, rfl, rfl, Nat.le_refl _, fun _ _ _ => rfl⟩ (.inl rfl)
  | some ad =>
    obtain ⟨v', w', hrun, h2, h3, _, h5⟩ := run_append_own_at (P := P) w base t o.type e i z size bytes ht hi0 hz hs1 hb1 hzs hsz v n xs hown ad m c ys hl (hy ad rfl) h1 (by unfold maxLen; omega) (Nat.le_trans (Nat.mul_le_mul hroom hby) (by decide)) hbase
    simp [execOp, ho, resolve, invoke, builtin, hs, hx, hrun, Result.andThen]
    rw [blk_own hown] at h3 h5
    refine hk v' w' h2 h3 ?_
    rw [← blk_own h2]
    rcases h5 with h5 | h5
    · exact .inl h5
    · exact .inr ⟨h5, (h2.lt _ h5).2⟩
end
end Go.Proofs.YtlkgaefabahkoaaDoor
