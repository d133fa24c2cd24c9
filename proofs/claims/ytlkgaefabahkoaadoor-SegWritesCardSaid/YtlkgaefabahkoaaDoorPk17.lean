/-
  SgDoc · SgDPut · SgDClr · SgDSum · SwRSz · SwFnPre · RowInv · SwFnM: these texts in one.
-/
import Derived.Test.YtlkgaefabahkoaaDoorPk08
import Derived.Test.YtlkgaefabahkoaaDoorPk10
import Derived.Test.YtlkgaefabahkoaaDoorPk16
import Derived.BigQuiet
import Derived.Lib.AppendStr
import Derived.Test.YtlkgaefabahkoaaDoorPk01
import Derived.Test.YtlkgaefabahkoaaDoorPk00
import Derived.Deep.RegionHeld3
import Derived.Deep.RegionLaw
import Derived.Deep.DeepCutAuto
import Derived.KernelRfl
import Derived.OpenShut
import Derived.Test.YtlkgaefabahkoaaDoorPk06
import Derived.Maps.AppendAt
import Derived.Laws.AppendOwnNone
import Derived.OwnWalk
import Derived.Test.YtlkgaefabahkoaaDoorPk04
/-
  Partial segments, the document's side: room for steps; put.
-/
namespace Go.Proofs.YtlkgaefabahkoaaDoor
open Go.RowKit

/-- Room for k steps more on the document's disk. -/
structure Rd (d : Dm) (k : Nat) : Prop where
  dn : Dn d
  lf : 0 ≤ d.left
  st : d.steps + k ≤ 1000000
  ql : d.Q.length + k ≤ 100000
theorem Rd.mono {d : Dm} {j k : Nat} (h : Rd d k) (hj : j ≤ k) : Rd d j := ⟨h.dn, h.lf, by have := h.st; omega, by have := h.ql; omega⟩
theorem step_left {d : Dm} (h : 0 ≤ d.left) (h2 : d.left ≤ 9223372036854775807) (hd : deadB d = false) : 0 ≤ (stepD d).left ∧ (stepD d).left ≤ 9223372036854775807 := by
  show 0 ≤ (if d.armed then d.left - 1 else d.left) ∧ (if d.armed then d.left - 1 else d.left) ≤ _
  cases ha : d.armed with
  | false => exact ⟨by simpa using h, by simpa using h2⟩
  | true =>
    have : d.left ≠ 0 := by
      intro e
      simp [deadB, ha, e] at hd
    simp only [if_pos]
    omega
theorem Rd.write {d : Dm} {k : Nat} (h : Rd d (k + 1)) (i : Int) (l : List Nat) (hb : ∀ x ∈ l, x < 256) : Rd (writeD d i l).1 k := by
  have hst := h.st
  have hql := h.ql
  unfold writeD
  split
  · exact h.mono (by omega)
  · rename_i hc
    split
    · exact h.mono (by omega)
    · rename_i hd
      have hs := step_left h.lf h.dn.lft.2 (bool_no hd)
      refine ⟨⟨h.dn.few, fun p hp => ?_, ⟨?_, ?_⟩, ⟨by have := hs.1; show -1 ≤ (stepD d).left; omega, hs.2⟩⟩, hs.1, ?_, ?_⟩
      · rcases List.mem_append.1 hp with hp | hp
        · exact h.dn.good p hp
        · obtain rfl := List.mem_singleton.1 hp
          refine ⟨?_, ?_, hb⟩
          · show i.toNat < d.n
            omega
          · show l.length = 64
            omega
      · have := h.dn.stp.1
        show 0 ≤ d.steps + 1
        omega
      · show d.steps + 1 ≤ 1000000
        omega
      · show d.steps + 1 + (k : Int) ≤ 1000000
        omega
      · show (d.Q ++ [_]).length + k ≤ _
        simp; omega
theorem Rd.barr {d : Dm} {k : Nat} (h : Rd d (k + 1)) : Rd (barrD d).1 k := by
  have hst := h.st
  have hql := h.ql
  unfold barrD
  split
  · exact h.mono (by omega)
  · rename_i hd
    have hs := step_left h.lf h.dn.lft.2 (bool_no hd)
    refine ⟨⟨h.dn.few, fun p hp => (by cases hp), ⟨?_, ?_⟩, ⟨by have := hs.1; show -1 ≤ (stepD d).left; omega, hs.2⟩⟩, hs.1, ?_, ?_⟩
    · have := h.dn.stp.1
      show 0 ≤ d.steps + 1
      omega
    · show d.steps + 1 ≤ 1000000
      omega
    · show d.steps + 1 + (k : Int) ≤ 1000000
      omega
    · show ([] : List (Nat × List Nat)).length + k ≤ _
      simp; omega
theorem Rd.puts : ∀ (ls : List (List Nat)) {d : Dm} {k : Nat} (a : Int) (_ : Rd d (ls.length + k)) (_ : ∀ l ∈ ls, ∀ x ∈ l, x < 256), Rd (putsD d a ls).1 k
  | [], d, k, a, h, _ => h.mono (by simp)
  | l :: r, d, k, a, h, hb => by
    rw [putsD_cons]
    have hw : Rd (writeD d a l).1 (r.length + k) := Rd.write (h.mono (by simp; omega)) a l (hb l (List.mem_cons_self ..))
    split
    · exact Rd.puts r (a + 1) hw fun x hx => hb x (List.mem_cons_of_mem _ hx)
    · exact hw.mono (by omega)
def put4g (W : World) (B : Nat) (a b c d : Value) : World := (((W.setCell ⟨B, 0, none⟩ a).setCell ⟨B, 1, none⟩ b).setCell ⟨B, 2, none⟩ c).setCell ⟨B, 3, none⟩ d
theorem put4g_out (W : World) (B : Nat) (a b c d : Value) : Out (fun j => j = B) W (put4g W B a b c d) :=
  (((out_put (X := fun j => j = B) W ⟨B, 0, none⟩ a rfl).trans (out_put (X := fun j => j = B) _ ⟨B, 1, none⟩ b rfl) (fun _ _ h => h)).trans (out_put (X := fun j => j = B) _ ⟨B, 2, none⟩ c rfl) (fun _ _ h => h)).trans (out_put (X := fun j => j = B) _ ⟨B, 3, none⟩ d rfl) (fun _ _ h => h)
theorem put4g_blo {W : World} {B : Nat} {t : TypeId} {x0 x1 x2 x3 : Value} (h : Blo W B t #[x0, x1, x2, x3]) (a b c d : Value) : Blo (put4g W B a b c d) B t #[a, b, c, d] := dr_fin h
end Go.Proofs.YtlkgaefabahkoaaDoor
/-
  Partial segments, the document's side: put.
-/
namespace Go.Proofs.YtlkgaefabahkoaaDoor
open Go.RowKit

abbrev zdk : Array Value := #[.slice none 0 0, .slice none 0 0, .int .i64 0, .int .i64 0]
structure PuR (w : World) (d : Dm) (addr : Int) (ls : List (List Nat)) (k : Nat) (sa qa : Option Addr) (sc qc : Nat) (dk : Dm) (wr : World) : Prop where
  now : putsD d addr (ls.take k) = (dk, 0)
  mr : Mr wr sa qa sc qc dk
  box : Blo wr w.heap.size RDT (agR sa qa sc qc dk)
  res : Blo wr (w.heap.size + 1) RDT zdk
  below : Below w.heap.size w wr
section
variable {w w' W : World} {d dk : Dm} {ls : List (List Nat)} {addr : Int} {sa qa : Option Addr} {sc qc k : Nat}
theorem PuR.drew (h : PuR w d addr ls k sa qa sc qc dk W) : PuR w d addr ls k sa qa sc qc dk W.drew :=
  have hb : Below W.heap.size W W.drew := (Below.refl _ _).drew
  ⟨h.now, h.mr.later hb, h.box.later hb, h.res.later hb, h.below.drew⟩
theorem nthL_take {ls : List (List Nat)} {k : Nat} (hk : k < ls.length) : ls.take (k + 1) = ls.take k ++ [nthL ls k] := by
  rw [List.take_add_one, List.getElem?_eq_getElem hk]
  unfold nthL
  rw [List.getD_eq_getElem?_getD, List.getElem?_eq_getElem hk]
  rfl
set_option maxRecDepth 100000 in
set_option maxHeartbeats 8000000 in
theorem dput_any (addr : Int) (h0 : 0 ≤ addr) (h1 : addr ≤ 100000) (a : Option Addr) (n cap : Nat) (ls : List (List Nat)) (hn : n = ls.length) (hn2 : n ≤ 10000) (hR : Rds w a (cellsS (nthL ls) n)) (hby : ∀ l ∈ ls, ∀ x ∈ l, x < 256) (hrd : Rd d n) (hm : Mr w sa qa sc qc d) :
    Calls Tryd.prog 55 #[.agg (agR sa qa sc qc d), .int .i64 addr, .slice a n cap] w (MrO w (putsD d addr ls).1 (putsD d addr ls).2) := by
  have hb2 := dr_two w (.cells (agR sa qa sc qc d) RDT) (.cells zdk RDT)
  have hz := blo_laid (w.alloc (.cells (agR sa qa sc qc d) RDT)) RDT zdk
  rw [World.size_alloc] at hz
  have HSt : Hid (PuR w d addr ls 0 sa qa sc qc d ((w.alloc (.cells (agR sa qa sc qc d) RDT)).alloc (.cells zdk RDT))) :=
    ⟨rfl, hm.later hb2, (blo_laid w RDT (agR sa qa sc qc d)).alloc _, hz, hb2⟩
  have HR := Lib.hid hR
  have HBy := Lib.hid hby
  have HRd := Lib.hid hrd
  have HN := Lib.hid hn
  clear hR hby hrd hm hb2 hz hn
  obtain ⟨w1, hw1⟩ : ∃ w1, (w.alloc (.cells (agR sa qa sc qc d) RDT)).alloc (.cells zdk RDT) = w1 := ⟨_, rfl⟩
  rw [hw1] at HSt
  unfold agR at hw1 ⊢
  go_enter Tryd.func55, Tryd.ntmps55
  go_upto_region 1 with (fail)
  clear hw1
  go_wp2_with fail
  go_loopw [8, 12] (fun c t wr => ∃ k sa' qa' sc' qc' dk, k ≤ n ∧ t = .int .i64 ((k : Nat) : Int) ∧ c = .int .i64 0 ∧ PuR w d addr ls k sa' qa' sc' qc' dk wr) (fun _ t _ => n - (intOf t).toNat)
  case atStart => exact ⟨0, sa, qa, sc, qc, d, Nat.zero_le _, rfl, rfl, HSt.out⟩
  case round =>
    clear HSt
    obtain ⟨k, sa', qa', sc', qc', dk, hk, rfl, rfl, hP⟩ := hrel
    have HP := Lib.hid hP
    clear hP
    by_cases hlt : k < n
    · have hle : k < ls.length := by rw [← HN.out]; exact hlt
      obtain ⟨b, o, rfl, hc⟩ := HR.out k (.string (strOf (nthL ls k))) (by simp [cellsS, hlt])
      have HC : Hid (wr.cell? ⟨b, o + k, none⟩ = some (.string (strOf (nthL ls k)))) := cell_later HP.out.below hc
      have hmem : nthL ls k ∈ ls := by
        unfold nthL
        rw [List.getD_eq_getElem?_getD, List.getElem?_eq_getElem hle]
        exact List.getElem_mem hle
      have hrk : Rd dk 1 := by
        have := Rd.puts (ls.take k) (k := 1) addr (HRd.out.mono (by rw [List.length_take]; have := HN.out; omega)) (fun l hl => HBy.out l (List.mem_of_mem_take hl))
        rwa [HP.out.now] at this
      have hst := hrk.st
      have hql := hrk.ql
      have HPu := Lib.hid (mput_n (addr + ((k : Nat) : Int)) (nthL ls k) hrk.dn HP.out.drew.mr (by omega) (by omega))
      unfold agR at HPu
      have c0 := HC.out
      have y0 := HP.out.box.cell 0
      have y1 := HP.out.box.cell 1
      have y2 := HP.out.box.cell 2
      have y3 := HP.out.box.cell 3
      simp [agR] at y0 y1 y2 y3
      have i1 : (0 : Int) ≤ (k : Int) := by omega
      have i2 : (k : Int) < (n : Int) := by omega
      clear hc
      have HXd := Lib.hid HP.out.drew
      obtain ⟨⟨d', c'⟩, hcp⟩ : ∃ cp, writeD dk (addr + ((k : Nat) : Int)) (nthL ls k) = cp := ⟨_, rfl⟩
      rw [hcp] at HPu
      have ew : IntKind.i64.wrap (addr + ((k : Nat) : Int)) = addr + ((k : Nat) : Int) := by
        rw [IntKind.wrap_i64]
        omega
      have hput : putsD d addr (ls.take (k + 1)) = (d', c') := by
        have hl : (ls.take k).length = k := by rw [List.length_take]; omega
        rw [nthL_take hle, putsD_snoc _ _ _ _ (by rw [HP.out.now]), HP.out.now, hl]
        exact hcp
      have hbad : c' ≠ 0 → putsD d addr ls = (d', c') := fun hc => by
        have h := putsD_bad (ls.take (k + 1)) d addr (ls.drop (k + 1)) (by rw [hput]; exact hc)
        rwa [List.take_append_drop, hput] at h
      have HPt := Lib.hid hput
      have HBad := Lib.hid hbad
      clear hput hbad hcp
      go_upto_region 5 with (fail)
      go_region_with ((go_at_call 87; (with_reducible refine HPu.out.mono ?_); rintro e W' ⟨sa2, qa2, sc2, qc2, rfl, hM', hb'⟩; unfold agR; have HX' := Lib.hid (HXd.out.box.later hb'); have HZ' := Lib.hid (HXd.out.res.later hb'); have HM' := Lib.hid hM'; have HB' := Lib.hid (HXd.out.below.trans (hb'.mono HXd.out.below.size)); have z0 := HX'.out.cell 0; have z1 := HX'.out.cell 1; have z2 := HX'.out.cell 2; have z3 := HX'.out.cell 3; have f0 := HX'.out.frozen 0; have f1 := HX'.out.frozen 1; have f2 := HX'.out.frozen 2; have f3 := HX'.out.frozen 3; simp [agR] at z0 z1 z2 z3; clear hM' hb'))
      all_goals
        have hso := put4g_out W' w.heap.size (.slice sa2 d'.n sc2) (.slice qa2 d'.Q.length qc2) (.int .i64 d'.steps) (.int .i64 (lfD d'))
        have HX5 : Hid (Blo (put4g W' w.heap.size (.slice sa2 d'.n sc2) (.slice qa2 d'.Q.length qc2) (.int .i64 d'.steps) (.int .i64 (lfD d'))) w.heap.size RDT (agR sa2 qa2 sc2 qc2 d')) := put4g_blo HX'.out _ _ _ _
        have HZ5 : Hid (Blo (put4g W' w.heap.size (.slice sa2 d'.n sc2) (.slice qa2 d'.Q.length qc2) (.int .i64 d'.steps) (.int .i64 (lfD d'))) (w.heap.size + 1) RDT zdk) := hso.blo HZ'.out (by omega)
        have HM5 : Hid (Mr (put4g W' w.heap.size (.slice sa2 d'.n sc2) (.slice qa2 d'.Q.length qc2) (.int .i64 d'.steps) (.int .i64 (lfD d'))) sa2 qa2 sc2 qc2 d') := HM'.out.out hso (fun g cs hb e => by
          subst e
          rcases hb with hb | hb
          · exact hb.apart HX'.out (by decide) rfl
          · exact hb.apart HX'.out (by decide) rfl)
        have HB5 : Hid (Below w.heap.size w (put4g W' w.heap.size (.slice sa2 d'.n sc2) (.slice qa2 d'.Q.length qc2) (.int .i64 d'.steps) (.int .i64 (lfD d')))) := HB'.out.trans (hso.below HB'.out.size (fun i _ e => by omega))
        obtain ⟨W5, hw5⟩ : ∃ W5, put4g W' w.heap.size (.slice sa2 d'.n sc2) (.slice qa2 d'.Q.length qc2) (.int .i64 d'.steps) (.int .i64 (lfD d')) = W5 := ⟨_, rfl⟩
        rw [hw5] at HX5 HZ5 HM5 HB5
        have hw6 : ((((W'.setCell ⟨w.heap.size, 0, none⟩ (.slice sa2 d'.n sc2)).setCell ⟨w.heap.size, 1, none⟩ (.slice qa2 d'.Q.length qc2)).setCell ⟨w.heap.size, 2, none⟩ (.int .i64 d'.steps)).setCell ⟨w.heap.size, 3, none⟩ (.int .i64 (lfD d'))) = W5 := hw5
        simp only [hw6]
        clear hw5 hw6 hso HX' HZ' HM' HB' HXd HP HC HPu c0 y0 y1 y2 y3 z0 z1 z2 z3 f0 f1 f2 f3 hrk hst hql hmem
        by_cases hc : c' = 0
        · subst hc
          go_wp2_with fail
          refine ⟨⟨k + 1, sa2, qa2, sc2, qc2, d', by omega, by simp, rfl, HPt.out, HM5.out, HX5.out, HZ5.out, HB5.out⟩, ?_⟩
          simp [intOf]
          omega
        · have hg1 := HX5.out
          have hg2 := HZ5.out
          go_wp2_with (first | (refine wpList_load_row rfl RDT (.tmp 3) rfl w.heap.size rfl RDT (agR sa2 qa2 sc2 qc2 d') (0, 0) _ hg1 Tryd.underlying29 rfl (by kernel_rfl) ?_) | (refine wpList_store_row rfl RDT (.tmp 6) (.tmp 29) rfl (w.heap.size + 1) (agR sa2 qa2 sc2 qc2 d') (by first | rfl | simp [go_sem]) (by first | rfl | simp [go_sem]) RDT _ hg2 (by kernel_rfl) rfl (by simp [agR, Value.oneCell']) ?_))
          (try simp only [Exit.inBlock, Exit.then])
          have ho : Out (fun j => j = w.heap.size + 1) W5 (W5.setRow (w.heap.size + 1) (agR sa2 qa2 sc2 qc2 d')) := out_row W5 (w.heap.size + 1) _ rfl
          refine bodyPost_ret (results_row_tmp (p := 6) (u := 7) (ty := RDT) rfl _ _ (w.heap.size + 1) RDT (agR sa2 qa2 sc2 qc2 d') _ (by simp [Act.put]) (blo_row HZ5.out _) Tryd.underlying29 rfl (by kernel_rfl)) rfl ?_
          show MrO _ _ _ _ _
          rw [HBad.out hc]
          refine ⟨sa2, qa2, sc2, qc2, rfl, HM5.out.out ho (fun g cs hb e => ?_), below_setRow HB5.out (by omega) _⟩
          subst e
          rcases hb with hb | hb
          · exact hb.apart HZ5.out (by decide) rfl
          · exact hb.apart HZ5.out (by decide) rfl
    · obtain rfl : k = n := by omega
      have hnow : putsD d addr ls = (dk, 0) := by
        have h := HP.out.now
        rwa [List.take_of_length_le (by rw [← HN.out]; omega)] at h
      have hg1 := HP.out.box
      have hg2 := HP.out.res
      go_wp2_with (first | (refine wpList_load_row rfl RDT (.tmp 3) rfl w.heap.size rfl RDT (agR sa' qa' sc' qc' dk) (0, 0) _ hg1 Tryd.underlying29 rfl (by kernel_rfl) ?_) | (refine wpList_store_row rfl RDT (.tmp 6) (.tmp 32) rfl (w.heap.size + 1) (agR sa' qa' sc' qc' dk) (by first | rfl | simp [go_sem]) (by first | rfl | simp [go_sem]) RDT _ hg2 (by kernel_rfl) rfl (by simp [agR, Value.oneCell']) ?_))
      (try simp only [Exit.inBlock, Exit.then])
      have ho : Out (fun j => j = w.heap.size + 1) wr (wr.setRow (w.heap.size + 1) (agR sa' qa' sc' qc' dk)) := out_row wr (w.heap.size + 1) _ rfl
      refine bodyPost_ret (results_row_tmp (p := 6) (u := 7) (ty := RDT) rfl _ _ (w.heap.size + 1) RDT (agR sa' qa' sc' qc' dk) _ (by simp [Act.put]) (blo_row HP.out.res _) Tryd.underlying29 rfl (by kernel_rfl)) rfl ?_
      show MrO _ _ _ _ _
      rw [hnow]
      refine ⟨sa', qa', sc', qc', rfl, HP.out.mr.out ho (fun g cs hb e => ?_), below_setRow HP.out.below (by omega) _⟩
      subst e
      rcases hb with hb | hb
      · exact hb.apart HP.out.res (by decide) rfl
      · exact hb.apart HP.out.res (by decide) rfl
end
end Go.Proofs.YtlkgaefabahkoaaDoor
/-
  Partial segments, the document's side: Clear.
-/
namespace Go.Proofs.YtlkgaefabahkoaaDoor
open Go.RowKit

theorem conv64c (W : World) : (convert 49 9 (.slice (some ⟨W.heap.size, 0, none⟩) 64 64)).run Tryd.prog (W.alloc (.cells Z64 U8)) = .ok (.string (strOf zeroB)) (W.alloc (.cells Z64 U8)) :=
  have hb := bblk_zero W
  run_str _ 49 9 5 Tryd.underlying49 Tryd.underlying5 Tryd.underlying9 zeroB _ 64 64 hb.2.1.symm ⟨hb.2.2, by rw [hb.2.1]; decide, fun _ => ⟨W.heap.size, 0, rfl, fun i hi => by rw [Nat.zero_add, hb.1.cell, List.getElem?_toArray, cellsB_get _ _ hi]⟩⟩
/-- The document's disk in a box, and what is answered in another. -/
structure ClR (w : World) (sa qa : Option Addr) (sc qc : Nat) (d : Dm) (wr : World) : Prop where
  mr : Mr wr sa qa sc qc d
  box : Blo wr w.heap.size RDT (agR sa qa sc qc d)
  res : Blo wr (w.heap.size + 1) RDT zdk
  below : Below w.heap.size w wr
section
variable {w w' W : World} {d : Dm} {sa qa : Option Addr} {sc qc : Nat}
theorem ClR.later (h : ClR w sa qa sc qc d W) (hb : Below W.heap.size W w') : ClR w sa qa sc qc d w' :=
  ⟨h.mr.later hb, h.box.later hb, h.res.later hb, h.below.trans (hb.mono h.below.size)⟩
theorem Mr.row {g : Nat} {cs vs : Array Value} (h : Mr W sa qa sc qc d) (hg : Blo W g RDT cs) : Mr (W.setRow g vs) sa qa sc qc d :=
  h.out (X := fun j => j = g) (out_row W g _ rfl) fun g2 cs2 hb e => by
    subst e
    rcases hb with hb | hb
    · exact hb.apart hg (by decide) rfl
    · exact hb.apart hg (by decide) rfl
/-- The box is written anew. -/
theorem ClR.put {sa2 qa2 : Option Addr} {sc2 qc2 : Nat} {d2 : Dm} (h : ClR w sa qa sc qc d W) (hm : Mr W sa2 qa2 sc2 qc2 d2) : ClR w sa2 qa2 sc2 qc2 d2 (W.setRow w.heap.size (agR sa2 qa2 sc2 qc2 d2)) :=
  ⟨hm.row h.box, blo_row h.box _, (out_row (X := fun j => j = w.heap.size) W w.heap.size _ rfl).blo h.res (by omega), below_setRow h.below (Nat.le_refl _) _⟩
/-- What is answered: the box's. -/
theorem ClR.out (h : ClR w sa qa sc qc d W) (c : Int) : MrO w d c (.returned (.tuple #[.agg (agR sa qa sc qc d), .int .i64 c])) (W.setRow (w.heap.size + 1) (agR sa qa sc qc d)) :=
  ⟨sa, qa, sc, qc, rfl, h.mr.row h.res, below_setRow h.below (Nat.le_succ _) _⟩
set_option maxRecDepth 100000 in
set_option maxHeartbeats 8000000 in
theorem mclear_any (addr : Int) (hrd : Rd d 3) (hm : Mr w sa qa sc qc d) :
    Calls Tryd.prog 56 #[.agg (agR sa qa sc qc d), .int .i64 addr] w (MrO w (clearD d addr).1 (clearD d addr).2) := by
  have hb2 := dr_two w (.cells (agR sa qa sc qc d) RDT) (.cells zdk RDT)
  have hz := blo_laid (w.alloc (.cells (agR sa qa sc qc d) RDT)) RDT zdk
  rw [World.size_alloc] at hz
  have HSt : Hid (ClR w sa qa sc qc d ((w.alloc (.cells (agR sa qa sc qc d) RDT)).alloc (.cells zdk RDT))) :=
    ⟨hm.later hb2, (blo_laid w RDT (agR sa qa sc qc d)).alloc _, hz, hb2⟩
  have HRd := Lib.hid hrd
  have hfew := hrd.dn.few
  clear hrd hm hb2 hz
  obtain ⟨w1, hw1⟩ : ∃ w1, (w.alloc (.cells (agR sa qa sc qc d) RDT)).alloc (.cells zdk RDT) = w1 := ⟨_, rfl⟩
  rw [hw1] at HSt
  unfold agR at hw1 ⊢
  have y0 := HSt.out.box.cell 0
  simp [agR] at y0
  have hmk := run_make64
  have hcv := conv64c
  unfold clearD
  by_cases hc : hasB d.n addr 2 = true
  · rw [if_pos hc]
    have hx := hasB_yes hc
    have n1 : ¬ addr < 0 := by omega
    have n2 : ¬ (d.n : Int) - 2 < addr := by omega
    have HPu : Hid (∀ W, Below w1.heap.size w1 W → Rds W (some ⟨W.heap.size - 1, 0, none⟩) (cellsS (nthL [zeroB, zeroB]) 2) → Calls Tryd.prog 55 #[.agg (agR sa qa sc qc d), .int .i64 addr, .slice (some ⟨W.heap.size - 1, 0, none⟩) 2 2] W (MrO W (putsD d addr [zeroB, zeroB]).1 (putsD d addr [zeroB, zeroB]).2)) := fun W hb hR =>
      dput_any addr hx.1 (by omega) _ 2 2 [zeroB, zeroB] rfl (by decide) hR (fun l hl => by
        rcases List.mem_cons.1 hl with rfl | hl
        · exact zeroB_byte
        · rcases List.mem_cons.1 hl with rfl | hl
          · exact zeroB_byte
          · cases hl) (HRd.out.mono (by decide)) (HSt.out.mr.later hb)
    clear hc hx
    go_enter Tryd.func56, Tryd.ntmps56
    go_upto_region 4 with (fail)
    have HS2 := Lib.hid (HSt.out.later (sup_pc w1 (.cells Z64 U8)))
    have hb12 := sup_pc w1 (.cells Z64 U8)
    generalize w1.alloc (.cells Z64 U8) = w2 at *
    have x0 := HS2.out.box.cell 0
    have x1 := HS2.out.box.cell 1
    have x2 := HS2.out.box.cell 2
    have x3 := HS2.out.box.cell 3
    simp [agR] at x0 x1 x2 x3
    have hb23 := sup_pc w2 (.cells #[.string (strOf zeroB), .string (strOf zeroB)] STR)
    have HS3 := Lib.hid (HS2.out.later hb23)
    have hrds : Rds (w2.alloc (.cells #[.string (strOf zeroB), .string (strOf zeroB)] STR)) (some ⟨w2.heap.size, 0, none⟩) (cellsS (nthL [zeroB, zeroB]) 2) := fun j u hj => by
      refine ⟨w2.heap.size, 0, rfl, ?_⟩
      rw [Nat.zero_add, (blo_laid w2 STR _).cell]
      match j, hj with
      | 0, hj => exact hj
      | 1, hj => exact hj
      | j + 2, hj => simp [cellsS] at hj
    have HP := Lib.hid (HPu.out _ (hb12.trans (hb23.mono hb12.size)) (by simpa using hrds))
    obtain ⟨⟨d', c'⟩, hcp⟩ : ∃ cp, putsD d addr [zeroB, zeroB] = cp := ⟨_, rfl⟩
    have hrd' : Rd d' 1 := by
      have := Rd.puts [zeroB, zeroB] (k := 1) addr (HRd.out.mono (by decide)) (fun l hl => by
        rcases List.mem_cons.1 hl with rfl | hl
        · exact zeroB_byte
        · rcases List.mem_cons.1 hl with rfl | hl
          · exact zeroB_byte
          · cases hl)
      rwa [hcp] at this
    have HRd' := Lib.hid hrd'
    have HCl : Hid (cleanD d addr = if c' = 0 then barrD d' else (d', c')) := by
      show cleanD d addr = _
      unfold cleanD sureD
      rw [hcp]
    rw [hcp] at HP
    unfold agR at HP
    simp at HP
    clear hb12 hb23 hrds HPu hcp hrd' hmk hcv HSt HS2
    go_wp2_with fail
    refine HP.out.mono ?_
    rintro e w4 ⟨sa2, qa2, sc2, qc2, rfl, hM4, hb4⟩
    have HS4 := Lib.hid ((HS3.out.later hb4).put hM4)
    have hx4 := (HS3.out.later hb4).box
    clear hb4 hM4 HP HS3 x0 x1 x2 x3
    unfold agR
    have hg1 := HS4.out.box
    have hg2 := HS4.out.res
    by_cases hc0 : c' = 0
    · have hb0 : (c' != 0) = false := by simp [hc0]
      have HBr := Lib.hid (mbar_n HRd'.out.dn HS4.out.mr (by have := HRd'.out.st; omega) (by have := HRd'.out.ql; omega))
      obtain ⟨⟨d3, c3⟩, h3⟩ : ∃ cp, barrD d' = cp := ⟨_, rfl⟩
      rw [h3] at HBr
      have HCl2 : Hid (cleanD d addr = (d3, c3)) := by
        show cleanD d addr = _
        rw [HCl.out, if_pos hc0, h3]
      clear h3 HCl HRd HRd'
      unfold agR at HBr
      go_wp2_with (first | (refine wpList_store_row rfl RDT (.tmp 2) (.tmp 28) rfl w.heap.size (agR sa2 qa2 sc2 qc2 d') (by first | rfl | simp [go_sem]) (by first | rfl | simp [go_sem]) RDT _ hx4 (by kernel_rfl) rfl (by simp [agR, Value.oneCell']) ?_) | (refine wpList_load_row rfl RDT (.tmp 2) rfl w.heap.size rfl RDT (agR sa2 qa2 sc2 qc2 d') (0, 0) _ hg1 Tryd.underlying29 rfl (by kernel_rfl) ?_; unfold agR))
      refine HBr.out.mono ?_
      rintro e w5 ⟨sa3, qa3, sc3, qc3, rfl, hM5, hb5⟩
      have HS5 := Lib.hid (HS4.out.later hb5)
      have HM5 := Lib.hid hM5
      have hg5 := HS5.out.res
      clear hb5 hM5 HBr HS4 hg1 hg2 hx4
      unfold agR
      go_wp2_with (first | (refine wpList_store_row rfl RDT (.tmp 4) (.tmp 36) rfl (w.heap.size + 1) (agR sa3 qa3 sc3 qc3 d3) (by first | rfl | simp [go_sem]) (by first | rfl | simp [go_sem]) RDT _ hg5 (by kernel_rfl) rfl (by simp [agR, Value.oneCell']) ?_))
      (try simp only [Exit.inBlock, Exit.then])
      refine bodyPost_ret (results_row_tmp (p := 4) (u := 5) (ty := RDT) rfl _ _ (w.heap.size + 1) RDT (agR sa3 qa3 sc3 qc3 d3) _ (by simp [Act.put]) (blo_row HS5.out.res _) Tryd.underlying29 rfl (by kernel_rfl)) rfl ?_
      show MrO _ _ _ _ _
      rw [HCl2.out]
      exact ⟨sa3, qa3, sc3, qc3, rfl, HM5.out.row HS5.out.res, below_setRow HS5.out.below (Nat.le_succ _) _⟩
    · have hb0 : (c' != 0) = true := by simp [hc0]
      go_wp2_with (first | (refine wpList_store_row rfl RDT (.tmp 2) (.tmp 28) rfl w.heap.size (agR sa2 qa2 sc2 qc2 d') (by first | rfl | simp [go_sem]) (by first | rfl | simp [go_sem]) RDT _ hx4 (by kernel_rfl) rfl (by simp [agR, Value.oneCell']) ?_) | (refine wpList_load_row rfl RDT (.tmp 2) rfl w.heap.size rfl RDT (agR sa2 qa2 sc2 qc2 d') (0, 0) _ hg1 Tryd.underlying29 rfl (by kernel_rfl) ?_) | (refine wpList_store_row rfl RDT (.tmp 4) (.tmp 32) rfl (w.heap.size + 1) (agR sa2 qa2 sc2 qc2 d') (by first | rfl | simp [go_sem]) (by first | rfl | simp [go_sem]) RDT _ hg2 (by kernel_rfl) rfl (by simp [agR, Value.oneCell']) ?_))
      (try simp only [Exit.inBlock, Exit.then])
      refine bodyPost_ret (results_row_tmp (p := 4) (u := 5) (ty := RDT) rfl _ _ (w.heap.size + 1) RDT (agR sa2 qa2 sc2 qc2 d') _ (by simp [Act.put]) (blo_row HS4.out.res _) Tryd.underlying29 rfl (by kernel_rfl)) rfl ?_
      show MrO _ _ _ _ _
      rw [HCl.out, if_neg hc0]
      exact HS4.out.out c'
  · rw [if_neg hc]
    have hx : addr < 0 ∨ (d.n : Int) - 2 < addr := by
      by_cases h1 : addr < 0
      · exact .inl h1
      · refine .inr ?_
        by_cases h2 : (d.n : Int) - 2 < addr
        · exact h2
        · exact absurd (by simp [hasB]; omega) hc
    have hg1 := HSt.out.box
    have hg2 := HSt.out.res
    rcases hx with hx | hx
    · go_enter Tryd.func56, Tryd.ntmps56
      go_wp2_with (first | (refine wpList_load_row rfl RDT (.tmp 2) rfl w.heap.size rfl RDT (agR sa qa sc qc d) (0, 0) _ hg1 Tryd.underlying29 rfl (by kernel_rfl) ?_) | (refine wpList_store_row rfl RDT (.tmp 4) (.tmp 18) rfl (w.heap.size + 1) (agR sa qa sc qc d) (by first | rfl | simp [go_sem]) (by first | rfl | simp [go_sem]) RDT _ hg2 (by kernel_rfl) rfl (by simp [agR, Value.oneCell']) ?_))
      (try simp only [Exit.inBlock, Exit.then])
      exact bodyPost_ret (results_row_tmp (p := 4) (u := 5) (ty := RDT) rfl _ _ (w.heap.size + 1) RDT (agR sa qa sc qc d) _ (by simp [Act.put]) (blo_row HSt.out.res _) Tryd.underlying29 rfl (by kernel_rfl)) rfl (HSt.out.out 22)
    · have n1 : ¬ addr < 0 := by omega
      go_enter Tryd.func56, Tryd.ntmps56
      go_wp2_with (first | (refine wpList_load_row rfl RDT (.tmp 2) rfl w.heap.size rfl RDT (agR sa qa sc qc d) (0, 0) _ hg1 Tryd.underlying29 rfl (by kernel_rfl) ?_) | (refine wpList_store_row rfl RDT (.tmp 4) (.tmp 18) rfl (w.heap.size + 1) (agR sa qa sc qc d) (by first | rfl | simp [go_sem]) (by first | rfl | simp [go_sem]) RDT _ hg2 (by kernel_rfl) rfl (by simp [agR, Value.oneCell']) ?_))
      (try simp only [Exit.inBlock, Exit.then])
      exact bodyPost_ret (results_row_tmp (p := 4) (u := 5) (ty := RDT) rfl _ _ (w.heap.size + 1) RDT (agR sa qa sc qc d) _ (by simp [Act.put]) (blo_row HSt.out.res _) Tryd.underlying29 rfl (by kernel_rfl)) rfl (HSt.out.out 22)
end
end Go.Proofs.YtlkgaefabahkoaaDoor
/-
  Partial segments, the document's side: Sum.
-/
namespace Go.Proofs.YtlkgaefabahkoaaDoor
open Go.RowKit

theorem strCells_strOf (l : List Nat) (h : ∀ x ∈ l, x < 256) : Lib.strCells (strOf l) = cellsB l := by
  unfold Lib.strCells cellsB
  rw [strOf_toList, List.map_map]
  refine List.map_congr_left fun x hx => ?_
  have := h x hx
  show Value.int .u8 (((UInt8.ofNat x).toNat : Nat) : Int) = .int .u8 (x : Int)
  rw [UInt8.toNat_ofNat_of_lt' (by show x < 256; exact this)]
theorem flatten_byte {ls : List (List Nat)} (h : ∀ l ∈ ls, ∀ x ∈ l, x < 256) : ∀ x ∈ ls.flatten, x < 256 := fun x hx => by
  obtain ⟨l, hl, hxl⟩ := List.mem_flatten.1 hx
  exact h l hl x hxl
theorem flatten_len : ∀ {ls : List (List Nat)} (_ : ∀ l ∈ ls, l.length ≤ 64), ls.flatten.length ≤ 64 * ls.length
  | [], _ => by simp
  | l :: r, h => by
    have h1 := h l (List.mem_cons_self ..)
    have h2 := flatten_len (ls := r) fun x hx => h x (List.mem_cons_of_mem _ hx)
    simp only [List.flatten_cons, List.length_append, List.length_cons]
    omega
def SmmR (w : World) (ls : List (List Nat)) (k m : Nat) (v : Value) (wr : World) : Prop := wr.ownsRow w.heap.size U8 1 v m (cellsB (ls.take k).flatten) ∧ Below w.heap.size w wr ∧ (ls.take k).flatten.length = m
section
variable {w : World}
set_option maxRecDepth 100000 in
set_option maxHeartbeats 4000000 in
theorem dsum_any (a : Option Addr) (n cap : Nat) (ls : List (List Nat)) (hn : n = ls.length) (hn2 : n ≤ 10000) (hR : Rds w a (cellsS (nthL ls) n)) (hby : ∀ l ∈ ls, ∀ x ∈ l, x < 256) (hl : ∀ l ∈ ls, l.length ≤ 64) :
    Calls Tryd.prog 46 #[.slice a n cap] w fun e w' => e = .returned (.int .u32 ((crc ls.flatten : Nat) : Int)) ∧ Below w.heap.size w w' := by
  obtain ⟨i0, hi0, hz0, hs0, hb0⟩ := info_parts info_u8f
  have HR := Lib.hid hR
  have HBy := Lib.hid hby
  have HL := Lib.hid hl
  have HN := Lib.hid hn
  have HI : Hid (Tryd.prog.info? U8 = some i0 ∧ i0.zero = some (.int .u8 0) ∧ i0.size = 1 ∧ i0.bytes = 1) := ⟨hi0, hz0, hs0, hb0⟩
  clear hR hby hl hn hi0 hz0 hs0 hb0
  go_enter Tryd.func46, Tryd.ntmps46
  go_wp2_with fail
  go_loopw [3, 7] (fun v t wr => ∃ k m : Nat, k ≤ n ∧ t = .int .i64 ((k : Nat) : Int) ∧ SmmR w ls k m v wr) (fun _ t _ => n - (intOf t).toNat)
  case atStart => exact ⟨0, 0, Nat.zero_le _, rfl, ⟨rfl, .inl ⟨rfl, rfl⟩⟩, Below.refl _ _, rfl⟩
  case round =>
    obtain ⟨k, m, hk, rfl, hS⟩ := hrel
    obtain ⟨va, vc, rfl, -⟩ := own_slice hS.1
    have HS := Lib.hid hS
    clear hS
    by_cases hlt : k < n
    · have hle : k < ls.length := by rw [← HN.out]; exact hlt
      obtain ⟨b, o, rfl, hc⟩ := HR.out k (.string (strOf (nthL ls k))) (by simp [cellsS, hlt])
      have c0 := cell_later HS.out.2.1 hc
      have hmem : nthL ls k ∈ ls := by
        unfold nthL
        rw [List.getD_eq_getElem?_getD, List.getElem?_eq_getElem hle]
        exact List.getElem_mem hle
      have HNx : Hid ((ls.take (k + 1)).flatten = (ls.take k).flatten ++ nthL ls k) := by
        show (ls.take (k + 1)).flatten = _
        rw [nthL_take hle]
        simp
      have HSc := Lib.hid (strCells_strOf (nthL ls k) (HBy.out _ hmem))
      have hszk := strOf_size (nthL ls k)
      have hl1 := HL.out _ hmem
      have hl2 : m ≤ 64 * k := by
        rw [← HS.out.2.2]
        have := flatten_len (ls := ls.take k) fun x hx => HL.out x (List.mem_of_mem_take hx)
        rw [List.length_take] at this
        omega
      have hb1 := HS.out.2.1.size
      have i1 : (0 : Int) ≤ (k : Int) := by omega
      have i2 : (k : Int) < (n : Int) := by omega
      have HSz := Lib.hid hszk
      have m1 : m + (strOf (nthL ls k)).size ≤ maxLen := by rw [hszk]; unfold maxLen; omega
      have m2 : m + (strOf (nthL ls k)).size ≤ 140737488355328 := by rw [hszk]; omega
      clear hc hmem hszk hl1 hl2
      go_wp2_with (at_builtin; go_loud (refine Lib.wpList_append_own_string wr rfl (.tmp 10) (.tmp 14) 49 9 rfl w.heap.size U8 i0 Tryd.underlying49 Tryd.underlying9 HI.out.1 HI.out.2.1 HI.out.2.2.1 HI.out.2.2.2 (.slice va m vc) _ _ rfl HS.out.1 (strOf (nthL ls k)) rfl m1 m2 hb1 ?_; intro v6 w6 hown hgrow _; have HS6 : Hid (SmmR w ls (k + 1) (m + (strOf (nthL ls k)).size) v6 w6) := ⟨by rw [HNx.out]; rw [HSc.out] at hown; rw [← cellsB_append]; exact hown, HS.out.2.1.grown hgrow hb1 (fun b hb => (own_lt HS.out.1 hb).1), by rw [HNx.out, List.length_append, HSz.out, HS.out.2.2]⟩; clear hown hgrow))
      go_roundw
      case rel => exact ⟨k + 1, _, by omega, by simp, HS6.out⟩
      case measure => simp [intOf]; omega
    · obtain rfl : k = n := by omega
      have htk : ls.take k = ls := List.take_of_length_le (by rw [← HN.out]; omega)
      obtain ⟨hS1, hS2, hS3⟩ := HS.out
      rw [htk] at hS1 hS3
      have HB2 := Lib.hid hS2
      have HM := Lib.hid hS3
      have hfl : ls.flatten.length ≤ 64 * k := by
        have := flatten_len HL.out
        rwa [← HN.out] at this
      have HB := Lib.hid (own_bytes8 hS1 (flatten_byte HBy.out) (by omega))
      clear hS1 hS2 hS3 hfl
      go_wp2_with fail
      refine (ref_len ls.flatten m HM.out.symm va vc wr HB.out).mono ?_
      rintro e w7 ⟨rfl, rfl⟩
      go_wp2_with fail
      exact bodyPost_ret (results_tmp rfl _ _ _) rfl ⟨rfl, HB2.out⟩
end
end Go.Proofs.YtlkgaefabahkoaaDoor
/-
  The document's Size and Blocks.
-/
namespace Go.Proofs.YtlkgaefabahkoaaDoor
open Go.RowKit

section
variable {w : World} {l : List Fi} (e c i p x : Int) (fa : Option Addr) (fn fc : Nat) (ia : Option Addr) (inn ic : Nat)
set_option maxHeartbeats 2000000 in
theorem rsize_any (hF : Fis w fa l) (hn : fn = l.length) (hs : szF l ≤ 1000000000) (hi : inn ≤ 1000000000) :
    Calls Tryd.prog 86 #[part e c i p x fa fn fc ia inn ic] w fun en w' => en = .returned (.int .i64 ((10 + inn + szF l : Nat) : Int)) ∧ Below w.heap.size w w' := by
  have HR := Lib.hid (show SzR w fa l (w.alloc (.cells #[.int .i64 e, .int .i64 c, .int .i64 i, .int .i64 p, .int .i64 x, .slice fa fn fc, .slice ia inn ic] 36)) from ⟨hF.later (sup_pc _ _), sup_pc _ _⟩)
  have HX := Lib.hid (blo_laid w 36 #[.int .i64 e, .int .i64 c, .int .i64 i, .int .i64 p, .int .i64 x, .slice fa fn fc, .slice ia inn ic])
  have hfn : fn ≤ 1000000000 := by have := len_szF l; omega
  have HN := Lib.hid hn
  have HS := Lib.hid hs
  clear hF hn hs
  go_enter Tryd.func86, Tryd.ntmps86
  go_wp2_with fail
  go_loopw [3, 4, 12] (fun m _ t wr => ∃ k : Nat, k ≤ fn ∧ t = .int .i64 k ∧ m = .int .i64 ((10 + inn + szF (l.take k) : Nat) : Int) ∧ SzR w fa l wr ∧ Blo wr w.heap.size 36 #[.int .i64 e, .int .i64 c, .int .i64 i, .int .i64 p, .int .i64 x, .slice fa fn fc, .slice ia inn ic]) (fun _ _ t _ => fn - (intOf t).toNat)
  case atStart => exact ⟨0, Nat.zero_le _, rfl, by simp [szF], HR.out, HX.out⟩
  case round =>
    clear HR HX
    obtain ⟨k, hk, rfl, rfl, hR, hX⟩ := hrel
    have HR := Lib.hid hR
    have HX := Lib.hid hX
    have c5 : wr.cell? ⟨w.heap.size, 5, none⟩ = some (.slice fa fn fc) := hX.cell 5
    clear hR hX
    by_cases hlt : k < fn
    · have hkl : k < l.length := by rw [← HN.out]; exact hlt
      obtain ⟨b, o, cc, cp, rfl, q1, q2, q3, -⟩ := HR.out.list.at hkl
      have hsn := take_snocF l fi0 k hkl
      have hle := szF_take l (k + 1)
      have HSn : Hid (szF (l.take (k + 1)) = szF (l.take k) + (4 + 2 * (l.getD k fi0).lb.length)) := by show _ = _; rw [hsn, szF_snoc]
      have hle2 := HS.out
      rw [HSn.out] at hle
      have HR1 := Lib.hid HR.out
      generalize (l.getD k fi0).lb.length = m at *
      generalize (l.getD k fi0).ino = y1 at *
      generalize (l.getD k fi0).ver = y2 at *
      obtain ⟨M, hM⟩ : ∃ M, szF (l.take k) = M := ⟨_, rfl⟩
      rw [hM] at hle HSn
      simp only [hM]
      have j1 : (k : Int) < (fn : Int) := by omega
      have j2 : M + (4 + 2 * m) ≤ 1000000000 := by omega
      clear HR hkl hsn hle hle2 hM
      go_wp2_with fail
      go_roundw
      case rel => exact ⟨k + 1, by omega, by simp, by rw [HSn.out]; congr 1; omega, HR1.out, HX.out⟩
      case measure => simp [intOf]; omega
    · have hkn : l.take k = l := by rw [List.take_of_length_le]; have := HN.out; omega
      have HB := Lib.hid HR.out.below
      simp only [hkn]
      clear HR hkn
      go_wp2
      go_ret
      exact ⟨rfl, HB.out⟩
set_option maxHeartbeats 2000000 in
theorem rblocks_any (hF : Fis w fa l) (hn : fn = l.length) (hs : szF l ≤ 1000000000) (hi : inn ≤ 1000000000) :
    Calls Tryd.prog 45 #[part e c i p x fa fn fc ia inn ic] w fun en w' => en = .returned (.int .i64 ((2 + inn + blF l : Nat) : Int)) ∧ Below w.heap.size w w' := by
  have HR := Lib.hid (show SzR w fa l (w.alloc (.cells #[.int .i64 e, .int .i64 c, .int .i64 i, .int .i64 p, .int .i64 x, .slice fa fn fc, .slice ia inn ic] 36)) from ⟨hF.later (sup_pc _ _), sup_pc _ _⟩)
  have HX := Lib.hid (blo_laid w 36 #[.int .i64 e, .int .i64 c, .int .i64 i, .int .i64 p, .int .i64 x, .slice fa fn fc, .slice ia inn ic])
  have hfn : fn ≤ 1000000000 := by have := len_szF l; omega
  have HN := Lib.hid hn
  have HS : Hid (blF l ≤ 1000000000) := by have := blF_szF l; show _ ≤ _; omega
  clear hF hn hs
  go_enter Tryd.func45, Tryd.ntmps45
  go_wp2_with fail
  go_loopw [3, 4, 12] (fun m _ t wr => ∃ k : Nat, k ≤ fn ∧ t = .int .i64 k ∧ m = .int .i64 ((2 + inn + blF (l.take k) : Nat) : Int) ∧ SzR w fa l wr ∧ Blo wr w.heap.size 36 #[.int .i64 e, .int .i64 c, .int .i64 i, .int .i64 p, .int .i64 x, .slice fa fn fc, .slice ia inn ic]) (fun _ _ t _ => fn - (intOf t).toNat)
  case atStart => exact ⟨0, Nat.zero_le _, rfl, by simp [blF], HR.out, HX.out⟩
  case round =>
    clear HR HX
    obtain ⟨k, hk, rfl, rfl, hR, hX⟩ := hrel
    have HR := Lib.hid hR
    have HX := Lib.hid hX
    have c5 : wr.cell? ⟨w.heap.size, 5, none⟩ = some (.slice fa fn fc) := hX.cell 5
    clear hR hX
    by_cases hlt : k < fn
    · have hkl : k < l.length := by rw [← HN.out]; exact hlt
      obtain ⟨b, o, cc, cp, rfl, q1, q2, q3, -⟩ := HR.out.list.at hkl
      have hsn := take_snocF l fi0 k hkl
      have hle := blF_take l (k + 1)
      have HSn : Hid (blF (l.take (k + 1)) = blF (l.take k) + (l.getD k fi0).lb.length) := by show _ = _; rw [hsn, blF_snoc]
      have hle2 := HS.out
      rw [HSn.out] at hle
      have HR1 := Lib.hid HR.out
      generalize (l.getD k fi0).lb.length = m at *
      generalize (l.getD k fi0).ino = y1 at *
      generalize (l.getD k fi0).ver = y2 at *
      obtain ⟨M, hM⟩ : ∃ M, blF (l.take k) = M := ⟨_, rfl⟩
      rw [hM] at hle HSn
      simp only [hM]
      have j1 : (k : Int) < (fn : Int) := by omega
      have j2 : M + m ≤ 1000000000 := by omega
      clear HR hkl hsn hle hle2 hM
      go_wp2_with fail
      go_roundw
      case rel => exact ⟨k + 1, by omega, by simp, by rw [HSn.out]; congr 1; omega, HR1.out, HX.out⟩
      case measure => simp [intOf]; omega
    · have hkn : l.take k = l := by rw [List.take_of_length_le]; have := HN.out; omega
      have HB := Lib.hid HR.out.below
      simp only [hkn]
      clear HR hkn
      go_wp2
      go_ret
      exact ⟨rfl, HB.out⟩
end
end Go.Proofs.YtlkgaefabahkoaaDoor
/-
  What the document's list of blocks of pointers is told in: a block's path in numbers.
-/
namespace Go.Proofs.YtlkgaefabahkoaaDoor
open Go.RowKit

def numM (f lv : Int) : Int := if lv = 0 then f else -f - (lv - 1)
def stepsM : Nat → Int → Int → Int → List (Int × Int)
  | 0, _, _, _ => []
  | k + 1, f, F, L => (numM F L, (f - F) / spanM (L - 1)) :: stepsM k f (F + (f - F) / spanM (L - 1) * spanM (L - 1)) (L - 1)
def pathM (f lv : Int) : List (Int × Int) := stepsM (rLev f - lv).toNat f (rFst f) (rLev f)
def metasM (f lv : Int) : List Int := (pathM f lv).map (·.1)
def slotsM (f lv : Int) : List Int := (pathM f lv).map (·.2)
theorem info_int : (Tryd.prog.info? 3).map (fun i => (i.zero, i.size, i.bytes)) = some (some (.int .i64 0), 1, 8) := by kernel_rfl
end Go.Proofs.YtlkgaefabahkoaaDoor
/-
  Lists of integers appended to in a region that draws its order: which operation's slot owns what.
-/
namespace Go.Proofs.YtlkgaefabahkoaaDoor
open Go.RowKit

structure RowT where
  l : List Int
  c : Nat
  o : Nat
/-- Slots whose values are told. -/
def Det (T : List (Nat × Value)) (D : Nat → Bool) (X : Nat → Value) : Prop := ∀ x ∈ T, D x.1 = true → X x.1 = x.2
theorem Det.set {T : List (Nat × Value)} {D : Nat → Bool} {X : Nat → Value} (h : Det T D X) (i : Nat) (v : Value) (hv : ∀ x ∈ T, x.1 = i → x.2 = v) : Det T (updD D i) (updV X i v) := fun x hx hd => by
  by_cases e : x.1 = i
  · rw [e, updV_at]; exact (hv x hx e).symm
  · rw [updV_ne X i v e]
    rw [updD_ne D i e] at hd
    exact h x hx hd
/-- Rows of integers of the region's own: the newest of a class (c) owns its list (l); rows of two classes lie apart. -/
structure RI (R : List (Nat × RowT)) (w : World) (t : TypeId) (D : Nat → Bool) (X : Nat → Value) (W : World) : Prop where
  b : Below w.heap.size w W
  rows : ∀ x ∈ R, D x.1 = true → (∀ y ∈ R, y.2.c = x.2.c → x.2.o < y.2.o → D y.1 = false) → W.ownsRow w.heap.size t 1 (X x.1) x.2.l.length (cellsI x.2.l)
  blk : ∀ x ∈ R, D x.1 = true → ∀ k, (X x.1).ownBlock = some k → w.heap.size ≤ k ∧ k < W.heap.size
  ap : ∀ x ∈ R, ∀ y ∈ R, x.2.c ≠ y.2.c → D x.1 = true → D y.1 = true → ∀ k, (X x.1).ownBlock = some k → (X y.1).ownBlock ≠ some k
section
variable {R : List (Nat × RowT)} {w W W' : World} {t : TypeId} {D : Nat → Bool} {X : Nat → Value}
theorem RI.start (hb : Below w.heap.size w W) : RI R w t (fun _ => false) X W := ⟨hb, fun _ _ h => (by cases h), fun _ _ h => (by cases h), fun _ _ _ _ _ h => (by cases h)⟩
theorem RI.size (h : RI R w t D X W) : w.heap.size ≤ W.heap.size := h.b.size
theorem updD_of {D : Nat → Bool} {i j : Nat} (h : updD D i j = true) : j = i ∨ (j ≠ i ∧ D j = true) := by
  by_cases e : j = i
  · exact .inl e
  · rw [updD_ne D i e] at h; exact .inr ⟨e, h⟩
theorem updD_off {D : Nat → Bool} {i j : Nat} (h : updD D i j = false) : D j = false := by
  by_cases e : j = i
  · rw [e, updD_at] at h; cases h
  · rwa [updD_ne D i e] at h
/-- An operation that is no row. -/
theorem RI.still (h : RI R w t D X W) (i : Nat) (v : Value) (hi : ∀ x ∈ R, x.1 ≠ i) (hb : Below W.heap.size W W') : RI R w t (updD D i) (updV X i v) W' := by
  have hd : ∀ x ∈ R, updD D i x.1 = true → D x.1 = true := fun x hx hh => by rwa [updD_ne D i (hi x hx)] at hh
  refine ⟨h.b.trans (hb.mono h.size), fun x hx hh hc => ?_, fun x hx hh k hk => ?_, fun x hx y hy hc h1 h2 k hk => ?_⟩
  · rw [updV_ne X i v (hi x hx)]
    exact own_later (h.rows x hx (hd x hx hh) (fun y hy e1 e2 => by have := hc y hy e1 e2; rwa [updD_ne D i (hi y hy)] at this)) hb
  · rw [updV_ne X i v (hi x hx)] at hk
    have := h.blk x hx (hd x hx hh) k hk
    have := hb.size
    omega
  · rw [updV_ne X i v (hi x hx)] at hk
    rw [updV_ne X i v (hi y hy)]
    exact h.ap x hx y hy hc (hd x hx h1) (hd y hy h2) k hk
/-- The keys tell the rows. -/
def keysB (R : List (Nat × RowT)) : Prop := ∀ x ∈ R, ∀ y ∈ R, x.1 = y.1 → x = y
/-- A new block. -/
theorem RI.fresh (h : RI R w t D X W) (hk : keysB R) (i : Nat) (v : Value) (z : RowT) (hz : (i, z) ∈ R) (hb : Below W.heap.size W W') (hv : v.ownBlock = some W.heap.size) (hlt : W.heap.size < W'.heap.size)
    (ho : W'.ownsRow w.heap.size t 1 v z.l.length (cellsI z.l)) : RI R w t (updD D i) (updV X i v) W' := by
  refine ⟨h.b.trans (hb.mono h.size), fun x hx hh hc => ?_, fun x hx hh k hkk => ?_, fun x hx y hy hc h1 h2 k hkk => ?_⟩
  · by_cases e : x.1 = i
    · have : x = (i, z) := hk x hx _ hz e
      subst this
      rw [updV_at]; exact ho
    · rw [updV_ne X i v e]
      rw [updD_ne D i e] at hh
      exact own_later (h.rows x hx hh (fun y hy e1 e2 => updD_off (hc y hy e1 e2))) hb
  · by_cases e : x.1 = i
    · rw [e, updV_at, hv] at hkk
      cases hkk
      exact ⟨h.size, hlt⟩
    · rw [updV_ne X i v e] at hkk
      rw [updD_ne D i e] at hh
      have := h.blk x hx hh k hkk
      have := hb.size
      omega
  · by_cases e : x.1 = i
    · have hxe : x = (i, z) := hk x hx _ hz e
      have hye : y.1 ≠ i := fun e2 => by
        have : y = (i, z) := hk y hy _ hz e2
        rw [hxe, this] at hc; exact hc rfl
      rw [e, updV_at, hv] at hkk
      cases hkk
      rw [updV_ne X i v hye]
      rw [updD_ne D i hye] at h2
      intro e3
      have := (h.blk y hy h2 _ e3).2
      omega
    · rw [updV_ne X i v e] at hkk
      rw [updD_ne D i e] at h1
      by_cases e2 : y.1 = i
      · rw [e2, updV_at, hv]
        intro e3
        cases e3
        have := (h.blk x hx h1 _ hkk).2
        omega
      · rw [updV_ne X i v e2]
        rw [updD_ne D i e2] at h2
        exact h.ap x hx y hy hc h1 h2 k hkk
/-- An append to the newest row of a class. -/
theorem RI.append (h : RI R w t D X W) (hk : keysB R) (i p : Nat) (v : Value) (z y0 : RowT) (hz : (i, z) ∈ R) (hp : (p, y0) ∈ R) (hcl : z.c = y0.c) (hpd : D p = true) (hlast : ∀ y ∈ R, y.2.c = z.c → y.1 ≠ i → y.2.o < z.o ∨ D y.1 = false)
    (hg : W.grownBy W' (X p).ownBlock) (hv : v.ownBlock = (X p).ownBlock ∨ v.ownBlock = some W.heap.size)
    (ho : W'.ownsRow w.heap.size t 1 v z.l.length (cellsI z.l)) : RI R w t (updD D i) (updV X i v) W' := by
  have hpb := h.blk _ hp hpd
  have hb' : Below w.heap.size w W' := h.b.grown hg h.b.size (fun k hkk => (hpb k hkk).1)
  have apr : ∀ x ∈ R, x.2.c ≠ z.c → D x.1 = true → (X x.1).ownBlock = none ∨ (X x.1).ownBlock ≠ (X p).ownBlock := fun x hx hc hd => by
    cases e : (X x.1).ownBlock with
    | none => exact .inl rfl
    | some k => exact .inr fun e2 => h.ap x hx (p, y0) hp (by rw [← hcl]; exact hc) hd hpd k e e2.symm
  refine ⟨hb', fun x hx hh hc => ?_, fun x hx hh k hkk => ?_, fun x hx y hy hc h1 h2 k hkk => ?_⟩
  · by_cases e : x.1 = i
    · have : x = (i, z) := hk x hx _ hz e
      subst this
      rw [updV_at]; exact ho
    · rw [updD_ne D i e] at hh
      by_cases hcc : x.2.c = z.c
      · rcases hlast x hx hcc e with h3 | h3
        · have := hc (i, z) hz hcc.symm h3
          rw [updD_at] at this; cases this
        · rw [h3] at hh; cases hh
      · rw [updV_ne X i v e]
        exact (h.rows x hx hh (fun y hy e1 e2 => updD_off (hc y hy e1 e2))).kept hg (apr x hx hcc hh)
  · by_cases e : x.1 = i
    · rw [e, updV_at] at hkk
      exact ho.lt k hkk
    · rw [updV_ne X i v e] at hkk
      rw [updD_ne D i e] at hh
      have := h.blk x hx hh k hkk
      have := hg.size
      omega
  · by_cases e : x.1 = i
    · have hxe : x = (i, z) := hk x hx _ hz e
      have hye : y.1 ≠ i := fun e2 => by
        have : y = (i, z) := hk y hy _ hz e2
        rw [hxe, this] at hc; exact hc rfl
      have hyc : y.2.c ≠ z.c := fun e2 => hc (by rw [hxe, e2])
      rw [e, updV_at] at hkk
      rw [updV_ne X i v hye]
      rw [updD_ne D i hye] at h2
      intro e3
      rcases hv with hv | hv
      · rw [hv] at hkk
        rcases apr y hy hyc h2 with h4 | h4
        · rw [h4] at e3; cases e3
        · exact h4 (e3.trans hkk.symm)
      · rw [hv] at hkk
        cases hkk
        have := (h.blk y hy h2 _ e3).2
        omega
    · rw [updV_ne X i v e] at hkk
      rw [updD_ne D i e] at h1
      by_cases e2 : y.1 = i
      · have hye : y = (i, z) := hk y hy _ hz e2
        have hxc : x.2.c ≠ z.c := fun e3 => hc (by rw [hye, e3])
        rw [e2, updV_at]
        intro e3
        rcases hv with hv | hv
        · rw [hv] at e3
          rcases apr x hx hxc h1 with h4 | h4
          · rw [h4] at hkk; cases hkk
          · exact h4 (hkk.trans e3.symm)
        · rw [hv] at e3
          cases e3
          have := (h.blk x hx h1 _ hkk).2
          omega
      · rw [updV_ne X i v e2]
        rw [updD_ne D i e2] at h2
        exact h.ap x hx y hy hc h1 h2 k hkk
end
/-! Slots made of others -/
structure UseT where
  i : Nat
  u : (Nat → Value) → Value
  deps : List Nat
def Uses (U : List UseT) (D : Nat → Bool) (X : Nat → Value) : Prop := ∀ x ∈ U, D x.i = true → X x.i = x.u X ∧ ∀ j ∈ x.deps, D j = true
def usesB (U : List UseT) : Prop := ∀ x ∈ U, ∀ X Y : Nat → Value, (∀ j ∈ x.deps, X j = Y j) → x.u X = x.u Y
theorem updD_up {D : Nat → Bool} {i j : Nat} (h : D j = true) : updD D i j = true := by
  by_cases e : j = i
  · rw [e, updD_at]
  · rw [updD_ne D i e]; exact h
theorem Uses.set {U : List UseT} {D : Nat → Bool} {X : Nat → Value} (h : Uses U D X) (hU : usesB U) (i : Nat) (v : Value) (hD : D i = false) (hv : ∀ x ∈ U, x.i = i → v = x.u X ∧ ∀ j ∈ x.deps, D j = true) : Uses U (updD D i) (updV X i v) := fun x hx hd => by
  have key : (∀ j ∈ x.deps, D j = true) → x.u (updV X i v) = x.u X := fun hj => hU x hx _ _ (fun j hjj => updV_ne X i v (fun e => by rw [← e, hj j hjj] at hD; cases hD))
  rcases updD_of hd with e | ⟨e0, e⟩
  · obtain ⟨h1, h2⟩ := hv x hx e
    rw [key h2, e, updV_at]
    exact ⟨h1, fun j hj => updD_up (h2 j hj)⟩
  · obtain ⟨h1, h2⟩ := h x hx e
    rw [key h2, updV_ne X i v e0]
    exact ⟨h1, fun j hj => updD_up (h2 j hj)⟩
/-- What holds between a region's operations: rows (R), told slots (T), slots made of others (U), what comes ahead of what (C). -/
structure BG (R : List (Nat × RowT)) (T : List (Nat × Value)) (U : List UseT) (C : List (Nat × Nat)) (w : World) (t : TypeId) (D : Nat → Bool) (X : Nat → Value) (W : World) : Prop where
  ri : RI R w t D X W
  dt : Det T D X
  us : Uses U D X
  cl : ∀ x ∈ C, D x.1 = true → D x.2 = true
section
variable {R : List (Nat × RowT)} {T : List (Nat × Value)} {U : List UseT} {C : List (Nat × Nat)} {w W W' : World} {t : TypeId} {D : Nat → Bool} {X : Nat → Value}
theorem BG.start : BG R T U C w t (fun _ => false) X w.drew :=
  ⟨RI.start (Below.refl _ _).drew, fun _ _ h => (by cases h), fun _ _ h => (by cases h), fun _ _ h => (by cases h)⟩
theorem BG.set (h : BG R T U C w t D X W) (hU : usesB U) (i : Nat) (v : Value) (hD : D i = false) (hr : RI R w t (updD D i) (updV X i v) W') (hv : ∀ x ∈ T, x.1 = i → x.2 = v) (hu : ∀ x ∈ U, x.i = i → v = x.u X ∧ ∀ j ∈ x.deps, D j = true) (hc : ∀ x ∈ C, x.1 = i → D x.2 = true) :
    BG R T U C w t (updD D i) (updV X i v) W' := by
  refine ⟨hr, h.dt.set i v hv, h.us.set hU i v hD hu, fun x hx hd => ?_⟩
  rcases updD_of hd with e | ⟨_, e⟩
  · exact updD_up (hc x hx e)
  · exact updD_up (h.cl x hx e)
theorem BG.tell (h : BG R T U C w t D X W) (hU : usesB U) (i : Nat) (v : Value) (hD : D i = false) (hR : ∀ x ∈ R, x.1 ≠ i) (hv : ∀ x ∈ T, x.1 = i → x.2 = v) (hu : ∀ x ∈ U, x.i = i → v = x.u X ∧ ∀ j ∈ x.deps, D j = true) (hc : ∀ x ∈ C, x.1 ≠ i) : BG R T U C w t (updD D i) (updV X i v) W :=
  h.set hU i v hD (h.ri.still i v hR (Below.refl _ _)) hv hu (fun x hx e => absurd e (hc x hx))
end
/-! Steps -/
section
variable {P : Program} {ops : Array Oper} {Q : Exit → Act → World → Prop}
theorem step_of_run {o : Oper} {a : Act} {w w' : World} {K : Act → World → Prop} {E : Prop} {v : Value} (hg : o.guard = none) (hr : (execOp a.eval o).run P w = .ok (.value v) w') (hk : K (a.put o.dst v) w') :
    if Region.wanted o (yielded ops a.tmps) = true then Oper.wp P o a w K Q else E := by
  rw [if_pos (by simp [Region.wanted, hg])]
  unfold Oper.wp
  rw [hr]
  exact hk
/-- 'append(own, more...)' at integers. -/
theorem step_append_ints {o : Oper} {a : Act} {w : World} {K : Act → World → Prop} {E : Prop} (hg : o.guard = none) (s x : Operand) (t : TypeId) (ho : o.op = .call { callee := .builtin .append, args := #[s, x], argTypes := #[t, t] })
    (base : Nat) (e : TypeId) (ht : P.underlying t = some (.slice e)) (hi : (P.info? e).map (fun i => (i.zero, i.size, i.bytes)) = some (some (.int .i64 0), 1, 8))
    (v : Value) (xs : List Int) (hs : a.eval s = v) (hown : w.ownsRow base e 1 v xs.length (cellsI xs)) (ao : Option Addr) (m c : Nat) (ys : List Int) (hm : m = ys.length) (hx : a.eval x = .slice ao m c) (hy : Ints w ao ys) (hnone : ao = none → m = 0 ∧ c = 0)
    (hroom : xs.length + m < 1000000) (hbase : base ≤ w.heap.size)
    (hk : ∀ v' w', w'.ownsRow base e 1 v' (xs ++ ys).length (cellsI (xs ++ ys)) → w.grownBy w' v.ownBlock → (v'.ownBlock = v.ownBlock ∨ v'.ownBlock = some w.heap.size) → K (a.put o.dst v') w') :
    if Region.wanted o (yielded ops a.tmps) = true then Oper.wp P o a w K Q else E := by
  subst hm
  obtain ⟨i, hi0, hz, hs1, hb1⟩ := info_parts hi
  rw [if_pos (by simp [Region.wanted, hg])]
  unfold Oper.wp
  cases ao with
  | none =>
    obtain ⟨h0, rfl⟩ := hnone rfl
    have hys : ys = [] := List.eq_nil_of_length_eq_zero h0
    subst hys
    have hrun := run_append_owned_none (P := P) (w := w) base t o.type e i 1 ht hi0 v xs.length (cellsI xs) hown
    rw [List.length_nil] at hx
    simp [execOp, ho, resolve, invoke, builtin, hs, hx, hrun, Result.andThen]
    exact hk v w (by simpa using hown) ⟨rfl, rfl, rfl, Nat.le_refl _, fun _ _ _ => rfl⟩ (.inl rfl)
  | some ad =>
    have hcell : ∀ j u, (cellsI ys)[j]? = some u → w.cell? (ad.add j) = some u := fun j u hj => by
      have hjl : j < ys.length := by
        have := (List.getElem?_eq_some_iff.1 hj).1
        rwa [cellsI_length] at this
      obtain ⟨b, o, ha, hc⟩ := hy (fun e => by rw [e] at hjl; cases hjl)
      cases ha
      rw [cellsI_get ys j hjl] at hj
      cases hj
      rw [Addr.add_lit]
      exact hc j hjl
    obtain ⟨v', w', hrun, h1, h2, _, h4⟩ := run_append_own_at (P := P) w base t o.type e i (.int .i64 0) 1 8 ht hi0 hz hs1 hb1 rfl (by decide) v xs.length (cellsI xs) hown ad ys.length c (cellsI ys) (by rw [cellsI_length]; omega) hcell
      (fun u hu => by unfold cellsI at hu; obtain ⟨q, _, rfl⟩ := List.mem_map.1 hu; rfl) (by unfold maxLen; omega) (by omega) hbase
    simp [execOp, ho, resolve, invoke, builtin, hs, hx, hrun, Result.andThen]
    exact hk v' w' (by rw [List.length_append, ← cellsI_append]; exact h1) h2 h4
/-! The same, behind a guard that holds -/
theorem step_of_runW {o : Oper} {a : Act} {w w' : World} {K : Act → World → Prop} {E : Prop} {v : Value} (hw : Region.wanted o (yielded ops a.tmps) = true) (hr : (execOp a.eval o).run P w = .ok (.value v) w') (hk : K (a.put o.dst v) w') :
    if Region.wanted o (yielded ops a.tmps) = true then Oper.wp P o a w K Q else E := by
  rw [if_pos hw]
  unfold Oper.wp
  rw [hr]
  exact hk
/-- A call of a Go function. -/
theorem step_of_enter {o : Oper} {a : Act} {w : World} {K : Act → World → Prop} {E : Prop} {v : Value} {f : FuncId} {args : Array Value} (hw : Region.wanted o (yielded ops a.tmps) = true) (hr : (execOp a.eval o).run P w = .ok (.enter f args) w)
    (hc : Calls P f args w fun e w' => e = .returned v ∧ Below w.heap.size w w') (hk : ∀ w', Below w.heap.size w w' → K (a.put o.dst v) w') :
    if Region.wanted o (yielded ops a.tmps) = true then Oper.wp P o a w K Q else E := by
  rw [if_pos hw]
  unfold Oper.wp
  rw [hr]
  exact hc.mono fun e w' ⟨he, hb⟩ => by
    subst he
    exact hk w' hb
theorem run_append_none_any {w : World} (base : Nat) (t ty e : TypeId) (i : TypeInfo) (size c : Nat) (ht : P.underlying t = some (.slice e)) (hi : P.info? e = some i) (v : Value) (n : Nat) (xs : List Value) (hown : w.ownsRow base e size v n xs) :
    (Builtin.append_ #[t, t] ty #[v, .slice none 0 c]).run P w = .ok v w := by
  rcases hown.2 with ⟨rfl, rfl⟩ | ⟨g, cap, cur, rfl, _, _, hnc, _⟩
  · simp [Builtin.append_, run_underlying ht, sizeOf, typeInfo, hi, Builtin.lenOf, Builtin.firstCells]
  · simp [Builtin.append_, run_underlying ht, sizeOf, typeInfo, hi, Builtin.lenOf, Builtin.firstCells, hnc, storeCells]
theorem step_append_intsW {o : Oper} {a : Act} {w : World} {K : Act → World → Prop} {E : Prop} (hw : Region.wanted o (yielded ops a.tmps) = true) (s x : Operand) (t : TypeId) (ho : o.op = .call { callee := .builtin .append, args := #[s, x], argTypes := #[t, t] })
    (base : Nat) (e : TypeId) (ht : P.underlying t = some (.slice e)) (hi : (P.info? e).map (fun i => (i.zero, i.size, i.bytes)) = some (some (.int .i64 0), 1, 8))
    (v : Value) (xs : List Int) (hs : a.eval s = v) (hown : w.ownsRow base e 1 v xs.length (cellsI xs)) (ao : Option Addr) (m c : Nat) (ys : List Int) (hm : m = ys.length) (hx : a.eval x = .slice ao m c) (hy : Ints w ao ys)
    (hroom : xs.length + m < 1000000) (hbase : base ≤ w.heap.size)
    (hk : ∀ v' w', w'.ownsRow base e 1 v' (xs ++ ys).length (cellsI (xs ++ ys)) → w.grownBy w' v.ownBlock → (v'.ownBlock = v.ownBlock ∨ v'.ownBlock = some w.heap.size) → K (a.put o.dst v') w') :
    if Region.wanted o (yielded ops a.tmps) = true then Oper.wp P o a w K Q else E := by
  subst hm
  obtain ⟨i, hi0, hz, hs1, hb1⟩ := info_parts hi
  rw [if_pos hw]
  unfold Oper.wp
  cases ao with
  | none =>
    have hys : ys = [] := by
      cases ys with
      | nil => rfl
      | cons y r => obtain ⟨b, o, h, _⟩ := hy (by simp); cases h
    subst hys
    have hrun := run_append_none_any (P := P) (w := w) base t o.type e i 1 c ht hi0 v xs.length (cellsI xs) hown
    rw [List.length_nil] at hx
    simp [execOp, ho, resolve, invoke, builtin, hs, hx, hrun, Result.andThen]
    exact hk v w (by simpa using hown) ⟨rfl, rfl, rfl, Nat.le_refl _, fun _ _ _ => rfl⟩ (.inl rfl)
  | some ad =>
    have hcell : ∀ j u, (cellsI ys)[j]? = some u → w.cell? (ad.add j) = some u := fun j u hj => by
      have hjl : j < ys.length := by
        have := (List.getElem?_eq_some_iff.1 hj).1
        rwa [cellsI_length] at this
      obtain ⟨b, o, ha, hc⟩ := hy (fun e => by rw [e] at hjl; cases hjl)
      cases ha
      rw [cellsI_get ys j hjl] at hj
      cases hj
      rw [Addr.add_lit]
      exact hc j hjl
    obtain ⟨v', w', hrun, h1, h2, _, h4⟩ := run_append_own_at (P := P) w base t o.type e i (.int .i64 0) 1 8 ht hi0 hz hs1 hb1 rfl (by decide) v xs.length (cellsI xs) hown ad ys.length c (cellsI ys) (by rw [cellsI_length]; omega) hcell
      (fun u hu => by unfold cellsI at hu; obtain ⟨q, _, rfl⟩ := List.mem_map.1 hu; rfl) (by unfold maxLen; omega) (by omega) hbase
    simp [execOp, ho, resolve, invoke, builtin, hs, hx, hrun, Result.andThen]
    exact hk v' w' (by rw [List.length_append, ← cellsI_append]; exact h1) h2 h4
end
end Go.Proofs.YtlkgaefabahkoaaDoor
/-
  The document's list of blocks of pointers: in numbers, in memory.
-/
namespace Go.Proofs.YtlkgaefabahkoaaDoor
open Go.RowKit

structure Mt where
  n : Int
  lv : Int
  f : Int
  r : Int
  ms : List Int
  ss : List Int
deriving DecidableEq
def widM : Nat → Int
  | 0 => 1
  | 1 => 16
  | 2 => 256
  | _ => 4096
def belM : Nat → Int → Int → List Int → List Int → List Mt
  | 0, _, _, _, _ => []
  | lv + 1, f, r, ms, ss => if 600 ≤ f then [] else ⟨-f - (lv : Int), (lv : Int) + 1, f, r, ms, ss⟩ :: (List.range 16).flatMap fun (i : Nat) => belM lv (f + (i : Int) * widM lv) r (ms ++ [-f - (lv : Int)]) (ss ++ [(i : Int)])
/-- The list with so many of its children. -/
def belK (lv : Nat) (f r : Int) (ms ss : List Int) (k : Nat) : List Mt :=
  ⟨-f - (lv : Int), (lv : Int) + 1, f, r, ms, ss⟩ :: (List.range k).flatMap fun (i : Nat) => belM lv (f + (i : Int) * widM lv) r (ms ++ [-f - (lv : Int)]) (ss ++ [(i : Int)])
theorem belK_succ (lv : Nat) (f r : Int) (ms ss : List Int) (k : Nat) : belK lv f r ms ss (k + 1) = belK lv f r ms ss k ++ belM lv (f + (k : Int) * widM lv) r (ms ++ [-f - (lv : Int)]) (ss ++ [(k : Int)]) := by
  simp [belK, List.range_succ]
theorem belM_all (lv : Nat) (f r : Int) (ms ss : List Int) (h : f < 600) : belM (lv + 1) f r ms ss = belK lv f r ms ss 16 := by
  rw [belM, if_neg (by omega), belK]
theorem belM_no (lv : Nat) (f r : Int) (ms ss : List Int) (h : 600 ≤ f) : belM lv f r ms ss = [] := by
  cases lv with
  | zero => rfl
  | succ lv => rw [belM, if_pos h]
def capM : Nat → Nat
  | 0 => 0
  | lv + 1 => 1 + 16 * capM lv
theorem belK_len (lv : Nat) (f r : Int) (ms ss : List Int) (C : Nat) (hC : ∀ f r ms ss, (belM lv f r ms ss).length ≤ C) : ∀ k, (belK lv f r ms ss k).length ≤ 1 + k * C
  | 0 => by simp [belK]
  | k + 1 => by
    rw [belK_succ, List.length_append, Nat.add_mul]
    have := belK_len lv f r ms ss C hC k
    have := hC (f + (k : Int) * widM lv) r (ms ++ [-f - (lv : Int)]) (ss ++ [(k : Int)])
    omega
theorem belM_len : ∀ (lv : Nat) (f r : Int) (ms ss : List Int), (belM lv f r ms ss).length ≤ capM lv
  | 0, _, _, _, _ => Nat.zero_le _
  | lv + 1, f, r, ms, ss => by
    by_cases h : f < 600
    · rw [belM_all lv f r ms ss h]
      exact belK_len lv f r ms ss (capM lv) (fun f r ms ss => belM_len lv f r ms ss) 16
    · rw [belM_no _ f r ms ss (by omega)]; exact Nat.zero_le _
theorem widM_bd (lv : Nat) (h : lv < 3) : 1 ≤ widM lv ∧ widM lv ≤ 256 := by
  match lv, h with
  | 0, _ => decide
  | 1, _ => decide
  | 2, _ => decide
theorem capM_bd (lv : Nat) (h : lv < 3) : capM lv ≤ 17 := by
  match lv, h with
  | 0, _ => decide
  | 1, _ => decide
  | 2, _ => decide
abbrev MET := 154
abbrev PTH := 152
abbrev INT := 3
/-- A list of integers in a block of its own. -/
def IntB (W : World) (a : Option Addr) (l : List Int) : Prop := l ≠ [] → ∃ g cs, a = some ⟨g, 0, none⟩ ∧ Blo W g INT cs ∧ ∀ i, i < l.length → cs[i]? = some (.int .i64 (l.getD i 0))
theorem IntB.ints {W : World} {a : Option Addr} {l : List Int} (h : IntB W a l) : Ints W a l := fun hl => by
  obtain ⟨g, cs, ha, hb, hc⟩ := h hl
  exact ⟨g, 0, ha, fun i hi => by rw [Nat.zero_add, hb.cell]; exact hc i hi⟩
theorem IntB.later {W W' : World} {a : Option Addr} {l : List Int} (h : IntB W a l) (hb : Below W.heap.size W W') : IntB W' a l := fun hl => by
  obtain ⟨g, cs, ha, hbl, hc⟩ := h hl
  exact ⟨g, cs, ha, hbl.later hb, hc⟩
theorem IntB.grown {W W' : World} {a : Option Addr} {l : List Int} {base n : Nat} {e : TypeId} {size : Nat} {v : Value} {xs : List Value} (h : IntB W a l) (hg : W.grownBy W' v.ownBlock) (ho : W.ownsRow base e size v n xs) (hne : e ≠ INT) : IntB W' a l := fun hl => by
  obtain ⟨g, cs, ha, hbl, hc⟩ := h hl
  exact ⟨g, cs, ha, hbl.grown hg (hbl.row_apart ho hne), hc⟩
theorem IntB.own {W : World} {base n cap : Nat} {a : Option Addr} {l : List Int} (h : W.ownsRow base INT 1 (.slice a n cap) n (cellsI l)) : IntB W a l := fun hl => by
  have hlen : n = l.length := by have := h.1; rw [cellsI_length, Nat.mul_one] at this; exact this.symm
  rcases id h.2 with ⟨h1, h0⟩ | ⟨g, c, cur, h1, _, h3, _⟩
  · exact absurd (List.eq_nil_of_length_eq_zero (by omega)) hl
  · cases h1
    have hB : Blo W g INT cur := h3
    exact ⟨g, cur, rfl, hB, fun i hi => by rw [← hB.cell, h.cellAt i (by omega), cellsI_get l i hi]⟩
/-- An entry in memory. -/
def mtC (W : World) (m : Mt) (c : List Value) : Prop :=
  ∃ am cm as_ cs_, c = [.int .i64 m.n, .int .i64 m.lv, .int .i64 m.f, .int .i64 m.r, .slice am m.ms.length cm, .slice as_ m.ss.length cs_] ∧ IntB W am m.ms ∧ IntB W as_ m.ss ∧ (am = none → m.ms.length = 0 ∧ cm = 0) ∧ (as_ = none → m.ss.length = 0 ∧ cs_ = 0)
def MtsC (W : World) : List Mt → List Value → Prop
  | [], cs => cs = []
  | m :: l, cs => ∃ c r, cs = c ++ r ∧ mtC W m c ∧ MtsC W l r
theorem MtsC.append {W : World} : ∀ {l l' : List Mt} {cs cs' : List Value}, MtsC W l cs → MtsC W l' cs' → MtsC W (l ++ l') (cs ++ cs')
  | [], l', cs, cs', h, h' => by
    have h : cs = [] := h
    subst h; exact h'
  | m :: l, l', cs, cs', h, h' => by
    obtain ⟨c, r, rfl, hc, hr⟩ := h
    exact ⟨c, r ++ cs', by rw [List.append_assoc], hc, hr.append h'⟩
theorem mtC.imp {W W' : World} {m : Mt} {c : List Value} (h : mtC W m c) (hi : ∀ a l, IntB W a l → IntB W' a l) : mtC W' m c := by
  obtain ⟨am, cm, as_, cs_, e, h1, h2, h3, h4⟩ := h
  exact ⟨am, cm, as_, cs_, e, hi _ _ h1, hi _ _ h2, h3, h4⟩
theorem MtsC.imp {W W' : World} (hi : ∀ a l, IntB W a l → IntB W' a l) : ∀ {l : List Mt} {cs : List Value}, MtsC W l cs → MtsC W' l cs
  | [], _, h => h
  | m :: l, _, h => by
    obtain ⟨c, r, e, hc, hr⟩ := h
    exact ⟨c, r, e, hc.imp hi, hr.imp hi⟩
theorem MtsC.later {W W' : World} {l : List Mt} {cs : List Value} (h : MtsC W l cs) (hb : Below W.heap.size W W') : MtsC W' l cs := h.imp fun _ _ hh => hh.later hb
theorem MtsC.len {W : World} : ∀ {l : List Mt} {cs : List Value}, MtsC W l cs → cs.length = l.length * 6
  | [], cs, h => by
    have h : cs = [] := h
    subst h; rfl
  | m :: l, _, h => by
    obtain ⟨c, r, rfl, hc, hr⟩ := h
    obtain ⟨am, cm, as_, cs_, rfl, _⟩ := hc
    have := hr.len
    simp [this]; omega
theorem MtsC.one {W : World} : ∀ {l : List Mt} {cs : List Value}, MtsC W l cs → ∀ u ∈ cs, u.oneCell' = true
  | [], cs, h, u, hu => by
    have h : cs = [] := h
    subst h; cases hu
  | m :: l, _, h, u, hu => by
    obtain ⟨c, r, rfl, hc, hr⟩ := h
    obtain ⟨am, cm, as_, cs_, rfl, _⟩ := hc
    rcases List.mem_append.1 hu with hu | hu
    · simp at hu
      rcases hu with rfl | rfl | rfl | rfl | rfl | rfl <;> rfl
    · exact hr.one u hu
/-- What below answers. -/
def BelO (w : World) (l : List Mt) (e : Ending) (w' : World) : Prop :=
  ∃ v cs, e = .returned v ∧ w'.ownsRow w.heap.size MET 6 v l.length cs ∧ MtsC w' l cs ∧ Below w.heap.size w w'
/-- Its contract at a level. -/
def BelC (lv : Nat) : Prop := ∀ (f r : Int) (ms ss : List Int) (am as_ : Option Addr) (nm ns cm cs_ : Nat) (w : World), nm = ms.length → ns = ss.length → nm + lv < 100 → ns + lv < 100 → 0 ≤ f → f ≤ 100000 → IntB w am ms → IntB w as_ ss →
  (am = none → nm = 0 ∧ cm = 0) → (as_ = none → ns = 0 ∧ cs_ = 0) → Calls Tryd.prog 102 #[.int .i64 (lv : Int), .int .i64 f, .agg #[.int .i64 r, .slice am nm cm, .slice as_ ns cs_]] w (BelO w (belM lv f r ms ss))
theorem info_met : ∃ z, (Tryd.prog.info? MET).map (fun i => (i.zero, i.size, i.bytes)) = some (some z, 6, 80) ∧ z.cells.size = 6 := by
  refine ⟨.agg #[.int .i64 0, .int .i64 0, .int .i64 0, .int .i64 0, .slice none 0 0, .slice none 0 0], by kernel_rfl, rfl⟩
end Go.Proofs.YtlkgaefabahkoaaDoor
