/-
  The document's disk: Barrier.
-/
import Derived.Test.YtlkgaefabahkoaaDoorPk08
namespace Go.Proofs.YtlkgaefabahkoaaDoor
open Go.RowKit

set_option maxRecDepth 100000 in
set_option maxHeartbeats 2000000 in
theorem rbar_dead (sa qa : Option Addr) (n sc m qc : Nat) (st lf st2 lf2 : Int) (w : World)
    (hstep : ∀ W, Calls Tryd.prog 90 #[.agg #[.slice sa n sc, .slice qa m qc, .int .i64 st, .int .i64 lf]] W fun e w' => e = .returned (.tuple #[.agg #[.slice sa n sc, .slice qa m qc, .int .i64 st2, .int .i64 lf2], .bool false]) ∧ Below W.heap.size W w') :
    Calls Tryd.prog 58 #[.agg #[.slice sa n sc, .slice qa m qc, .int .i64 st, .int .i64 lf]] w fun e w' => e = .returned (.tuple #[.agg #[.slice sa n sc, .slice qa m qc, .int .i64 st2, .int .i64 lf2], .int .i64 102]) ∧ Below w.heap.size w w' := by
  have HS := Lib.hid hstep
  have hb2 := dr_two w (.cells #[.slice sa n sc, .slice qa m qc, .int .i64 st, .int .i64 lf] RDT) (.cells #[.slice none 0 0, .slice none 0 0, .int .i64 0, .int .i64 0] RDT)
  have HB2 := Lib.hid hb2
  have HX := Lib.hid ((blo_laid w RDT #[.slice sa n sc, .slice qa m qc, .int .i64 st, .int .i64 lf]).alloc (.cells #[.slice none 0 0, .slice none 0 0, .int .i64 0, .int .i64 0] RDT))
  have HZ : Hid (Blo ((w.alloc (.cells #[.slice sa n sc, .slice qa m qc, .int .i64 st, .int .i64 lf] RDT)).alloc (.cells #[.slice none 0 0, .slice none 0 0, .int .i64 0, .int .i64 0] RDT)) (w.heap.size + 1) RDT #[.slice none 0 0, .slice none 0 0, .int .i64 0, .int .i64 0]) := by
    have h := blo_laid (w.alloc (.cells #[.slice sa n sc, .slice qa m qc, .int .i64 st, .int .i64 lf] RDT)) RDT #[.slice none 0 0, .slice none 0 0, .int .i64 0, .int .i64 0]
    rw [show (w.alloc (.cells #[.slice sa n sc, .slice qa m qc, .int .i64 st, .int .i64 lf] RDT)).heap.size = w.heap.size + 1 by simp] at h
    exact h
  clear hstep hb2
  go_enter Tryd.func58, Tryd.ntmps58
  go_wp2_with fail
  refine (HS.out _).mono ?_
  rintro e w1 ⟨rfl, hb1⟩
  have HB3 := Lib.hid (HB2.out.trans (hb1.mono HB2.out.size))
  have HY := Lib.hid (HX.out.later hb1)
  have x0 := HY.out.cell 0
  have x1 := HY.out.cell 1
  have x2 := HY.out.cell 2
  have x3 := HY.out.cell 3
  have f0 := HY.out.frozen 0
  have f1 := HY.out.frozen 1
  have f2 := HY.out.frozen 2
  have f3 := HY.out.frozen 3
  have HW := Lib.hid (HZ.out.later hb1)
  have z0 := HW.out.cell 0
  have z1 := HW.out.cell 1
  have z2 := HW.out.cell 2
  have z3 := HW.out.cell 3
  have e0 := HW.out.frozen 0
  have e1 := HW.out.frozen 1
  have e2 := HW.out.frozen 2
  have e3 := HW.out.frozen 3
  simp at x0 x1 x2 x3 z0 z1 z2 z3
  clear hb1 HX HZ HS HB2 HY HW
  go_wp2
  refine bodyPost_ret (v := .tuple #[.agg #[.slice sa n sc, .slice qa m qc, .int .i64 st2, .int .i64 lf2], .int .i64 102]) ?_ rfl ⟨rfl, dr_four _ _ _ _ _ _ _ (dr_four _ _ _ _ _ _ _ HB3.out (Nat.le_refl _)) (Nat.le_succ _)⟩
  simp [results, Tryd.results58, go_sem, x0, x1, x2, x3, z0, z1, z2, z3]
def RbR (w : World) (g n : Nat) (S : Nat → List Nat) (Q : List (Nat × List Nat)) (bx : Array Value) (t : Value) (wr : World) : Prop :=
  ∃ k : Nat, k ≤ Q.length ∧ t = .int .i64 k ∧ Tx wr g n (flushQ S (Q.take k)) ∧ Blo wr w.heap.size RDT bx ∧ Blo wr (w.heap.size + 1) RDT #[.slice none 0 0, .slice none 0 0, .int .i64 0, .int .i64 0] ∧ Below w.heap.size w wr
def RbO (w : World) (n : Nat) (st2 lf2 : Int) (F : Nat → List Nat) (e : Ending) (w' : World) : Prop :=
  ∃ g c5, e = .returned (.tuple #[.agg #[.slice (some ⟨g, 0, none⟩) n c5, .slice none 0 0, .int .i64 st2, .int .i64 lf2], .int .i64 0]) ∧ Tx w' g n F ∧ Below w.heap.size w w'
set_option maxRecDepth 100000 in
set_option maxHeartbeats 2000000 in
theorem rbar_yes (sa qa : Option Addr) (n sc m qc : Nat) (st lf st2 lf2 : Int) (S : Nat → List Nat) (Q : List (Nat × List Nat)) (hn1 : 0 < n) (hn2 : n ≤ 5000) (w : World)
    (hstep : ∀ W, Calls Tryd.prog 90 #[.agg #[.slice sa n sc, .slice qa m qc, .int .i64 st, .int .i64 lf]] W fun e w' => e = .returned (.tuple #[.agg #[.slice sa n sc, .slice qa m qc, .int .i64 st2, .int .i64 lf2], .bool true]) ∧ Below W.heap.size W w')
    (hm : m = Q.length) (hQ : Rds w qa (cells2 Q)) (hS : Rds w sa (cellsS S n)) (hnone : sa = none → n = 0 ∧ sc = 0) (hgood : ∀ p ∈ Q, p.1 < n) (hroom : m ≤ 100000) :
    Calls Tryd.prog 58 #[.agg #[.slice sa n sc, .slice qa m qc, .int .i64 st, .int .i64 lf]] w (RbO w n st2 lf2 (flushQ S Q)) := by
  have HS := Lib.hid hstep
  have HQ := Lib.hid hQ
  have HSs := Lib.hid hS
  have HM := Lib.hid hm
  have HGo := Lib.hid hgood
  have HNn := Lib.hid hnone
  have hb2 := dr_two w (.cells #[.slice sa n sc, .slice qa m qc, .int .i64 st, .int .i64 lf] RDT) (.cells #[.slice none 0 0, .slice none 0 0, .int .i64 0, .int .i64 0] RDT)
  have HB2 := Lib.hid hb2
  have HX := Lib.hid ((blo_laid w RDT #[.slice sa n sc, .slice qa m qc, .int .i64 st, .int .i64 lf]).alloc (.cells #[.slice none 0 0, .slice none 0 0, .int .i64 0, .int .i64 0] RDT))
  have HZ : Hid (Blo ((w.alloc (.cells #[.slice sa n sc, .slice qa m qc, .int .i64 st, .int .i64 lf] RDT)).alloc (.cells #[.slice none 0 0, .slice none 0 0, .int .i64 0, .int .i64 0] RDT)) (w.heap.size + 1) RDT #[.slice none 0 0, .slice none 0 0, .int .i64 0, .int .i64 0]) := by
    have h := blo_laid (w.alloc (.cells #[.slice sa n sc, .slice qa m qc, .int .i64 st, .int .i64 lf] RDT)) RDT #[.slice none 0 0, .slice none 0 0, .int .i64 0, .int .i64 0]
    rw [show (w.alloc (.cells #[.slice sa n sc, .slice qa m qc, .int .i64 st, .int .i64 lf] RDT)).heap.size = w.heap.size + 1 by simp] at h
    exact h
  clear hstep hb2 hQ hS hm hnone hgood
  go_enter Tryd.func58, Tryd.ntmps58
  go_wp2_with fail
  refine (HS.out _).mono ?_
  rintro e w1 ⟨rfl, hb1⟩
  have HB3 := Lib.hid (HB2.out.trans (hb1.mono HB2.out.size))
  have HY := Lib.hid (HX.out.later hb1)
  have x0 := HY.out.cell 0
  have x1 := HY.out.cell 1
  have x2 := HY.out.cell 2
  have x3 := HY.out.cell 3
  have f0 := HY.out.frozen 0
  have f1 := HY.out.frozen 1
  have f2 := HY.out.frozen 2
  have f3 := HY.out.frozen 3
  have HW := Lib.hid (HZ.out.later hb1)
  simp at x0 x1 x2 x3
  clear hb1 HX HZ HS HB2
  go_upto_region 4 with (fail)
  have HY2 : Hid (Blo ((((w1.setCell ⟨w.heap.size, 0, none⟩ (.slice sa n sc)).setCell ⟨w.heap.size, 1, none⟩ (.slice qa m qc)).setCell ⟨w.heap.size, 2, none⟩ (.int .i64 st2)).setCell ⟨w.heap.size, 3, none⟩ (.int .i64 lf2)) w.heap.size RDT #[.slice sa n sc, .slice qa m qc, .int .i64 st2, .int .i64 lf2]) := dr_fin HY.out
  have HW2 : Hid (Blo ((((w1.setCell ⟨w.heap.size, 0, none⟩ (.slice sa n sc)).setCell ⟨w.heap.size, 1, none⟩ (.slice qa m qc)).setCell ⟨w.heap.size, 2, none⟩ (.int .i64 st2)).setCell ⟨w.heap.size, 3, none⟩ (.int .i64 lf2)) (w.heap.size + 1) RDT #[.slice none 0 0, .slice none 0 0, .int .i64 0, .int .i64 0]) := (((HW.out.far (p := ⟨w.heap.size, 0, none⟩) (by simp) _).far (p := ⟨w.heap.size, 1, none⟩) (by simp) _).far (p := ⟨w.heap.size, 2, none⟩) (by simp) _).far (p := ⟨w.heap.size, 3, none⟩) (by simp) _
  have HB4 : Hid (Below w.heap.size w ((((w1.setCell ⟨w.heap.size, 0, none⟩ (.slice sa n sc)).setCell ⟨w.heap.size, 1, none⟩ (.slice qa m qc)).setCell ⟨w.heap.size, 2, none⟩ (.int .i64 st2)).setCell ⟨w.heap.size, 3, none⟩ (.int .i64 lf2))) := dr_four _ _ _ _ _ _ _ HB3.out (Nat.le_refl _)
  have HS2 := Lib.hid (HSs.out.later HB4.out)
  have hlt := HW2.out.lt
  clear x0 x1 x2 x3 f0 f1 f2 f3 HY HW HB3 HSs
  generalize ((((w1.setCell ⟨w.heap.size, 0, none⟩ (.slice sa n sc)).setCell ⟨w.heap.size, 1, none⟩ (.slice qa m qc)).setCell ⟨w.heap.size, 2, none⟩ (.int .i64 st2)).setCell ⟨w.heap.size, 3, none⟩ (.int .i64 lf2)) = w2 at *
  have hal : Below w2.heap.size w2 (w2.alloc (.cells #[] STR)) := (Below.refl _ _).alloc (Nat.le_refl _) _
  have y0b := (HY2.out.later hal).cell 0
  simp at y0b
  go_wp2_with ((at_builtin; refine wp_append_row rfl (.tmp 14) (.tmp 16) 26 rfl w2.heap.size STR (.string ByteArray.empty) 1 16 Tryd.underlying26 info_str rfl (by decide) (by decide) _ 0 [] rfl (World.ownsRow_lit w2 #[] 0 (Nat.le_refl _) (by unfold maxLen; omega) rfl) sa n sc (cellsS S n) rfl (by simp [cellsS]) (HS2.out.later hal).add (cellsS_one S n) HNn.out (by omega) (by simp) ?_; intro a5 c5 w3 hown hgrow; rw [Nat.zero_add, List.nil_append] at hown; rw [Nat.zero_add]; have HB5 := Lib.hid (hal.grown hgrow (by simp) (fun q hq => by cases hq; exact Nat.le_refl _)); obtain ⟨g, rfl, hg, htx⟩ := tx_own hn1 hown; have HTx := Lib.hid htx; have HG := Lib.hid hg; have HY7 := Lib.hid (HY2.out.later HB5.out); have HW7 := Lib.hid (HW2.out.later HB5.out); have y0 := HY7.out.cell 0; have y1 := HY7.out.cell 1; have f0 := HY7.out.frozen 0; simp at y0 y1; clear hown hgrow htx hg))
  have HRel : Hid (RbR w g n S Q #[.slice (some ⟨g, 0, none⟩) n c5, .slice qa m qc, .int .i64 st2, .int .i64 lf2] (.int .i64 0) (w3.setCell ⟨w.heap.size, 0, none⟩ (.slice (some ⟨g, 0, none⟩) n c5))) :=
    ⟨0, Nat.zero_le _, rfl, HTx.out.far (by have := HG.out; show w.heap.size ≠ g; omega) _, HY7.out.put 0 _, HW7.out.far (by simp) _, (HB4.out.trans (HB5.out.mono HB4.out.size)).setCell (p := ⟨w.heap.size, 0, none⟩) (Nat.le_refl _) _⟩
  have HGn : Hid (w.heap.size + 1 < g) := by
    show _ < g
    have := HG.out; omega
  clear y0 y1 f0 HTx HY7 HW7 HY2 HW2 hal y0b HS2 HB4 HB5 HG hlt
  go_loopw [22] (fun t wr => RbR w g n S Q #[.slice (some ⟨g, 0, none⟩) n c5, .slice qa m qc, .int .i64 st2, .int .i64 lf2] t wr) (fun t _ => m - (intOf t).toNat)
  case atStart => exact HRel.out
  case round =>
    clear HRel
    obtain ⟨k, hk, rfl, hT, hX, hZ, hB⟩ := hrel
    have HT := Lib.hid hT
    have HX := Lib.hid hX
    have HZ := Lib.hid hZ
    have HB := Lib.hid hB
    clear hT hX hZ hB
    have k0 : (0 : Int) ≤ (k : Int) := by omega
    have kb : (k : Int) ≤ 1000000 := by have := HM.out; omega
    have b0 := HX.out.cell 0
    have b1 := HX.out.cell 1
    simp at b0 b1
    by_cases hlt : k < m
    · have hkq : k < Q.length := by rw [← HM.out]; exact hlt
      have k1 : (k : Int) < (m : Int) := by omega
      have hRd := HQ.out.later HB.out
      obtain ⟨qb, qo, hqa, c0⟩ := hRd (k * 2) _ (cells2_at Q k hkq).1
      obtain ⟨qb', qo', hqa', c1⟩ := hRd (k * 2 + 1) _ (cells2_at Q k hkq).2
      rw [hqa] at hqa'
      cases hqa'
      subst hqa
      have hqn := HGo.out Q[k] (List.getElem_mem _)
      have HFl : Hid (flushQ S (Q.take (k + 1)) = updB (flushQ S (Q.take k)) Q[k].1 Q[k].2) := by
        show _ = _
        rw [take_snoc' Q k hkq, flushQ_snoc]
      rw [← Nat.add_assoc] at c1
      generalize Q[k].1 = q1 at *
      generalize Q[k].2 = q2 at *
      have t0 := (HT.out.cell hqn).1
      have t1 := (HT.out.cell hqn).2
      have j0 : (0 : Int) ≤ (q1 : Int) := by omega
      have j1 : (q1 : Int) < (n : Int) := by omega
      clear hRd
      go_wp2_with fail
      go_region
      have hdr : Below (wr.setCell ⟨g, q1, none⟩ (.string (strOf q2))).heap.size (wr.setCell ⟨g, q1, none⟩ (.string (strOf q2))) (wr.setCell ⟨g, q1, none⟩ (.string (strOf q2))).drew := (Below.refl _ _).drew
      have HT2 : Hid (Tx (wr.setCell ⟨g, q1, none⟩ (.string (strOf q2))).drew g n (flushQ S (Q.take (k + 1)))) := by
        rw [HFl.out]
        exact (HT.out.put hqn q2).later hdr
      have hg1 : w.heap.size ≠ g := by have := HGn.out; omega
      have hg2 : w.heap.size + 1 ≠ g := by have := HGn.out; omega
      have HX2 := Lib.hid ((HX.out.far (p := ⟨g, q1, none⟩) hg1 (.string (strOf q2))).later hdr)
      have HZ2 := Lib.hid ((HZ.out.far (p := ⟨g, q1, none⟩) hg2 (.string (strOf q2))).later hdr)
      have HB2 : Hid (Below w.heap.size w (wr.setCell ⟨g, q1, none⟩ (.string (strOf q2))).drew) := (HB.out.setCell (p := ⟨g, q1, none⟩) (by have := HGn.out; show w.heap.size ≤ g; omega) _).drew
      clear hdr hg1 hg2 HT HX HZ HB b0 b1 c0 c1 t0 t1 HFl
      generalize (wr.setCell ⟨g, q1, none⟩ (.string (strOf q2))).drew = w9 at *
      go_wp2_with fail
      go_roundw
      case rel => exact ⟨k + 1, hkq, by simp, HT2.out, HX2.out, HZ2.out, HB2.out⟩
      case measure => simp [intOf]; omega
    · have hke : k = Q.length := by have := HM.out; omega
      have k1 : ¬ (k : Int) < (m : Int) := by omega
      have HT2 : Hid (Tx wr g n (flushQ S Q)) := by
        have h := HT.out
        rw [hke, List.take_length] at h
        exact h
      have b2 := HX.out.cell 2
      have b3 := HX.out.cell 3
      have f1 := HX.out.frozen 1
      have z0 := HZ.out.cell 0
      have z1 := HZ.out.cell 1
      have z2 := HZ.out.cell 2
      have z3 := HZ.out.cell 3
      have e0 := HZ.out.frozen 0
      have e1 := HZ.out.frozen 1
      have e2 := HZ.out.frozen 2
      have e3 := HZ.out.frozen 3
      simp at b2 b3 z0 z1 z2 z3
      clear hke HT HX HZ
      go_wp2
      refine bodyPost_ret (v := .tuple #[.agg #[.slice (some ⟨g, 0, none⟩) n c5, .slice none 0 0, .int .i64 st2, .int .i64 lf2], .int .i64 0]) ?_ rfl ⟨g, c5, rfl, ?_, ?_⟩
      · simp [results, Tryd.results58, go_sem, b0, b1, b2, b3, z0, z1, z2, z3]
      · have hg1 : w.heap.size ≠ g := by have := HGn.out; omega
        have hg2 : w.heap.size + 1 ≠ g := by have := HGn.out; omega
        exact (((((HT2.out.far (p := ⟨w.heap.size, 1, none⟩) hg1 _).far (p := ⟨w.heap.size + 1, 0, none⟩) hg2 _).far (p := ⟨w.heap.size + 1, 1, none⟩) hg2 _).far (p := ⟨w.heap.size + 1, 2, none⟩) hg2 _).far (p := ⟨w.heap.size + 1, 3, none⟩) hg2 _)
      · exact dr_four _ _ _ _ _ _ _ (HB.out.setCell (p := ⟨w.heap.size, 1, none⟩) (Nat.le_refl _) _) (Nat.le_succ _)
end Go.Proofs.YtlkgaefabahkoaaDoor
