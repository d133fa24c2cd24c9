/-
  The walks of points: counting, Load.
-/
import Derived.Test.YtmkhliabmodbdaaPtDec
import Derived.Test.YtmkhliabmodbdaaPtNewer
import Derived.Test.YtmkhliabmodbdaaDkBytes
namespace Go.Proofs.Ytmkhliabmodbdaa
open Go.RowKit

def zPt : Pt := ⟨0, 0, 0, 0⟩
/-- The point that counts among the blocks 1 .. k, and its block. -/
def ctK (N : Nat → List Nat) : Nat → Pt × Nat
  | 0 => (zPt, 0)
  | k + 1 => match decP (N (k + 1)) with
    | none => ctK N k
    | some p => if (ctK N k).2 = 0 ∨ newB p (ctK N k).1 = true then (p, k + 1) else ctK N k
theorem ct_none {N : Nat → List Nat} {k : Nat} (h : decP (N (k + 1)) = none) : ctK N (k + 1) = ctK N k := by rw [ctK, h]
theorem ct_yes {N : Nat → List Nat} {k : Nat} {p : Pt} (h : decP (N (k + 1)) = some p) (h2 : (ctK N k).2 = 0 ∨ newB p (ctK N k).1 = true) : ctK N (k + 1) = (p, k + 1) := by
  rw [ctK, h]; exact if_pos h2
theorem ct_no {N : Nat → List Nat} {k : Nat} {p : Pt} (h : decP (N (k + 1)) = some p) (h2 : ¬ ((ctK N k).2 = 0 ∨ newB p (ctK N k).1 = true)) : ctK N (k + 1) = ctK N k := by
  rw [ctK, h]; exact if_neg h2
theorem ct_le (N : Nat → List Nat) : ∀ k, (ctK N k).2 ≤ k
  | 0 => Nat.le_refl _
  | k + 1 => by
    have := ct_le N k
    rw [ctK]
    split
    · omega
    · split
      · exact Nat.le_refl _
      · omega
def cntP (p : Pt) (at_ : Nat) (w : World) (e : Ending) (w' : World) : Prop := e = .returned (.tuple #[.agg (ptA p), .int .i64 at_]) ∧ Below w.heap.size w w'
def CntR (C : Nat) (w : World) (g0 gb : Nat) (L : Dl) (d : Dm) (i a : Value) (wr : World) : Prop :=
  ∃ k : Nat, k ≤ 2 ∧ i = .int .i64 ((k : Int) + 1) ∧ a = .int .i64 ((ctK d.N k).2 : Nat) ∧ Blo wr gb PNT (ptA (ctK d.N k).1) ∧ Blo wr g0 PNT zp4 ∧ Dk C wr L d ∧ Below w.heap.size w wr
theorem ptA_def (p : Pt) : ptA p = #[.int .i64 p.e, .int .i64 p.c, .int .i64 p.n, .int .i64 p.f] := rfl
/-- What stands behind the taking of a point. -/
structure CntF (C : Nat) (w : World) (L : Dl) (d : Dm) (e c n f : Int) (k1 : Nat) (W : World) : Prop where
  bl : Below w.heap.size w ((((W.setCell ⟨w.heap.size + 1, 0, none⟩ (.int .i64 e)).setCell ⟨w.heap.size + 1, 1, none⟩ (.int .i64 c)).setCell ⟨w.heap.size + 1, 2, none⟩ (.int .i64 n)).setCell ⟨w.heap.size + 1, 3, none⟩ (.int .i64 f))
  bb : Blo ((((W.setCell ⟨w.heap.size + 1, 0, none⟩ (.int .i64 e)).setCell ⟨w.heap.size + 1, 1, none⟩ (.int .i64 c)).setCell ⟨w.heap.size + 1, 2, none⟩ (.int .i64 n)).setCell ⟨w.heap.size + 1, 3, none⟩ (.int .i64 f)) (w.heap.size + 1) PNT #[.int .i64 e, .int .i64 c, .int .i64 n, .int .i64 f]
  bz : Blo ((((W.setCell ⟨w.heap.size + 1, 0, none⟩ (.int .i64 e)).setCell ⟨w.heap.size + 1, 1, none⟩ (.int .i64 c)).setCell ⟨w.heap.size + 1, 2, none⟩ (.int .i64 n)).setCell ⟨w.heap.size + 1, 3, none⟩ (.int .i64 f)) w.heap.size PNT zp4
  dk : Dk C ((((W.setCell ⟨w.heap.size + 1, 0, none⟩ (.int .i64 e)).setCell ⟨w.heap.size + 1, 1, none⟩ (.int .i64 c)).setCell ⟨w.heap.size + 1, 2, none⟩ (.int .i64 n)).setCell ⟨w.heap.size + 1, 3, none⟩ (.int .i64 f)) L d
theorem CntF.rel {C : Nat} {w W : World} {L : Dl} {d : Dm} {e c n f : Int} {k1 : Nat} (h : CntF C w L d e c n f k1 W) (hk : k1 ≤ 2) (hc : ctK d.N k1 = (⟨e, c, n, f⟩, k1)) {i a : Value} (hi : i = .int .i64 ((k1 : Int) + 1) := by simp) (ha : a = .int .i64 (k1 : Int) := by simp) :
    CntR C w w.heap.size (w.heap.size + 1) L d i a ((((W.setCell ⟨w.heap.size + 1, 0, none⟩ (.int .i64 e)).setCell ⟨w.heap.size + 1, 1, none⟩ (.int .i64 c)).setCell ⟨w.heap.size + 1, 2, none⟩ (.int .i64 n)).setCell ⟨w.heap.size + 1, 3, none⟩ (.int .i64 f)) :=
  ⟨k1, hk, hi, by rw [hc]; exact ha, by rw [hc]; exact h.bb, h.bz, h.dk, h.bl⟩
theorem CntR.next {C : Nat} {w W : World} {L : Dl} {d : Dm} {g0 gb k : Nat} {a : Value} (h : CntR C w g0 gb L d (.int .i64 ((k : Int) + 1)) a W) (hk : k + 1 ≤ 2) (hc : ctK d.N (k + 1) = ctK d.N k) {i : Value} (hi : i = .int .i64 (((k + 1 : Nat) : Int) + 1) := by simp) : CntR C w g0 gb L d i a W := by
  obtain ⟨k', h1, h2, h3, h4, h5, h6, h7⟩ := h
  have hkk : k' = k := by injection h2 with _ h; omega
  subst hkk
  exact ⟨k' + 1, hk, hi, by rw [hc]; exact h3, by rw [hc]; exact h4, h5, h6, h7⟩
set_option maxRecDepth 100000 in
set_option maxHeartbeats 4000000 in
theorem counting_any {C : Nat} {w : World} {L : Dl} {d : Dm} (h : Dk C w L d) (hn : 3 ≤ d.n) : Calls Try.prog 37 #[.pointer (some ⟨L.bd, 0, none⟩)] w (cntP (ctK d.N 2).1 (ctK d.N 2).2 w) := by
  have hb1 := sup_pt w (.cells zp4 PNT)
  have hb2 : Below w.heap.size w ((w.alloc (.cells zp4 PNT)).alloc (.cells zp4 PNT)) := hb1.alloc (by simp) _
  have hG0 := (blo_laid w PNT zp4).alloc (.cells zp4 PNT)
  have hG1 := blo_laid (w.alloc (.cells zp4 PNT)) PNT zp4
  have hsz : (w.alloc (.cells zp4 PNT)).heap.size = w.heap.size + 1 := by simp
  rw [hsz] at hG1
  have HSt : Hid (CntR C w w.heap.size (w.heap.size + 1) L d (.int .i64 1) (.int .i64 0) ((w.alloc (.cells zp4 PNT)).alloc (.cells zp4 PNT))) := ⟨0, by omega, rfl, rfl, hG1, hG0, h.later hb2, hb2⟩
  clear h hb1 hb2 hG0 hG1 hsz
  go_enter Try.func37, Try.ntmps37
  go_wp2_with fail
  go_loopw [6, 5] (fun i a wr => CntR C w w.heap.size (w.heap.size + 1) L d i a wr) (fun i _ _ => 3 - (intOf i).toNat)
  case atStart => exact HSt.out
  case round =>
    clear HSt
    obtain ⟨k, hk, rfl, rfl, hB, hZ, hD, hb⟩ := hrel
    have HBe := Lib.hid hB
    have HZ := Lib.hid hZ
    have HD := Lib.hid hD
    have HB := Lib.hid hb
    clear hB hZ hD hb
    by_cases hlt : k < 2
    · have k1 : (k : Int) + 1 ≤ 2 := by omega
      have HR : Hid (Calls Try.prog 35 #[.pointer (some ⟨L.bd, 0, none⟩), .int .i64 ((k : Int) + 1)] wr (ReadO wr (d.N (k + 1)))) := by
        have h := read_yes (k + 1) (by omega) HD.out
        rw [show (((k + 1 : Nat)) : Int) = (k : Int) + 1 by omega] at h
        exact h
      go_wp2_with fail
      refine HR.out.mono ?_
      rintro e w3 ⟨g, rfl, hx, hg, hb3⟩
      have HX := Lib.hid hx
      have HBe3 := Lib.hid (HBe.out.later hb3)
      have HZ3 := Lib.hid (HZ.out.later hb3)
      have HD3 := Lib.hid (HD.out.later hb3)
      have HB3 := Lib.hid (HB.out.trans (hb3.mono HB.out.size))
      clear hx hg hb3 HR HBe HZ HD HB
      cases hdec : decP (d.N (k + 1)) with
      | none =>
        have HDe : Hid (Calls Try.prog 31 #[.slice (some ⟨g, 0, none⟩) 64 64] w3 (DecO w3 zPt 100)) := decode_64 _ 64 _ w3 HX.out.2.1 (Nat.le_refl _) HX.out.bytes zPt 100 (.inr ⟨hdec, rfl, rfl⟩)
        have HN : Hid (ctK d.N (k + 1) = ctK d.N k) := ct_none hdec
        clear hdec
        go_wp2_with fail
        refine HDe.out.mono ?_
        rintro e w4 ⟨rfl, hb4⟩
        have hb5 : Below w3.heap.size w3 (w4.alloc (.cells (ptA zPt) PNT)) := hb4.alloc hb4.size _
        have HBe5 := Lib.hid (HBe3.out.later hb5)
        have HZ5 := Lib.hid (HZ3.out.later hb5)
        have HD5 := Lib.hid (HD3.out.later hb5)
        have HB5 := Lib.hid (HB3.out.trans (hb5.mono HB3.out.size))
        clear hb4 hb5 HDe HBe3 HZ3 HD3 HB3
        simp only [ptA_def, zPt] at HBe5 HZ5 HD5 HB5 ⊢
        go_wp2_with fail
        go_roundw
        case rel => exact ⟨k + 1, by omega, by simp, by rw [HN.out], by rw [HN.out]; exact HBe5.out, HZ5.out, HD5.out, HB5.out⟩
        case measure => simp [intOf]; omega
      | some p =>
        have HDe : Hid (Calls Try.prog 31 #[.slice (some ⟨g, 0, none⟩) 64 64] w3 (DecO w3 p 0)) := decode_64 _ 64 _ w3 HX.out.2.1 (Nat.le_refl _) HX.out.bytes p 0 (.inl ⟨hdec, rfl⟩)
        have HYes : Hid ((ctK d.N k).2 = 0 ∨ newB p (ctK d.N k).1 = true → ctK d.N (k + 1) = (p, k + 1)) := ct_yes hdec
        have HNo : Hid (¬ ((ctK d.N k).2 = 0 ∨ newB p (ctK d.N k).1 = true) → ctK d.N (k + 1) = ctK d.N k) := ct_no hdec
        clear hdec
        have hle := ct_le d.N k
        generalize hct : ctK d.N k = q at *
        obtain ⟨⟨be, bc, bn, bf⟩, at_⟩ := q
        simp only at hle
        obtain ⟨pe, pc, pn, pf⟩ := p
        go_wp2_with fail
        refine HDe.out.mono ?_
        rintro e w4 ⟨rfl, hb4⟩
        simp only [ptA_def]
        have hb5 : Below w3.heap.size w3 (w4.alloc (.cells #[.int .i64 pe, .int .i64 pc, .int .i64 pn, .int .i64 pf] PNT)) := hb4.alloc hb4.size _
        have HBe5 := Lib.hid (HBe3.out.later hb5)
        have HZ5 := Lib.hid (HZ3.out.later hb5)
        have HD5 := Lib.hid (HD3.out.later hb5)
        have HB5 := Lib.hid (HB3.out.trans (hb5.mono HB3.out.size))
        have HP5 := Lib.hid (blo_laid w4 PNT #[.int .i64 pe, .int .i64 pc, .int .i64 pn, .int .i64 pf])
        have HNe : Hid (w4.heap.size ≠ w.heap.size + 1) := by
          show w4.heap.size ≠ w.heap.size + 1
          have := HBe3.out.lt; have := hb4.size; omega
        have HNe2 : Hid (w4.heap.size ≠ w.heap.size) := by
          show w4.heap.size ≠ w.heap.size
          have := HZ3.out.lt; have := hb4.size; omega
        have HFr : Hid (∀ W, Below (w4.alloc (.cells #[.int .i64 pe, .int .i64 pc, .int .i64 pn, .int .i64 pf] PNT)).heap.size (w4.alloc (.cells #[.int .i64 pe, .int .i64 pc, .int .i64 pn, .int .i64 pf] PNT)) W → CntR C w w.heap.size (w.heap.size + 1) L d (.int .i64 ((k : Int) + 1)) (.int .i64 (at_ : Nat)) W ∧ CntF C w L d pe pc pn pf (k + 1) W) := fun W hw => by
          have hBe := HBe5.out.later hw
          have hZ := HZ5.out.later hw
          have hD := HD5.out.later hw
          have hB := HB5.out.trans (hw.mono HB5.out.size)
          refine ⟨⟨k, by omega, rfl, by rw [hct], by rw [hct]; exact hBe, hZ, hD, hB⟩, ⟨below_4 hB (by omega), ?_, ?_, ?_⟩⟩
          · exact dec_fin hBe
          · exact (((hZ.far (p := ⟨w.heap.size + 1, 0, none⟩) (by simp) _).far (p := ⟨w.heap.size + 1, 1, none⟩) (by simp) _).far (p := ⟨w.heap.size + 1, 2, none⟩) (by simp) _).far (p := ⟨w.heap.size + 1, 3, none⟩) (by simp) _
          · have hn : ¬ L.has (w.heap.size + 1) := hD.apart hBe (by decide) (by decide) (by decide)
            have o : ∀ (W : World) (j : Nat) (u : Value), Out (fun i => i = w.heap.size + 1) W (W.setCell ⟨w.heap.size + 1, j, none⟩ u) := fun W j u => out_put W ⟨w.heap.size + 1, j, none⟩ u rfl
            exact (((hD.out (o _ 0 _) (fun i hi e => hn (by rw [← e]; exact hi))).out (o _ 1 _) (fun i hi e => hn (by rw [← e]; exact hi))).out (o _ 2 _) (fun i hi e => hn (by rw [← e]; exact hi))).out (o _ 3 _) (fun i hi e => hn (by rw [← e]; exact hi))
        have HCel : Hid (∀ W, Below (w4.alloc (.cells #[.int .i64 pe, .int .i64 pc, .int .i64 pn, .int .i64 pf] PNT)).heap.size (w4.alloc (.cells #[.int .i64 pe, .int .i64 pc, .int .i64 pn, .int .i64 pf] PNT)) W → (Blo W (w.heap.size + 1) PNT #[.int .i64 be, .int .i64 bc, .int .i64 bn, .int .i64 bf] ∧ Blo W w4.heap.size PNT #[.int .i64 pe, .int .i64 pc, .int .i64 pn, .int .i64 pf])) := fun W hw => ⟨HBe5.out.later hw, HP5.out.later hw⟩
        clear hb4 hb5 HDe HBe3 HZ3 HD3 HB3 HBe5 HZ5 HD5 HB5 HP5
        obtain ⟨hy, hz⟩ := HCel.out _ (Below.refl _ _)
        have b0 := hy.cell 0
        have b1 := hy.cell 1
        have b2 := hy.cell 2
        have b3 := hy.cell 3
        simp at b0 b1 b2 b3
        clear hy hz
        by_cases ha0 : at_ = 0
        · have hct1 := HYes.out (.inl ha0)
          subst ha0
          have HCt := Lib.hid hct1
          obtain ⟨_, hF⟩ := HFr.out _ (Below.refl _ _)
          have HF := Lib.hid hF
          obtain ⟨hy, hz⟩ := HCel.out _ (Below.refl _ _)
          have f0 := hy.frozen 0
          have f1 := hy.frozen 1
          have f2 := hy.frozen 2
          have f3 := hy.frozen 3
          clear hct1 hF hy hz HFr HCel HYes HNo hct
          go_wp2_with fail
          go_roundw
          case rel => exact HF.out.rel (by omega) HCt.out
          case measure => simp [intOf]; omega
        · have ha1 : (((at_ : Nat) : Int) == 0) = false := by rw [beq_eq_false_iff_ne]; omega
          go_wp2_with fail
          refine (newer_any pe pc pn pf be bc bn bf _).mono ?_
          rintro e w6 ⟨rfl, hb6⟩
          obtain ⟨hS, hF⟩ := HFr.out w6 hb6
          obtain ⟨hy, hz⟩ := HCel.out w6 hb6
          have HSs := Lib.hid hS
          have HF := Lib.hid hF
          have b0 := hy.cell 0
          have b1 := hy.cell 1
          have b2 := hy.cell 2
          have b3 := hy.cell 3
          have c0 := hz.cell 0
          have c1 := hz.cell 1
          have c2 := hz.cell 2
          have c3 := hz.cell 3
          have f0 := hy.frozen 0
          have f1 := hy.frozen 1
          have f2 := hy.frozen 2
          have f3 := hy.frozen 3
          simp at b0 b1 b2 b3 c0 c1 c2 c3
          clear hb6 hS hF hy hz HFr HCel
          cases hnew : newB ⟨pe, pc, pn, pf⟩ ⟨be, bc, bn, bf⟩ with
          | true =>
            have HCt : Hid (ctK d.N (k + 1) = (⟨pe, pc, pn, pf⟩, k + 1)) := HYes.out (.inr hnew)
            clear hnew HYes HNo hct HSs
            go_wp2_with fail
            go_roundw
            case rel => exact HF.out.rel (by omega) HCt.out
            case measure => simp [intOf]; omega
          | false =>
            have HCt : Hid (ctK d.N (k + 1) = ctK d.N k) := by
              show _ = _
              rw [hct]
              exact HNo.out (fun h => by rcases h with h | h; · exact ha0 h
                                         · rw [hnew] at h; cases h)
            clear hnew HYes HNo hct HF
            go_wp2_with fail
            go_roundw
            case rel => exact HSs.out.next (by omega) HCt.out
            case measure => simp [intOf]; omega
    · have hke : k = 2 := by omega
      subst hke
      generalize hct : ctK d.N 2 = q at *
      obtain ⟨⟨be, bc, bn, bf⟩, at_⟩ := q
      have b0 := HBe.out.cell 0
      have b1 := HBe.out.cell 1
      have b2 := HBe.out.cell 2
      have b3 := HBe.out.cell 3
      have z0 := HZ.out.cell 0
      have z1 := HZ.out.cell 1
      have z2 := HZ.out.cell 2
      have z3 := HZ.out.cell 3
      have f0 := HZ.out.frozen 0
      have f1 := HZ.out.frozen 1
      have f2 := HZ.out.frozen 2
      have f3 := HZ.out.frozen 3
      simp [ptA] at b0 b1 b2 b3 z0 z1 z2 z3
      clear hct HBe HZ HD
      go_wp2
      refine bodyPost_ret (v := .tuple #[.agg (ptA ⟨be, bc, bn, bf⟩), .int .i64 (at_ : Nat)]) ?_ rfl ⟨rfl, ?_⟩
      · simp [results, Try.results37, go_sem, ptA, z0, z1, z2, z3]
      · exact below_4 HB.out (Nat.le_refl _)
end Go.Proofs.Ytmkhliabmodbdaa
