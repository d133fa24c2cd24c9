/-
  SgDRr · SgTxl · SgPcs: these texts in one.
-/
import Derived.Test.YtlkgaefabahkoaaDoorPk23
import Derived.Test.YtlkgaefabahkoaaDoorPk21
import Derived.Test.YtlkgaefabahkoaaDoorPk12
import Derived.Test.YtlkgaefabahkoaaDoorPk01
import Derived.BigQuiet
import Derived.BigRegion
import Derived.Test.YtlkgaefabahkoaaDoorPk09
import Derived.Test.YtlkgaefabahkoaaDoorPk04
import Derived.Deep.Slices
/-
  The document's Read of a partial segment.
-/
namespace Go.Proofs.YtlkgaefabahkoaaDoor
open Go.RowKit

abbrev zfr : Array Value := #[.int .i64 0, .int .i64 0, .int .i64 0, .int .i64 0, .int .i64 0, .int .i64 0, .slice none 0 0, .slice none 0 0, .slice none 0 0]
/-- What the walk keeps. -/
structure DrK (w : World) (d : Dm) (sa qa : Option Addr) (sc qc : Nat) (g6 : Nat) (m : Sm) (fa : Option Addr) (fc : Nat) (ia : Option Addr) (ic : Nat) (W : World) : Prop where
  bx : Blo W w.heap.size RDT (agR sa qa sc qc d)
  rx : Blo W (w.heap.size + 1) RFT zfr
  px : Blo W g6 36 (pcs m fa m.fs.length fc ia m.is.length ic)
  pt : PtT W m fa fc ia ic
  below : Below w.heap.size w W
theorem DrK.later {w W W' : World} {d : Dm} {sa qa : Option Addr} {sc qc : Nat} {g6 : Nat} {m : Sm} {fa : Option Addr} {fc : Nat} {ia : Option Addr} {ic : Nat} (h : DrK w d sa qa sc qc g6 m fa fc ia ic W) (hb : Below W.heap.size W W') : DrK w d sa qa sc qc g6 m fa fc ia ic W' :=
  ⟨h.bx.later hb, h.rx.later hb, h.px.later hb, h.pt.later hb, h.below.trans (hb.mono h.below.size)⟩
theorem DrK.row {w W W' : World} {d : Dm} {sa qa : Option Addr} {sc qc : Nat} {g6 : Nat} {m : Sm} {fa : Option Addr} {fc : Nat} {ia : Option Addr} {ic : Nat} {base n : Nat} {v : Value} {xs : List Value} (h : DrK w d sa qa sc qc g6 m fa fc ia ic W) (hr : W.ownsRow base STR 1 v n xs) (ho : Out (fun g => v.ownBlock = some g) W W') (hb : w.heap.size ≤ base) : DrK w d sa qa sc qc g6 m fa fc ia ic W' := by
  have hB : ∀ g, v.ownBlock = some g → base ≤ g ∧ ∃ cs, Blo W g STR cs := fun g hg => ⟨(oblo hr hg).1, (oblo hr hg).2.2⟩
  refine ⟨ho.blo h.bx (fun hx => ?_), ho.blo h.rx (fun hx => ?_), ho.blo h.px (fun hx => ?_), h.pt.out ho (fun g hx => ?_), h.below.trans (ho.below h.below.size (fun i _ hx => Nat.le_trans hb (hB i hx).1))⟩
  · obtain ⟨-, cs, hc⟩ := hB _ hx
    exact hc.apart h.bx (by decide) rfl
  · obtain ⟨-, cs, hc⟩ := hB _ hx
    exact hc.apart h.rx (by decide) rfl
  · obtain ⟨-, cs, hc⟩ := hB _ hx
    exact hc.apart h.px (by decide) rfl
  · obtain ⟨-, cs, hc⟩ := hB g hx
    exact ⟨STR, cs, hc, by decide, by decide⟩
def PSt (l : List Nat) : ObjL := fun v W => ∃ g, v = .slice (some ⟨g, 0, none⟩) 1 1 ∧ Blo W g STR #[.string (strOf l)]
theorem later_pst (l : List Nat) : LaterP (PSt l) := fun v W W' hb h => by
  obtain ⟨g, rfl, h⟩ := h
  exact ⟨g, rfl, h.later hb⟩
theorem blo_src1 {w : World} {g : Nat} {t : TypeId} {u : Value} (h : Blo w g t #[u]) : ∀ ad, some (⟨g, 0, none⟩ : Addr) = some ad → ∀ j x, [u][j]? = some x → w.cell? (ad.add j) = some x := fun ad e j x hj => by
  cases e
  rw [Addr.add_lit, Nat.zero_add, h.cell]
  simpa using hj
def ClA (D : Nat → Bool) : Prop := (D 1 = true → D 0 = true) ∧ (D 5 = true → D 3 = true ∧ D 4 = true) ∧ (D 6 = true → D 2 = true ∧ D 5 = true) ∧ (D 7 = true → D 6 = true)
theorem clA_start : ClA (fun _ => false) := ⟨fun h => (by cases h), fun h => (by cases h), fun h => (by cases h), fun h => (by cases h)⟩
theorem ClA.put {D : Nat → Bool} (h : ClA D) (i : Nat) (h1 : i = 1 → D 0 = true) (h5 : i = 5 → D 3 = true ∧ D 4 = true) (h6 : i = 6 → D 2 = true ∧ D 5 = true) (h7 : i = 7 → D 6 = true) : ClA (updD D i) := by
  obtain ⟨k1, k5, k6, k7⟩ := h
  refine ⟨fun h => ?_, fun h => ?_, fun h => ?_, fun h => ?_⟩
  · rcases updD_ofO h with e | ⟨-, h⟩
    · exact updD_upO (h1 e.symm)
    · exact updD_upO (k1 h)
  · rcases updD_ofO h with e | ⟨-, h⟩
    · exact ⟨updD_upO (h5 e.symm).1, updD_upO (h5 e.symm).2⟩
    · exact ⟨updD_upO (k5 h).1, updD_upO (k5 h).2⟩
  · rcases updD_ofO h with e | ⟨-, h⟩
    · exact ⟨updD_upO (h6 e.symm).1, updD_upO (h6 e.symm).2⟩
    · exact ⟨updD_upO (k6 h).1, updD_upO (k6 h).2⟩
  · rcases updD_ofO h with e | ⟨-, h⟩
    · exact updD_upO (h7 e.symm)
    · exact updD_upO (k7 h)
theorem ClA.all {D : Nat → Bool} (h : ClA D) (d1 : D 1 = true) (d7 : D 7 = true) : ∀ j, j < 8 → D j = true := fun j hj => by
  obtain ⟨k1, k5, k6, k7⟩ := h
  have d6 := k7 d7
  have d25 := k6 d6
  have d34 := k5 d25.2
  match j, hj with
  | 0, _ => exact k1 d1
  | 1, _ => exact d1
  | 2, _ => exact d25.1
  | 3, _ => exact d34.1
  | 4, _ => exact d34.2
  | 5, _ => exact d25.2
  | 6, _ => exact d6
  | 7, _ => exact d7
def ApI (RL : List (Nat × ObjL)) (TL : List (Nat × Value)) (wb : World) (_ : Nat) (M : Value → World → Prop) (D : Nat → Bool) (X : Nat → Value) (W : World) : Prop :=
  (D 8 = false ∧ ClA D ∧ GL RL TL wb D X W) ∨ (D 8 = true ∧ (∀ j, j < 8 → D j = true) ∧ M (X 8) W)
def DrA (w : World) (d : Dm) (sa qa : Option Addr) (sc qc : Nat) (g6 : Nat) (m : Sm) (fa : Option Addr) (fc : Nat) (ia : Option Addr) (ic : Nat) (g9 : Nat) (w3 : World) (kb i : Nat) (ta : Option Addr) (tc : Nat) (v : Value) (W : World) : Prop :=
  ∃ a5 c5, v = .slice a5 (i + 1) c5 ∧ DrK w d sa qa sc qc g6 m fa fc ia ic W ∧ Blo W g9 RFT (fdr ((kb : Nat) : Int) m fa fc ia ic (.slice ta i tc)) ∧ W.ownsRow w3.heap.size STR 1 (.slice a5 (i + 1) c5) (i + 1) (cellsS (rdF d kb) (i + 1)) ∧ w3.heap.size ≤ W.heap.size
theorem dr_grown {w : World} {d : Dm} {sa qa : Option Addr} {sc qc : Nat} {g6 : Nat} {m : Sm} {fa : Option Addr} {fc : Nat} {ia : Option Addr} {ic : Nat} {g9 : Nat} {w3 : World} {kb i : Nat} {ta : Option Addr} {tc : Nat} {v : Value} {W W' : World} {u : Value} (he : cellsS (rdF d kb) (i + 1) = cellsS (rdF d kb) i ++ [u]) (hk : DrK w d sa qa sc qc g6 m fa fc ia ic W) (hf : Blo W g9 RFT (fdr ((kb : Nat) : Int) m fa fc ia ic (.slice ta i tc))) (ho : W.ownsRow w3.heap.size STR 1 (.slice ta i tc) i (cellsS (rdF d kb) i)) (hs : w3.heap.size ≤ W.heap.size) (hw : w.heap.size ≤ w3.heap.size)
    (hown : W'.ownsRow w3.heap.size STR 1 v (i + 1) (cellsS (rdF d kb) i ++ [u])) (hg : W.grownBy W' (blkOf (.slice ta i tc))) : DrA w d sa qa sc qc g6 m fa fc ia ic g9 w3 kb i ta tc v W' := by
  rw [← blk_own ho] at hg
  obtain ⟨a5, c5, rfl, -⟩ := own_slice hown
  exact ⟨a5, c5, rfl, hk.row ho (Out.of_grown hg (fun g e => e)) hw, hf.grown hg (hf.row_apart ho (by decide)), by rw [he]; exact hown, Nat.le_trans hs hg.size⟩
theorem sum_gat_lt {l : List Nat} (h : ∀ x ∈ l, x < 256) : sumM (gat l 8) < 4294967296 := by
  have hg := gat_lt h 8
  have := at_lt hg 6
  have := at_lt hg 7
  have := at_lt hg 8
  have := at_lt hg 9
  unfold sumM
  omega
def ReadM (d : Dm) (addr : Int) (w : World) (e : Ending) (w' : World) : Prop :=
  Below w.heap.size w w' ∧ (readC d addr ≠ 0 → e = .returned (.tuple #[.agg zfr, .int .i64 (readC d addr)])) ∧
  (readC d addr = 0 → ∃ fa fc ia ic ta tc, e = .returned (.tuple #[.agg (fdr addr (rdM d addr.toNat) fa fc ia ic (.slice ta (rdN (rdM d addr.toNat)) tc)), .int .i64 0]) ∧ PtT w' (rdM d addr.toNat) fa fc ia ic ∧ Rds w' ta (cellsS (rdF d addr.toNat) (rdN (rdM d addr.toNat))))
theorem ReadM.no {d : Dm} {addr : Int} {w w' : World} {c : Int} (hb : Below w.heap.size w w') (hc : readC d addr = c) (h0 : c ≠ 0) : ReadM d addr w (.returned (.tuple #[.agg zfr, .int .i64 c])) w' :=
  ⟨hb, fun _ => by rw [hc], fun h => absurd (hc.symm.trans h) h0⟩
theorem drd_no {w w' : World} {d : Dm} {addr c : Int} (hb : Below w.heap.size w w') (hc : readC d addr = c) (h0 : c ≠ 0) : ReadM d addr w (.returned (.tuple #[.agg zfr, .int .i64 c])) (w'.setRow (w.heap.size + 1) zfr) :=
  ReadM.no (below_setRow hb (by omega) _) hc h0
theorem DrK.set {w W : World} {d : Dm} {sa qa : Option Addr} {sc qc : Nat} {g6 g9 : Nat} {m : Sm} {fa : Option Addr} {fc : Nat} {ia : Option Addr} {ic : Nat} {cs : Array Value} (h : DrK w d sa qa sc qc g6 m fa fc ia ic W) (hf : Blo W g9 RFT cs) (hg : w.heap.size + 1 < g9) (o : Nat) (v : Value) : DrK w d sa qa sc qc g6 m fa fc ia ic (W.setCell ⟨g9, o, none⟩ v) := by
  have ho : Out (fun j => j = g9) W (W.setCell ⟨g9, o, none⟩ v) := out_put W ⟨g9, o, none⟩ v rfl
  exact ⟨ho.blo h.bx (fun e => by omega), ho.blo h.rx (fun e => by omega), ho.blo h.px (fun e => h.px.apart hf (by decide) e), h.pt.out ho (fun j e => ⟨RFT, cs, e ▸ hf, by decide, by decide⟩), h.below.trans (ho.below h.below.size (fun j _ e => by omega))⟩
theorem drd_yes {w W : World} {d : Dm} {sa qa : Option Addr} {sc qc : Nat} {g6 : Nat} {m : Sm} {fa : Option Addr} {fc : Nat} {ia : Option Addr} {ic : Nat} {base kb i : Nat} {ta : Option Addr} {tc : Nat} (hk : DrK w d sa qa sc qc g6 m fa fc ia ic W) (hr : W.ownsRow base STR 1 (.slice ta i tc) i (cellsS (rdF d kb) i)) (hm : rdM d kb = m) (hi : rdN m = i) (hc : readC d ((kb : Nat) : Int) = 0) :
    ReadM d ((kb : Nat) : Int) w (.returned (.tuple #[.agg (fdr ((kb : Nat) : Int) m fa fc ia ic (.slice ta i tc)), .int .i64 0])) (W.setRow (w.heap.size + 1) (fdr ((kb : Nat) : Int) m fa fc ia ic (.slice ta i tc))) := by
  have ho : Out (fun j => j = w.heap.size + 1) W (W.setRow (w.heap.size + 1) (fdr ((kb : Nat) : Int) m fa fc ia ic (.slice ta i tc))) := out_row W (w.heap.size + 1) _ rfl
  refine ⟨below_setRow hk.below (by omega) _, fun h => absurd hc h, fun _ => ?_⟩
  rw [Int.toNat_natCast, hm, hi]
  exact ⟨fa, fc, ia, ic, ta, tc, rfl, hk.pt.out ho (fun j e => ⟨RFT, zfr, e ▸ hk.rx, by decide, by decide⟩), Rds.own (ho.own hr (fun g hg e => by
    obtain ⟨-, -, cs, hb⟩ := oblo hr hg
    exact hb.apart hk.rx (by decide) e))⟩
set_option maxRecDepth 1000000 in
set_option maxHeartbeats 16000000 in
theorem mread_any {w : World} {d : Dm} {sa qa : Option Addr} {sc qc : Nat} (addr : Int) (hq : d.Q.length ≤ 100000) (hn : d.n ≤ 4096) (hN : ∀ i, (d.N i).length = 64 ∧ ∀ x ∈ d.N i, x < 256) (hm : Mr w sa qa sc qc d) :
    Calls Tryd.prog 13 #[.agg (agR sa qa sc qc d), .int .i64 addr] w (ReadM d addr w) := by
  have hb1 : Below w.heap.size w ((w.alloc (.cells (agR sa qa sc qc d) RDT)).alloc (.cells zfr RFT)) := ((Below.refl _ _).alloc (Nat.le_refl _) _).alloc (by simp) _
  have hz := blo_laid (w.alloc (.cells (agR sa qa sc qc d) RDT)) RFT zfr
  rw [World.size_alloc] at hz
  have HBx := Lib.hid ((blo_laid w RDT (agR sa qa sc qc d)).later (sup_pc _ (.cells zfr RFT)))
  have HFx := Lib.hid hz
  have HM1 := Lib.hid (hm.later hb1)
  have HM := Lib.hid hm
  have HB1 := Lib.hid hb1
  have HQ := Lib.hid hq
  have HN := Lib.hid hN
  clear hz hb1 hm hq hN
  by_cases hh : hasB d.n addr 2 = false
  · have hrc : readC d addr = 100 := by unfold readC; rw [if_pos hh]
    have hbad : addr < 0 ∨ (¬ addr < 0 ∧ addr > (d.n : Int) - 2) := by
      by_cases h0 : addr < 0
      · exact .inl h0
      · refine .inr ⟨h0, ?_⟩
        simp [hasB] at hh
        omega
    have HRc := Lib.hid hrc
    have hres := HFx.out
    clear hh hrc
    rcases hbad with h | ⟨h, h'⟩
    all_goals
      go_enter Tryd.func13, Tryd.ntmps13
      go_upto_region 1 with (fail)
      generalize ((w.alloc (.cells (agR sa qa sc qc d) RDT)).alloc (.cells zfr RFT)) = w1 at *
      have c0 := HBx.out.cell 0
      simp [agR] at c0
      go_wp2_with (refine wpList_store_row rfl RFT (.tmp 4) (.tmp 21) rfl (w.heap.size + 1) zfr (by first | rfl | simp [go_sem]) (by first | rfl | simp [go_sem]) RFT _ hres (by kernel_rfl) rfl (by simp [Value.oneCell']) ?_)
      (try simp only [Exit.inBlock, Exit.then])
      exact bodyPost_ret (results_row_tmp (p := 4) (u := 5) (ty := RFT) rfl _ _ (w.heap.size + 1) RFT zfr _ (by simp) (blo_row hres zfr) Tryd.underlying43 rfl (by kernel_rfl)) rfl (drd_no HB1.out HRc.out (by decide))
  · have hh2 : hasB d.n addr 2 = true := by cases h : hasB d.n addr 2 with
      | true => rfl
      | false => exact absurd h hh
    have hy := hasB_yes hh2
    obtain ⟨kb, rfl⟩ : ∃ kb : Nat, addr = (kb : Int) := ⟨addr.toNat, by omega⟩
    have ha2 : kb + 2 ≤ d.n := by omega
    have HA2 := Lib.hid ha2
    have HHs := Lib.hid hh2
    have h0 : ¬ ((kb : Nat) : Int) < 0 := by omega
    have h1 : ¬ ((kb : Nat) : Int) > (d.n : Int) - 2 := by omega
    have ew1 : IntKind.i64.wrap (((kb : Nat) : Int) + 1) = ((kb : Nat) : Int) + 1 := IntWalk.i64_in _ (by omega)
    have esz : (strOf (d.N kb)).size + (strOf (d.N (kb + 1))).size ≤ 9223372036854775807 := by rw [strOf_size, strOf_size, (HN.out kb).1, (HN.out (kb + 1)).1]; decide
    have eap : strOf (d.N kb) ++ strOf (d.N (kb + 1)) = strOf (rdL d kb) := strOf_append _ _
    have HL : Hid ((rdL d kb).length = 128) := by show _ = _; unfold rdL; rw [List.length_append, (HN.out kb).1, (HN.out (kb + 1)).1]
    have HCv : Hid (∀ W, ∃ cap W', (convert 9 49 (.string (strOf (rdL d kb)))).run Tryd.prog W = .ok (.slice (some ⟨W.heap.size, 0, none⟩) 128 cap) W' ∧ 128 ≤ cap ∧ Below W.heap.size W W' ∧ Bytes W' (some ⟨W.heap.size, 0, none⟩) (rdL d kb)) := fun W => conv_bytes W (rdL d kb) HL.out (fun x hx => by
      unfold rdL at hx
      rcases List.mem_append.1 hx with h | h
      · exact (HN.out kb).2 x h
      · exact (HN.out (kb + 1)).2 x h)
    have HRr : Hid (∀ (W : World) (i : Nat), i < d.n → Mr W sa qa sc qc d → Calls Tryd.prog 32 #[.agg (agR sa qa sc qc d), .int .i64 ((i : Nat) : Int)] W fun e w' => e = .returned (.string (strOf (d.N i))) ∧ Below W.heap.size W w') := fun W i hi hm => by
      rw [hm.now i]
      exact rread_any sa qa d.n sc d.Q.length qc d.steps (lfD d) d.S d.Q i hi W rfl hm.q hm.s (by have := HQ.out; omega)
    clear hh hh2 hy ha2
    go_enter Tryd.func13, Tryd.ntmps13
    go_upto_region 1 with (fail)
    generalize ((w.alloc (.cells (agR sa qa sc qc d) RDT)).alloc (.cells zfr RFT)) = w1 at *
    have c0 := HBx.out.cell 0
    simp [agR] at c0
    go_upto_region 3 with (fail)
    clear c0 h0 h1
    have HR0 : Hid (∀ W, Below w1.heap.size w1 W → Calls Tryd.prog 32 #[.agg (agR sa qa sc qc d), .int .i64 ((kb : Nat) : Int)] W fun e w' => e = .returned (.string (strOf (d.N kb))) ∧ Below W.heap.size W w') := fun W hb => HRr.out W kb (by have := HA2.out; omega) (HM1.out.later hb)
    have HR1 : Hid (∀ W, Below w1.heap.size w1 W → Calls Tryd.prog 32 #[.agg (agR sa qa sc qc d), .int .i64 (((kb : Nat) : Int) + 1)] W fun e w' => e = .returned (.string (strOf (d.N (kb + 1)))) ∧ Below W.heap.size W w') := fun W hb => by
      have := HRr.out W (kb + 1) (by have := HA2.out; omega) (HM1.out.later hb)
      rwa [show (((kb + 1 : Nat)) : Int) = ((kb : Nat) : Int) + 1 by omega] at this
    obtain ⟨RL, hRL⟩ : ∃ RL : List (Nat × ObjL), RL = [(8, PBy (rdL d kb)), (9, PDe (rdL d kb)), (10, PDe (rdL d kb)), (11, PPa (rdL d kb)), (14, PBx w1.heap.size)] := ⟨_, rfl⟩
    obtain ⟨TL, hTL⟩ : ∃ TL : List (Nat × Value), TL = [(0, .agg (agR sa qa sc qc d)), (1, .int .i64 ((kb : Nat) : Int)), (2, .string (strOf (d.N kb))), (3, .agg (agR sa qa sc qc d)), (4, .int .i64 ((kb : Nat) : Int)), (5, .int .i64 (((kb : Nat) : Int) + 1)), (6, .string (strOf (d.N (kb + 1)))), (7, .string (strOf (rdL d kb))), (12, .int .u32 ((rS (rdL d kb) : Nat) : Int)), (13, .int .i64 (rC (rdL d kb)))] := ⟨_, rfl⟩
    have hKB : keysL RL := by intro x hx y hy e; simp only [hRL, List.mem_cons, List.not_mem_nil, or_false] at hx hy; rcases hx with rfl | rfl | rfl | rfl | rfl <;> rcases hy with rfl | rfl | rfl | rfl | rfl <;> first | rfl | (exfalso; simp at e; done) | fail
    have hLB : ∀ x ∈ RL, LaterP x.2 := by intro x hx; simp only [hRL, List.mem_cons, List.not_mem_nil, or_false] at hx; rcases hx with rfl | rfl | rfl | rfl | rfl <;> first | exact later_pby15 _ | exact later_pde _ | exact later_ppa _ | exact later_pbx _ | fail
    refine wp_region_inv (n := 18) [(0, 23), (1, 24), (2, 25), (3, 26), (4, 27), (5, 28), (6, 29), (7, 30), (8, 31), (9, 32), (10, 22), (11, 33), (12, 34), (13, 35), (14, 6), (16, 7), (17, 8)] (DrI RL TL w1 (rdL d kb)) (by kernel_rfl) (by kernel_rfl) (by kernel_rfl) (fun X => by simp only [putL, Act.put, List.setIfInBounds_toArray, List.set_cons_zero, List.set_cons_succ]; rfl) (fun X => .inl ⟨rfl, rfl, rfl, GL.start (Below.refl _ _).drew⟩) ?_ ?_
    · show StepsI _ _ _ _ _ 0 [_, _, _, _, _, _, _, _, _, _, _, _, _, _, _, _, _, _]
      refine ⟨fun D X W hD hd hI Kx hK => ?_, ?_⟩
      · rcases hI with ⟨hA, hA6, hA7, hI⟩ | hR
        case inr =>
          exact absurd (hR.all 0 (by decide) (by decide) (by decide)) (by rw [hD]; simp)
        replace hK := fun v W' (h : GL RL TL w1 (updD D 0) (updV X 0 v) W') => hK v W' (.inl ⟨(updD_ne D 0 (by decide)).trans hA, (updD_ne D 0 (by decide)).trans hA6, (updD_ne D 0 (by decide)).trans hA7, h⟩)
        exact stepO_load_row (by simp [Region.wanted]) RDT (.tmp 2) rfl w.heap.size rfl RDT (agR sa qa sc qc d) (0, 0) _ (HBx.out.later hI.b) Tryd.underlying29 rfl (by kernel_rfl) (hK _ _ (hI.tell hLB 0 _ (Below.refl _ _) (by simp [hRL]) (by simp [hTL])))
      refine ⟨fun D X W hD hd hI Kx hK => ?_, ?_⟩
      · rcases hI with ⟨hA, hA6, hA7, hI⟩ | hR
        case inr =>
          exact absurd (hR.all 1 (by decide) (by decide) (by decide)) (by rw [hD]; simp)
        replace hK := fun v W' (h : GL RL TL w1 (updD D 1) (updV X 1 v) W') => hK v W' (.inl ⟨(updD_ne D 1 (by decide)).trans hA, (updD_ne D 1 (by decide)).trans hA6, (updD_ne D 1 (by decide)).trans hA7, h⟩)
        exact stepO_run (v := .int .i64 ((kb : Nat) : Int)) (w' := W) (by simp [Region.wanted]) (by simp [go_sem, execOp]) (hK _ _ (hI.tell hLB 1 _ (Below.refl _ _) (by simp [hRL]) (by simp [hTL])))
      refine ⟨fun D X W hD hd hI Kx hK => ?_, ?_⟩
      · rcases hI with ⟨hA, hA6, hA7, hI⟩ | hR
        case inr =>
          exact absurd (hR.all 2 (by decide) (by decide) (by decide)) (by rw [hD]; simp)
        replace hK := fun v W' (h : GL RL TL w1 (updD D 2) (updV X 2 v) W') => hK v W' (.inl ⟨(updD_ne D 2 (by decide)).trans hA, (updD_ne D 2 (by decide)).trans hA6, (updD_ne D 2 (by decide)).trans hA7, h⟩)
        have a0 := hI.dt (0, .agg (agR sa qa sc qc d)) (by simp [hTL]) (hd ⟨0, .data⟩ (by simp) rfl)
        have a1 := hI.dt (1, .int .i64 ((kb : Nat) : Int)) (by simp [hTL]) (hd ⟨1, .data⟩ (by simp) rfl)
        refine stepO_call (f := 32) (args := #[.agg (agR sa qa sc qc d), .int .i64 ((kb : Nat) : Int)]) (by simp [Region.wanted]) (by simp [go_sem, execOp, a0, a1]) (HR0.out W hI.b) (fun e W' hr => ⟨_, hr.1, hK _ _ ?_⟩)
        exact hI.tell hLB 2 _ hr.2 (by simp [hRL]) (by simp [hTL])
      refine ⟨fun D X W hD hd hI Kx hK => ?_, ?_⟩
      · rcases hI with ⟨hA, hA6, hA7, hI⟩ | hR
        case inr =>
          exact absurd (hR.all 3 (by decide) (by decide) (by decide)) (by rw [hD]; simp)
        replace hK := fun v W' (h : GL RL TL w1 (updD D 3) (updV X 3 v) W') => hK v W' (.inl ⟨(updD_ne D 3 (by decide)).trans hA, (updD_ne D 3 (by decide)).trans hA6, (updD_ne D 3 (by decide)).trans hA7, h⟩)
        exact stepO_load_row (by simp [Region.wanted]) RDT (.tmp 2) rfl w.heap.size rfl RDT (agR sa qa sc qc d) (0, 0) _ (HBx.out.later hI.b) Tryd.underlying29 rfl (by kernel_rfl) (hK _ _ (hI.tell hLB 3 _ (Below.refl _ _) (by simp [hRL]) (by simp [hTL])))
      refine ⟨fun D X W hD hd hI Kx hK => ?_, ?_⟩
      · rcases hI with ⟨hA, hA6, hA7, hI⟩ | hR
        case inr =>
          exact absurd (hR.all 4 (by decide) (by decide) (by decide)) (by rw [hD]; simp)
        replace hK := fun v W' (h : GL RL TL w1 (updD D 4) (updV X 4 v) W') => hK v W' (.inl ⟨(updD_ne D 4 (by decide)).trans hA, (updD_ne D 4 (by decide)).trans hA6, (updD_ne D 4 (by decide)).trans hA7, h⟩)
        exact stepO_run (v := .int .i64 ((kb : Nat) : Int)) (w' := W) (by simp [Region.wanted]) (by simp [go_sem, execOp]) (hK _ _ (hI.tell hLB 4 _ (Below.refl _ _) (by simp [hRL]) (by simp [hTL])))
      refine ⟨fun D X W hD hd hI Kx hK => ?_, ?_⟩
      · rcases hI with ⟨hA, hA6, hA7, hI⟩ | hR
        case inr =>
          exact absurd (hR.all 5 (by decide) (by decide) (by decide)) (by rw [hD]; simp)
        replace hK := fun v W' (h : GL RL TL w1 (updD D 5) (updV X 5 v) W') => hK v W' (.inl ⟨(updD_ne D 5 (by decide)).trans hA, (updD_ne D 5 (by decide)).trans hA6, (updD_ne D 5 (by decide)).trans hA7, h⟩)
        have a4 := hI.dt (4, .int .i64 ((kb : Nat) : Int)) (by simp [hTL]) (hd ⟨4, .data⟩ (by simp) rfl)
        exact stepO_run (v := .int .i64 (((kb : Nat) : Int) + 1)) (w' := W) (by simp [Region.wanted]) (by simp [go_sem, execOp, a4, ew1]) (hK _ _ (hI.tell hLB 5 _ (Below.refl _ _) (by simp [hRL]) (by simp [hTL])))
      refine ⟨fun D X W hD hd hI Kx hK => ?_, ?_⟩
      · rcases hI with ⟨hA, hA6, hA7, hI⟩ | hR
        case inr =>
          exact absurd (hR.all 6 (by decide) (by decide) (by decide)) (by rw [hD]; simp)
        replace hK := fun v W' (h : GL RL TL w1 (updD D 6) (updV X 6 v) W') => hK v W' (.inl ⟨(updD_ne D 6 (by decide)).trans hA, (updD_ne D 6 (by decide)).trans hA6, (updD_ne D 6 (by decide)).trans hA7, h⟩)
        have a3 := hI.dt (3, .agg (agR sa qa sc qc d)) (by simp [hTL]) (hd ⟨3, .data⟩ (by simp) rfl)
        have a5 := hI.dt (5, .int .i64 (((kb : Nat) : Int) + 1)) (by simp [hTL]) (hd ⟨5, .data⟩ (by simp) rfl)
        refine stepO_call (f := 32) (args := #[.agg (agR sa qa sc qc d), .int .i64 (((kb : Nat) : Int) + 1)]) (by simp [Region.wanted]) (by simp [go_sem, execOp, a3, a5]) (HR1.out W hI.b) (fun e W' hr => ⟨_, hr.1, hK _ _ ?_⟩)
        exact hI.tell hLB 6 _ hr.2 (by simp [hRL]) (by simp [hTL])
      refine ⟨fun D X W hD hd hI Kx hK => ?_, ?_⟩
      · rcases hI with ⟨hA, hA6, hA7, hI⟩ | hR
        case inr =>
          exact absurd (hR.all 7 (by decide) (by decide) (by decide)) (by rw [hD]; simp)
        replace hK := fun v W' (h : GL RL TL w1 (updD D 7) (updV X 7 v) W') => hK v W' (.inl ⟨(updD_ne D 7 (by decide)).trans hA, (updD_ne D 7 (by decide)).trans hA6, (updD_ne D 7 (by decide)).trans hA7, h⟩)
        have a2 := hI.dt (2, .string (strOf (d.N kb))) (by simp [hTL]) (hd ⟨2, .data⟩ (by simp) rfl)
        have a6 := hI.dt (6, .string (strOf (d.N (kb + 1)))) (by simp [hTL]) (hd ⟨6, .data⟩ (by simp) rfl)
        exact stepO_run (v := .string (strOf (rdL d kb))) (w' := W) (by simp [Region.wanted]) (by simp [go_sem, execOp, a2, a6, eap, esz]) (hK _ _ (hI.tell hLB 7 _ (Below.refl _ _) (by simp [hRL]) (by simp [hTL])))
      refine ⟨fun D X W hD hd hI Kx hK => ?_, ?_⟩
      · rcases hI with ⟨hA, hA6, hA7, hI⟩ | hR
        case inr =>
          exact absurd (hR.all 8 (by decide) (by decide) (by decide)) (by rw [hD]; simp)
        replace hK := fun v W' (h : GL RL TL w1 (updD D 8) (updV X 8 v) W') => hK v W' (.inl ⟨(updD_ne D 8 (by decide)).trans hA, (updD_ne D 8 (by decide)).trans hA6, (updD_ne D 8 (by decide)).trans hA7, h⟩)
        have a7 := hI.dt (7, .string (strOf (rdL d kb))) (by simp [hTL]) (hd ⟨7, .data⟩ (by simp) rfl)
        obtain ⟨cap, W', hcv, hc, hb, hy⟩ := HCv.out W
        exact stepO_run (v := .slice (some ⟨W.heap.size, 0, none⟩) 128 cap) (w' := W') (by simp [Region.wanted]) (by simp [go_sem, execOp, a7, hcv]) (hK _ _ (hI.fresh hKB hLB 8 _ (PBy (rdL d kb)) (by simp [hRL]) hb ⟨_, _, rfl, hc, hy⟩ (by simp [hTL])))
      refine ⟨fun D X W hD hd hI Kx hK => ?_, ?_⟩
      · rcases hI with ⟨hA, hA6, hA7, hI⟩ | hR
        case inr =>
          exact absurd (hR.all 9 (by decide) (by decide) (by decide)) (by rw [hD]; simp)
        replace hK := fun v W' (h : GL RL TL w1 (updD D 9) (updV X 9 v) W') => hK v W' (.inl ⟨(updD_ne D 9 (by decide)).trans hA, (updD_ne D 9 (by decide)).trans hA6, (updD_ne D 9 (by decide)).trans hA7, h⟩)
        have r8 := hI.rows (8, PBy (rdL d kb)) (by simp [hRL]) (hd ⟨8, .data⟩ (by simp) rfl)
        obtain ⟨xa, xc, hx, hc, hy⟩ := r8
        have hx2 : X 8 = _ := hx
        refine stepO_call (f := 44) (args := #[.slice xa 128 xc]) (by simp [Region.wanted]) (by simp [go_sem, execOp, hx2]) (rdec_pd xa xc _ HL.out hc hy) (fun e W' hr => ?_)
        obtain ⟨v, he, hp, hb⟩ := hr
        exact ⟨_, he, hK _ _ (hI.fresh hKB hLB 9 _ (PDe (rdL d kb)) (by simp [hRL]) hb hp (by simp [hTL]))⟩
      refine ⟨fun D X W hD hd hI Kx hK => ?_, ?_⟩
      · rcases hI with ⟨hA, hA6, hA7, hI⟩ | hR
        case inr =>
          exact absurd (hR.all 10 (by decide) (by decide) (by decide)) (by rw [hD]; simp)
        replace hK := fun v W' (h : GL RL TL w1 (updD D 10) (updV X 10 v) W') => hK v W' (.inl ⟨(updD_ne D 10 (by decide)).trans hA, (updD_ne D 10 (by decide)).trans hA6, (updD_ne D 10 (by decide)).trans hA7, h⟩)
        have r9 := hI.rows (9, PDe (rdL d kb)) (by simp [hRL]) (hd ⟨9, .data⟩ (by simp) rfl)
        have hp := r9
        obtain ⟨fa, fc, ia, ic, hx, h1⟩ := r9
        have hx2 : X 9 = _ := hx
        exact stepO_run (v := X 9) (w' := W) (by simp [Region.wanted]) (by simp [go_sem, execOp]) (hK _ _ (hI.fresh hKB hLB 10 _ (PDe (rdL d kb)) (by simp [hRL]) (Below.refl _ _) hp (by simp [hTL])))
      refine ⟨fun D X W hD hd hI Kx hK => ?_, ?_⟩
      · rcases hI with ⟨hA, hA6, hA7, hI⟩ | hR
        case inr =>
          exact absurd (hR.all 11 (by decide) (by decide) (by decide)) (by rw [hD]; simp)
        replace hK := fun v W' (h : GL RL TL w1 (updD D 11) (updV X 11 v) W') => hK v W' (.inl ⟨(updD_ne D 11 (by decide)).trans hA, (updD_ne D 11 (by decide)).trans hA6, (updD_ne D 11 (by decide)).trans hA7, h⟩)
        have r10 := hI.rows (10, PDe (rdL d kb)) (by simp [hRL]) (hd ⟨10, .data⟩ (by simp) rfl)
        obtain ⟨fa, fc, ia, ic, hx, h1⟩ := r10
        have hx2 : X 10 = .tuple #[.agg (pcs (rM (rdL d kb)) fa (rM (rdL d kb)).fs.length fc ia (rM (rdL d kb)).is.length ic), .int .u32 ((rS (rdL d kb) : Nat) : Int), .int .i64 (rC (rdL d kb))] := hx
        exact stepO_run (v := .agg (pcs (rM (rdL d kb)) fa (rM (rdL d kb)).fs.length fc ia (rM (rdL d kb)).is.length ic)) (w' := W) (by simp [Region.wanted]) (by simp [go_sem, execOp, hx2]) (hK _ _ (hI.fresh hKB hLB 11 _ (PPa (rdL d kb)) (by simp [hRL]) (Below.refl _ _) ⟨fa, fc, ia, ic, rfl, h1⟩ (by simp [hTL])))
      refine ⟨fun D X W hD hd hI Kx hK => ?_, ?_⟩
      · rcases hI with ⟨hA, hA6, hA7, hI⟩ | hR
        case inr =>
          obtain ⟨t10, k10⟩ := hR.x10
          exact stepO_run (v := .int .u32 ((rS (rdL d kb) : Nat) : Int)) (w' := W) (by simp [Region.wanted]) (by simp [go_sem, execOp, k10]) (hK _ _ (.inr (hR.put 12 _ (by decide) (by decide) (fun _ => rfl) (fun h => absurd h (by decide)) (fun h => absurd h (by decide)) (fun h => absurd h (by decide)))))
        replace hK := fun v W' (h : GL RL TL w1 (updD D 12) (updV X 12 v) W') => hK v W' (.inl ⟨(updD_ne D 12 (by decide)).trans hA, (updD_ne D 12 (by decide)).trans hA6, (updD_ne D 12 (by decide)).trans hA7, h⟩)
        have r10 := hI.rows (10, PDe (rdL d kb)) (by simp [hRL]) (hd ⟨10, .data⟩ (by simp) rfl)
        obtain ⟨fa, fc, ia, ic, hx, h1⟩ := r10
        have hx2 : X 10 = .tuple #[.agg (pcs (rM (rdL d kb)) fa (rM (rdL d kb)).fs.length fc ia (rM (rdL d kb)).is.length ic), .int .u32 ((rS (rdL d kb) : Nat) : Int), .int .i64 (rC (rdL d kb))] := hx
        exact stepO_run (v := .int .u32 ((rS (rdL d kb) : Nat) : Int)) (w' := W) (by simp [Region.wanted]) (by simp [go_sem, execOp, hx2]) (hK _ _ (hI.tell hLB 12 _ (Below.refl _ _) (by simp [hRL]) (by simp [hTL])))
      refine ⟨fun D X W hD hd hI Kx hK => ?_, ?_⟩
      · rcases hI with ⟨hA, hA6, hA7, hI⟩ | hR
        case inr =>
          obtain ⟨t10, k10⟩ := hR.x10
          exact stepO_run (v := .int .i64 (rC (rdL d kb))) (w' := W) (by simp [Region.wanted]) (by simp [go_sem, execOp, k10]) (hK _ _ (.inr (hR.put 13 _ (by decide) (by decide) (fun h => absurd h (by decide)) (fun _ => rfl) (fun h => absurd h (by decide)) (fun h => absurd h (by decide)))))
        replace hK := fun v W' (h : GL RL TL w1 (updD D 13) (updV X 13 v) W') => hK v W' (.inl ⟨(updD_ne D 13 (by decide)).trans hA, (updD_ne D 13 (by decide)).trans hA6, (updD_ne D 13 (by decide)).trans hA7, h⟩)
        have r10 := hI.rows (10, PDe (rdL d kb)) (by simp [hRL]) (hd ⟨10, .data⟩ (by simp) rfl)
        obtain ⟨fa, fc, ia, ic, hx, h1⟩ := r10
        have hx2 : X 10 = .tuple #[.agg (pcs (rM (rdL d kb)) fa (rM (rdL d kb)).fs.length fc ia (rM (rdL d kb)).is.length ic), .int .u32 ((rS (rdL d kb) : Nat) : Int), .int .i64 (rC (rdL d kb))] := hx
        exact stepO_run (v := .int .i64 (rC (rdL d kb))) (w' := W) (by simp [Region.wanted]) (by simp [go_sem, execOp, hx2]) (hK _ _ (hI.tell hLB 13 _ (Below.refl _ _) (by simp [hRL]) (by simp [hTL])))
      refine ⟨fun D X W hD hd hI Kx hK => ?_, ?_⟩
      · rcases hI with ⟨hA, hA6, hA7, hI⟩ | hR
        case inr =>
          exact absurd (hR.all 14 (by decide) (by decide) (by decide)) (by rw [hD]; simp)
        replace hK := fun v W' (h : GL RL TL w1 (updD D 14) (updV X 14 v) W') => hK v W' (.inl ⟨(updD_ne D 14 (by decide)).trans hA, (updD_ne D 14 (by decide)).trans hA6, (updD_ne D 14 (by decide)).trans hA7, h⟩)
        exact stepO_run (v := .pointer (some ⟨W.heap.size, 0, none⟩)) (w' := W.alloc (.cells zpr 36)) (by simp [Region.wanted]) (by simp [go_sem, execOp, zpr]) (hK _ _ (hI.fresh hKB hLB 14 _ (PBx w1.heap.size) (by simp [hRL]) (sup_pc W _) ⟨W.heap.size, rfl, hI.b.size, blo_laid W _ _⟩ (by simp [hTL])))
      refine ⟨fun D X W hD hd hI Kx hK => ?_, ?_⟩
      · rcases hI with ⟨hA, hA6, hA7, hI⟩ | hR
        case inr => have := hR.d15; rw [hD] at this; cases this
        have hall : ∀ j, j ≠ 12 → j ≠ 13 → j < 15 → D j = true := fun j h1 h2 h3 => match j, h1, h2, h3 with
          | 0, _, _, _ => hd ⟨0, .phase⟩ (by simp) rfl
          | 1, _, _, _ => hd ⟨1, .phase⟩ (by simp) rfl
          | 2, _, _, _ => hd ⟨2, .phase⟩ (by simp) rfl
          | 3, _, _, _ => hd ⟨3, .phase⟩ (by simp) rfl
          | 4, _, _, _ => hd ⟨4, .phase⟩ (by simp) rfl
          | 5, _, _, _ => hd ⟨5, .phase⟩ (by simp) rfl
          | 6, _, _, _ => hd ⟨6, .phase⟩ (by simp) rfl
          | 7, _, _, _ => hd ⟨7, .phase⟩ (by simp) rfl
          | 8, _, _, _ => hd ⟨8, .phase⟩ (by simp) rfl
          | 9, _, _, _ => hd ⟨9, .phase⟩ (by simp) rfl
          | 10, _, _, _ => hd ⟨10, .phase⟩ (by simp) rfl
          | 11, _, _, _ => hd ⟨11, .phase⟩ (by simp) rfl
          | 14, _, _, _ => hd ⟨14, .phase⟩ (by simp) rfl
          | 12, h, _, _ => absurd rfl h
          | 13, _, h, _ => absurd rfl h
        have p10 := hI.rows (10, PDe (rdL d kb)) (by simp [hRL]) (hall 10 (by decide) (by decide) (by decide))
        obtain ⟨fa, fc, ia, ic, hx11, hf⟩ := hI.rows (11, PPa (rdL d kb)) (by simp [hRL]) (hall 11 (by decide) (by decide) (by decide))
        obtain ⟨g, hx14, hg, hbx⟩ := hI.rows (14, PBx w1.heap.size) (by simp [hRL]) (hall 14 (by decide) (by decide) (by decide))
        have k11 : X 11 = _ := hx11
        have k14 : X 14 = _ := hx14
        have k12 : D 12 = true → X 12 = .int .u32 ((rS (rdL d kb) : Nat) : Int) := fun h => hI.dt (12, .int .u32 ((rS (rdL d kb) : Nat) : Int)) (by simp [hTL]) h
        have k13 : D 13 = true → X 13 = .int .i64 (rC (rdL d kb)) := fun h => hI.dt (13, .int .i64 (rC (rdL d kb))) (by simp [hTL]) h
        exact stepO_store (by simp [Region.wanted]) 36 (.tmp 6) (.tmp 33) rfl g (pcs (rM (rdL d kb)) fa (rM (rdL d kb)).fs.length fc ia (rM (rdL d kb)).is.length ic) (by simp [go_sem, k14]) (by simp [go_sem, k11]) 36 _ hbx (by kernel_rfl) rfl (by simp [Value.oneCell']) rfl undef (fun _ _ => hK undef _ (.inr (dr_stored hA6 hA7 hall p10 k14 k12 k13 hg hI.b hf hbx)))
      refine ⟨fun D X W hD hd hI Kx hK => ?_, ?_⟩
      · rcases hI with ⟨hA, -⟩ | hR
        case inl => have h5 := hd ⟨15, .chain⟩ (by simp) rfl; rw [hA] at h5; cases h5
        have h4 := hd ⟨12, .data⟩ (by simp) rfl
        have k := hR.x12 h4
        exact stepO_run (v := .int .u32 ((rS (rdL d kb) : Nat) : Int)) (w' := W) (by simp [Region.wanted]) (by simp [go_sem, execOp, k]) (hK _ _ (.inr (hR.put 16 _ (by decide) (by decide) (fun h => absurd h (by decide)) (fun h => absurd h (by decide)) (fun _ => rfl) (fun h => absurd h (by decide)))))
      refine ⟨fun D X W hD hd hI Kx hK => ?_, ?_⟩
      · rcases hI with ⟨hA, hA6, hA7, -⟩ | hR
        case inl => have h5 := hd ⟨16, .chain⟩ (by simp) rfl; rw [hA6] at h5; cases h5
        have h4 := hd ⟨13, .data⟩ (by simp) rfl
        have k := hR.x13 h4
        exact stepO_run (v := .int .i64 (rC (rdL d kb))) (w' := W) (by simp [Region.wanted]) (by simp [go_sem, execOp, k]) (hK _ _ (.inr (hR.put 17 _ (by decide) (by decide) (fun h => absurd h (by decide)) (fun h => absurd h (by decide)) (fun h => absurd h (by decide)) (fun _ => rfl))))
      exact True.intro
    · intro D X W hD hI
      rcases hI with ⟨hA, -⟩ | hR
      case inl => rw [hD 15 (by decide)] at hA; cases hA
      obtain ⟨g6, fa, fc, ia, ic, k14, hg6, hbx6, hpt⟩ := hR.mem
      have k16 := hR.x16 (hD 16 (by decide))
      have k17 := hR.x17 (hD 17 (by decide))
      have HK := Lib.hid (show DrK w d sa qa sc qc g6 (rM (rdL d kb)) fa fc ia ic W from ⟨HBx.out.later hR.below, HFx.out.later hR.below, hbx6, hpt, HB1.out.trans (hR.below.mono HB1.out.size)⟩)
      clear hD hR hg6 hbx6 hpt hKB hLB hRL hTL HR0 HR1 HCv eap esz ew1 HBx HFx HM1 HB1
      rw [k14, k16, k17]
      simp only [List.drop_succ_cons, List.drop_zero]
      clear k14 k16 k17
      go_upto_region 4 with (fail)
      obtain ⟨wq, hwq⟩ : ∃ wq : World, wq = W := ⟨_, rfl⟩
      rw [← hwq] at HK ⊢
      clear hwq
      cases hok : okB (rdL d kb) with
      | false =>
        have e3 : rC (rdL d kb) = 100 := by unfold rC; rw [hok]; rfl
        have HRc := Lib.hid (readC_form hok)
        rw [e3]
        clear hok e3
        refine wp_region_kept (by kernel_rfl) (by kernel_rfl) ?_
        repeat (go_big_quiet_step (fail))
        refine wpQuiet_nil ?_
        rintro W2 ⟨wx, rfl⟩
        have HKx := Lib.hid (HK.out.later wx.below)
        have hres := HKx.out.rx
        clear HK
        go_wp2_with (refine wpList_store_row rfl RFT (.tmp 4) (.tmp 48) rfl (w.heap.size + 1) (zfr) (by first | rfl | simp [go_sem]) (by first | rfl | simp [go_sem]) RFT _ hres (by kernel_rfl) rfl (by simp [Value.oneCell']) ?_)
        (try simp only [Exit.inBlock, Exit.then])
        exact bodyPost_ret (results_row_tmp (p := 4) (u := 5) (ty := RFT) rfl _ _ (w.heap.size + 1) RFT (zfr) _ (by simp) (blo_row hres (zfr)) Tryd.underlying43 rfl (by kernel_rfl)) rfl (drd_no HKx.out.below HRc.out (by decide))
      | true =>
        have hchk := okB_chk hok
        have hgd := good_of hchk
        have e1 : rM (rdL d kb) = rdM d kb := by unfold rM; rw [hok]; rfl
        have e2 : rS (rdL d kb) = sumM (gat (rdL d kb) 8) := by unfold rS; rw [hok]; rfl
        have e3 : rC (rdL d kb) = 0 := by unfold rC; rw [hok]; rfl
        rw [e2, e3]
        rw [e1] at HK
        have HSm : Hid (sumM (gat (rdL d kb) 8) < 4294967296) := sum_gat_lt (by
          intro x hx
          unfold rdL at hx
          rcases List.mem_append.1 hx with h | h
          · exact (HN.out kb).2 x h
          · exact (HN.out (kb + 1)).2 x h)
        have hsz88 : 10 + szF (rdM d kb).fs + (rdM d kb).is.length ≤ 88 := by have := hgd.size; unfold rdM; omega
        have hbl : blF (rdM d kb).fs ≤ szF (rdM d kb).fs := blF_szF _
        have HRc0 : Hid (readC d ((kb : Nat) : Int) = if kb + 2 + rdN (rdM d kb) > d.n then 100 else if crc (lsF (rdF d kb) (rdN (rdM d kb))).flatten ≠ sumM (gat (rdL d kb) 8) then 101 else 0) := by
          show _ = _
          unfold readC
          rw [Int.toNat_natCast, HHs.out, if_neg (by simp), if_neg (by rw [hok]; simp)]
        obtain ⟨m, hm⟩ : ∃ m, rdM d kb = m := ⟨_, rfl⟩
        have HMe := Lib.hid hm
        rw [hm] at HK hsz88 hbl HRc0
        obtain ⟨n2, hn2⟩ : ∃ n2 : Nat, rdN m + 2 = n2 := ⟨_, rfl⟩
        have hn9 : n2 ≤ 90 := by unfold rdN at hn2; omega
        have HBk : Hid (∀ W, DrK w d sa qa sc qc g6 m fa fc ia ic W → Calls Tryd.prog 45 #[part m.e m.c m.i m.p m.x fa m.fs.length fc ia m.is.length ic] W fun en w' => en = .returned (.int .i64 ((n2 : Nat) : Int)) ∧ Below W.heap.size W w') := fun W hk => by
          have h := rblocks_any (w := W) (l := m.fs) m.e m.c m.i m.p m.x fa m.fs.length fc ia m.is.length ic hk.pt.fis rfl (by omega) (by omega)
          have e : 2 + m.is.length + blF m.fs = n2 := by unfold rdN at hn2; omega
          rw [e] at h
          exact h
        have HKp : Hid (∀ y : Kept wq, Calls Tryd.prog 45 #[part m.e m.c m.i m.p m.x fa m.fs.length fc ia m.is.length ic] y.at_ fun en w' => en = .returned (.int .i64 ((n2 : Nat) : Int)) ∧ Below y.at_.heap.size y.at_ w') := fun y => HBk.out y.at_ (HK.out.later y.below)
        have k0 : ∀ x : Kept wq, x.at_.cell? ⟨g6, 0, none⟩ = some (.int .i64 m.e) := fun x => (HK.out.px.later x.below).cell 0
        have k1 : ∀ x : Kept wq, x.at_.cell? ⟨g6, 1, none⟩ = some (.int .i64 m.c) := fun x => (HK.out.px.later x.below).cell 1
        have k2 : ∀ x : Kept wq, x.at_.cell? ⟨g6, 2, none⟩ = some (.int .i64 m.i) := fun x => (HK.out.px.later x.below).cell 2
        have k3 : ∀ x : Kept wq, x.at_.cell? ⟨g6, 3, none⟩ = some (.int .i64 m.p) := fun x => (HK.out.px.later x.below).cell 3
        have k4 : ∀ x : Kept wq, x.at_.cell? ⟨g6, 4, none⟩ = some (.int .i64 m.x) := fun x => (HK.out.px.later x.below).cell 4
        have k5 : ∀ x : Kept wq, x.at_.cell? ⟨g6, 5, none⟩ = some (.slice fa m.fs.length fc) := fun x => (HK.out.px.later x.below).cell 5
        have k6 : ∀ x : Kept wq, x.at_.cell? ⟨g6, 6, none⟩ = some (.slice ia m.is.length ic) := fun x => (HK.out.px.later x.below).cell 6
        have kd : ∀ x : Kept wq, x.at_.cell? ⟨w.heap.size, 0, none⟩ = some (.slice sa d.n sc) := fun x => (HK.out.bx.later x.below).cell 0
        have HN2 := Lib.hid hn2
        clear hchk hgd e1 e2 e3 hok hsz88 hbl hm hn2
        have hkb : kb ≤ 4096 := by have := HA2.out; omega
        by_cases hfit : kb + n2 ≤ d.n
        case neg =>
          have g1 : ((kb : Nat) : Int) + ((n2 : Nat) : Int) > ((d.n : Nat) : Int) := by omega
          have HRc : Hid (readC d ((kb : Nat) : Int) = 100) := by rw [HRc0.out, if_pos (by have := HN2.out; omega)]; rfl
          clear hfit
          refine wp_region_kept (by kernel_rfl) (by kernel_rfl) ?_
          repeat (go_big_quiet_step ((go_at_call 45; with_reducible exact kept_call _ (HKp.out _))))
          refine wpQuiet_nil ?_
          rintro W2 ⟨wx, rfl⟩
          have HKx := Lib.hid (HK.out.later wx.below)
          have hres := HKx.out.rx
          clear HK k0 k1 k2 k3 k4 k5 k6 kd
          go_wp2_with (refine wpList_store_row rfl RFT (.tmp 4) (.tmp 48) rfl (w.heap.size + 1) (zfr) (by first | rfl | simp [go_sem]) (by first | rfl | simp [go_sem]) RFT _ hres (by kernel_rfl) rfl (by simp [Value.oneCell']) ?_)
          (try simp only [Exit.inBlock, Exit.then])
          exact bodyPost_ret (results_row_tmp (p := 4) (u := 5) (ty := RFT) rfl _ _ (w.heap.size + 1) RFT (zfr) _ (by simp) (blo_row hres (zfr)) Tryd.underlying43 rfl (by kernel_rfl)) rfl (drd_no HKx.out.below HRc.out (by decide))
        case pos =>
        have g1 : ¬ ((kb : Nat) : Int) + ((n2 : Nat) : Int) > ((d.n : Nat) : Int) := by omega
        have HFt := Lib.hid hfit
        clear hfit
        refine wp_region_kept (by kernel_rfl) (by kernel_rfl) ?_
        repeat (go_big_quiet_step ((go_at_call 45; with_reducible exact kept_call _ (HKp.out _))))
        refine wpQuiet_nil ?_
        rintro W2 ⟨wx, rfl⟩
        have HKx := Lib.hid (HK.out.later wx.below)
        clear HK k0 k1 k2 k3 k4 k5 k6 kd g1 HKp
        obtain ⟨wc, hwc⟩ : ∃ wc : World, wc = wx.at_ := ⟨_, rfl⟩
        rw [← hwc] at HKx ⊢
        clear hwc
        have c0 := HKx.out.px.cell 0
        have c1 := HKx.out.px.cell 1
        have c2 := HKx.out.px.cell 2
        have c3 := HKx.out.px.cell 3
        have c4 := HKx.out.px.cell 4
        have c5 := HKx.out.px.cell 5
        have c6 := HKx.out.px.cell 6
        simp at c0 c1 c2 c3 c4 c5 c6
        go_upto_region 7 with (fail)
        have HF0 := Lib.hid (blo_laid wc RFT (fdr ((kb : Nat) : Int) m fa fc ia ic (.slice none 0 0)))
        have HK0 := Lib.hid (HKx.out.later (sup_pc wc (.cells (fdr ((kb : Nat) : Int) m fa fc ia ic (.slice none 0 0)) RFT)))
        have HG9 : Hid (w.heap.size + 1 < wc.heap.size) := HKx.out.rx.lt
        clear HKx c0 c1 c2 c3 c4 c5 c6
        generalize wc.alloc (.cells #[.int .i64 ((kb : Nat) : Int), .int .i64 m.e, .int .i64 m.c, .int .i64 m.i, .int .i64 m.p, .int .i64 m.x, .slice fa m.fs.length fc, .slice ia m.is.length ic, .slice none 0 0] RFT) = w3 at *
        generalize wc.heap.size = g9 at *
        have HW3 : Hid (w.heap.size ≤ w3.heap.size) := HK0.out.below.size
        go_wp2_with fail
        go_loopw [10] (fun t wr => ∃ (i j : Nat) (ta : Option Addr) (tc : Nat), j = i + 2 ∧ j ≤ n2 ∧ t = .int .i64 ((j : Nat) : Int) ∧ DrK w d sa qa sc qc g6 m fa fc ia ic wr ∧ Blo wr g9 RFT (fdr ((kb : Nat) : Int) m fa fc ia ic (.slice ta i tc)) ∧ wr.ownsRow w3.heap.size STR 1 (.slice ta i tc) i (cellsS (rdF d kb) i) ∧ w3.heap.size ≤ wr.heap.size) (fun t _ => n2 - (intOf t).toNat)
        case atStart => exact ⟨0, 2, none, 0, rfl, by have := HN2.out; omega, rfl, HK0.out, HF0.out, ⟨by simp [cellsS], .inl ⟨rfl, rfl⟩⟩, Nat.le_refl _⟩
        case round =>
          clear HK0 HF0
          obtain ⟨i, j, ta, tc, hij, hj, rfl, hk, hf, ho, hsz⟩ := hrel
          have HIJ := Lib.hid hij
          have HK := Lib.hid hk
          have HF := Lib.hid hf
          have HO := Lib.hid ho
          have HSz := Lib.hid hsz
          clear hij hk hf ho hsz
          have c0 := HK.out.px.cell 0
          have c1 := HK.out.px.cell 1
          have c2 := HK.out.px.cell 2
          have c3 := HK.out.px.cell 3
          have c4 := HK.out.px.cell 4
          have c5 := HK.out.px.cell 5
          have c6 := HK.out.px.cell 6
          simp at c0 c1 c2 c3 c4 c5 c6
          have HCa := Lib.hid (HBk.out wr HK.out)
          by_cases hlt : j < n2
          · go_wp2_with fail
            refine HCa.out.mono ?_
            rintro e wb ⟨rfl, hbb⟩
            have HK9 := Lib.hid (HK.out.later hbb)
            have HF9 := Lib.hid (HF.out.later hbb)
            have HO9 := Lib.hid (own_later HO.out hbb)
            have HS9 := Lib.hid (Nat.le_trans HSz.out hbb.size)
            clear hbb HK HF HO HSz HCa c0 c1 c2 c3 c4 c5 c6
            have HK := HK9
            clear HK9
            have hft := HFt.out
            have ewj : IntKind.i64.wrap (((kb : Nat) : Int) + ((j : Nat) : Int)) = ((kb : Nat) : Int) + ((j : Nat) : Int) := IntWalk.i64_in _ (by omega)
            have HRj : Hid (∀ W, Below wb.heap.size wb W → Calls Tryd.prog 32 #[.agg (agR sa qa sc qc d), .int .i64 (((kb : Nat) : Int) + ((j : Nat) : Int))] W fun e w' => e = .returned (.string (strOf (d.N (kb + j)))) ∧ Below W.heap.size W w') := fun W hb => by
              have := HRr.out W (kb + j) (by omega) (HM.out.later (HK.out.later hb).below)
              rwa [show ((kb + j : Nat) : Int) = ((kb : Nat) : Int) + ((j : Nat) : Int) by omega] at this
            have HEq : Hid (cellsS (rdF d kb) (i + 1) = cellsS (rdF d kb) i ++ [.string (strOf (d.N (kb + j)))]) := by
              show _ = _
              rw [cellsS_succ]
              unfold rdF
              rw [show kb + 2 + i = kb + j by have := HIJ.out; omega]
            go_upto_region 10 with (fail)
            clear hft
            have hi9 : i + 1 ≤ 1000000 := by have := HIJ.out; omega
            obtain ⟨RL, hRL⟩ : ∃ RL : List (Nat × ObjL), RL = [(7, PSt (d.N (kb + j)))] := ⟨_, rfl⟩
            obtain ⟨TL, hTL⟩ : ∃ TL : List (Nat × Value), TL = [(0, .pointer (some ⟨g9, 8, none⟩)), (1, .slice ta i tc), (2, .agg (agR sa qa sc qc d)), (3, .int .i64 ((kb : Nat) : Int)), (4, .int .i64 ((j : Nat) : Int)), (5, .int .i64 (((kb : Nat) : Int) + ((j : Nat) : Int))), (6, .string (strOf (d.N (kb + j))))] := ⟨_, rfl⟩
            have hKB : keysL RL := by intro x hx y hy e; simp only [hRL, List.mem_cons, List.not_mem_nil, or_false] at hx hy; rcases hx with rfl <;> rcases hy with rfl <;> first | rfl | (exfalso; simp at e; done) | fail
            have hLB : ∀ x ∈ RL, LaterP x.2 := by intro x hx; simp only [hRL, List.mem_cons, List.not_mem_nil, or_false] at hx; rcases hx with rfl; exact later_pst _
            refine wp_region_inv (n := 9) [(0, 58), (1, 59), (2, 60), (3, 61), (4, 62), (5, 63), (6, 64), (7, 65), (8, 66)] (ApI RL TL wb i (fun v W => DrA w d sa qa sc qc g6 m fa fc ia ic g9 w3 kb i ta tc v W)) (by kernel_rfl) (by kernel_rfl) (by kernel_rfl) (fun X => by simp only [putL, Act.put, List.setIfInBounds_toArray, List.set_cons_zero, List.set_cons_succ]; rfl) (fun X => .inl ⟨rfl, clA_start, GL.start (Below.refl _ _).drew⟩) ?_ ?_
            · show StepsI _ _ _ _ _ 0 [_, _, _, _, _, _, _, _, _]
              refine ⟨fun D X W hD hd hI Kx hK => ?_, ?_⟩
              · rcases hI with ⟨hA, hC, hI⟩ | hB
                case inr => exact absurd (hB.2.1 0 (by decide)) (by rw [hD]; simp)
                replace hK := fun v W' (h : GL RL TL wb (updD D 0) (updV X 0 v) W') => hK v W' (.inl ⟨(updD_ne D 0 (by decide)).trans hA, hC.put 0 (fun e => absurd e (by decide)) (fun e => absurd e (by decide)) (fun e => absurd e (by decide)) (fun e => absurd e (by decide)), h⟩)
                exact stepO_run (v := .pointer (some ⟨g9, 8, none⟩)) (w' := W) (by simp [Region.wanted]) (by simp [go_sem, execOp]) (hK _ _ (hI.tell hLB 0 _ (Below.refl _ _) (by simp [hRL]) (by simp [hTL])))
              refine ⟨fun D X W hD hd hI Kx hK => ?_, ?_⟩
              · rcases hI with ⟨hA, hC, hI⟩ | hB
                case inr => exact absurd (hB.2.1 1 (by decide)) (by rw [hD]; simp)
                replace hK := fun v W' (h : GL RL TL wb (updD D 1) (updV X 1 v) W') => hK v W' (.inl ⟨(updD_ne D 1 (by decide)).trans hA, hC.put 1 (fun _ => hd ⟨0, .data⟩ (by simp) rfl) (fun e => absurd e (by decide)) (fun e => absurd e (by decide)) (fun e => absurd e (by decide)), h⟩)
                have a0 := hI.dt (0, .pointer (some ⟨g9, 8, none⟩)) (by simp [hTL]) (hd ⟨0, .data⟩ (by simp) rfl)
                have hc8 := (HF9.out.later hI.b).cell 8
                simp at hc8
                exact stepO_run (v := .slice ta i tc) (w' := W) (by simp [Region.wanted]) (by simp [go_sem, execOp, a0, hc8]) (hK _ _ (hI.tell hLB 1 _ (Below.refl _ _) (by simp [hRL]) (by simp [hTL])))
              refine ⟨fun D X W hD hd hI Kx hK => ?_, ?_⟩
              · rcases hI with ⟨hA, hC, hI⟩ | hB
                case inr => exact absurd (hB.2.1 2 (by decide)) (by rw [hD]; simp)
                replace hK := fun v W' (h : GL RL TL wb (updD D 2) (updV X 2 v) W') => hK v W' (.inl ⟨(updD_ne D 2 (by decide)).trans hA, hC.put 2 (fun e => absurd e (by decide)) (fun e => absurd e (by decide)) (fun e => absurd e (by decide)) (fun e => absurd e (by decide)), h⟩)
                exact stepO_load_row (by simp [Region.wanted]) RDT (.tmp 2) rfl w.heap.size rfl RDT (agR sa qa sc qc d) (0, 0) _ (HK.out.bx.later hI.b) Tryd.underlying29 rfl (by kernel_rfl) (hK _ _ (hI.tell hLB 2 _ (Below.refl _ _) (by simp [hRL]) (by simp [hTL])))
              refine ⟨fun D X W hD hd hI Kx hK => ?_, ?_⟩
              · rcases hI with ⟨hA, hC, hI⟩ | hB
                case inr => exact absurd (hB.2.1 3 (by decide)) (by rw [hD]; simp)
                replace hK := fun v W' (h : GL RL TL wb (updD D 3) (updV X 3 v) W') => hK v W' (.inl ⟨(updD_ne D 3 (by decide)).trans hA, hC.put 3 (fun e => absurd e (by decide)) (fun e => absurd e (by decide)) (fun e => absurd e (by decide)) (fun e => absurd e (by decide)), h⟩)
                exact stepO_run (v := .int .i64 ((kb : Nat) : Int)) (w' := W) (by simp [Region.wanted]) (by simp [go_sem, execOp]) (hK _ _ (hI.tell hLB 3 _ (Below.refl _ _) (by simp [hRL]) (by simp [hTL])))
              refine ⟨fun D X W hD hd hI Kx hK => ?_, ?_⟩
              · rcases hI with ⟨hA, hC, hI⟩ | hB
                case inr => exact absurd (hB.2.1 4 (by decide)) (by rw [hD]; simp)
                replace hK := fun v W' (h : GL RL TL wb (updD D 4) (updV X 4 v) W') => hK v W' (.inl ⟨(updD_ne D 4 (by decide)).trans hA, hC.put 4 (fun e => absurd e (by decide)) (fun e => absurd e (by decide)) (fun e => absurd e (by decide)) (fun e => absurd e (by decide)), h⟩)
                exact stepO_run (v := .int .i64 ((j : Nat) : Int)) (w' := W) (by simp [Region.wanted]) (by simp [go_sem, execOp]) (hK _ _ (hI.tell hLB 4 _ (Below.refl _ _) (by simp [hRL]) (by simp [hTL])))
              refine ⟨fun D X W hD hd hI Kx hK => ?_, ?_⟩
              · rcases hI with ⟨hA, hC, hI⟩ | hB
                case inr => exact absurd (hB.2.1 5 (by decide)) (by rw [hD]; simp)
                replace hK := fun v W' (h : GL RL TL wb (updD D 5) (updV X 5 v) W') => hK v W' (.inl ⟨(updD_ne D 5 (by decide)).trans hA, hC.put 5 (fun e => absurd e (by decide)) (fun _ => ⟨hd ⟨3, .data⟩ (by simp) rfl, hd ⟨4, .data⟩ (by simp) rfl⟩) (fun e => absurd e (by decide)) (fun e => absurd e (by decide)), h⟩)
                have a3 := hI.dt (3, .int .i64 ((kb : Nat) : Int)) (by simp [hTL]) (hd ⟨3, .data⟩ (by simp) rfl)
                have a4 := hI.dt (4, .int .i64 ((j : Nat) : Int)) (by simp [hTL]) (hd ⟨4, .data⟩ (by simp) rfl)
                exact stepO_run (v := .int .i64 (((kb : Nat) : Int) + ((j : Nat) : Int))) (w' := W) (by simp [Region.wanted]) (by simp [go_sem, execOp, a3, a4, ewj]) (hK _ _ (hI.tell hLB 5 _ (Below.refl _ _) (by simp [hRL]) (by simp [hTL])))
              refine ⟨fun D X W hD hd hI Kx hK => ?_, ?_⟩
              · rcases hI with ⟨hA, hC, hI⟩ | hB
                case inr => exact absurd (hB.2.1 6 (by decide)) (by rw [hD]; simp)
                replace hK := fun v W' (h : GL RL TL wb (updD D 6) (updV X 6 v) W') => hK v W' (.inl ⟨(updD_ne D 6 (by decide)).trans hA, hC.put 6 (fun e => absurd e (by decide)) (fun e => absurd e (by decide)) (fun _ => ⟨hd ⟨2, .data⟩ (by simp) rfl, hd ⟨5, .data⟩ (by simp) rfl⟩) (fun e => absurd e (by decide)), h⟩)
                have a2 := hI.dt (2, .agg (agR sa qa sc qc d)) (by simp [hTL]) (hd ⟨2, .data⟩ (by simp) rfl)
                have a5 := hI.dt (5, .int .i64 (((kb : Nat) : Int) + ((j : Nat) : Int))) (by simp [hTL]) (hd ⟨5, .data⟩ (by simp) rfl)
                refine stepO_call (f := 32) (args := #[.agg (agR sa qa sc qc d), .int .i64 (((kb : Nat) : Int) + ((j : Nat) : Int))]) (by simp [Region.wanted]) (by simp [go_sem, execOp, a2, a5]) (HRj.out W hI.b) (fun e W' hr => ⟨_, hr.1, hK _ _ ?_⟩)
                exact hI.tell hLB 6 _ hr.2 (by simp [hRL]) (by simp [hTL])
              refine ⟨fun D X W hD hd hI Kx hK => ?_, ?_⟩
              · rcases hI with ⟨hA, hC, hI⟩ | hB
                case inr => exact absurd (hB.2.1 7 (by decide)) (by rw [hD]; simp)
                replace hK := fun v W' (h : GL RL TL wb (updD D 7) (updV X 7 v) W') => hK v W' (.inl ⟨(updD_ne D 7 (by decide)).trans hA, hC.put 7 (fun e => absurd e (by decide)) (fun e => absurd e (by decide)) (fun e => absurd e (by decide)) (fun _ => hd ⟨6, .data⟩ (by simp) rfl), h⟩)
                have a6 := hI.dt (6, .string (strOf (d.N (kb + j)))) (by simp [hTL]) (hd ⟨6, .data⟩ (by simp) rfl)
                exact stepO_run (v := .slice (some ⟨W.heap.size, 0, none⟩) 1 1) (w' := W.alloc (.cells #[.string (strOf (d.N (kb + j)))] STR)) (by simp [Region.wanted]) (by simp [go_sem, execOp, a6]) (hK _ _ (hI.fresh hKB hLB 7 _ (PSt (d.N (kb + j))) (by simp [hRL]) (sup_pc W _) ⟨W.heap.size, rfl, blo_laid W _ _⟩ (by simp [hTL])))
              refine ⟨fun D X W hD hd hI Kx hK => ?_, ?_⟩
              · rcases hI with ⟨hA, hC, hI⟩ | hB
                case inr => have := hB.1; rw [hD] at this; cases this
                have d7 := hd ⟨7, .data⟩ (by simp) rfl
                have d1 := hd ⟨1, .data⟩ (by simp) rfl
                have hall := hC.all d1 d7
                have a1 := hI.dt (1, .slice ta i tc) (by simp [hTL]) d1
                have a1b : X 1 = .slice ta i tc := a1
                obtain ⟨gs, hx7, hb7⟩ := hI.rows (7, PSt (d.N (kb + j))) (by simp [hRL]) d7
                have a7b : X 7 = .slice (some ⟨gs, 0, none⟩) 1 1 := hx7
                refine stepO_append (by simp [Region.wanted]) (.tmp 59) (.tmp 65) 26 rfl w3.heap.size STR (.string ByteArray.empty) 1 16 Tryd.underlying26 info_str (by kernel_rfl) (by decide) (by decide) (.slice ta i tc) i _ (by simp [go_sem, a1b]) (own_later HO9.out hI.b) (some ⟨gs, 0, none⟩) 1 1 [.string (strOf (d.N (kb + j)))] (by simp [go_sem, a7b]) rfl (blo_src1 hb7) (by simp [Value.oneCell']) (fun h => by cases h) hi9 (Nat.le_trans HS9.out hI.b.size) ?_
                intro v' W' hown hgr _
                exact hK _ _ (.inr ⟨updD_at D 8, fun j hj => updD_upO (hall j hj), dr_grown HEq.out (HK.out.later hI.b) (HF9.out.later hI.b) (own_later HO9.out hI.b) (Nat.le_trans HS9.out hI.b.size) HW3.out (by rw [updV_at]; exact hown) hgr⟩)
              exact True.intro
            · intro D X W hD hI
              rcases hI with ⟨hA, -⟩ | ⟨-, -, hM8⟩
              case inl => rw [hD 8 (by decide)] at hA; cases hA
              obtain ⟨a5, c5, hx8, hk5, hf5, ho5, hs5⟩ := hM8
              have a8b : X 8 = .slice a5 (i + 1) c5 := hx8
              have HK5 := Lib.hid hk5
              have HF5 := Lib.hid hf5
              have HO5 := Lib.hid ho5
              have HS5 := Lib.hid hs5
              clear hD hx8 hk5 hf5 ho5 hs5 hKB hLB hRL hTL HK HF9 HO9 HS9 HRj ewj
              rw [a8b]
              simp only [List.drop_succ_cons, List.drop_zero]
              clear a8b
              have q8 := HF5.out.frozen 8
              have p8 := HF5.out.cell 8
              simp at p8
              go_wp2_with fail
              go_roundw
              case rel => exact ⟨i + 1, j + 1, a5, c5, by have := HIJ.out; omega, by omega, by simp, HK5.out.set HF5.out HG9.out 8 _, HF5.out.put 8 _, own_far HO5.out (p := ⟨g9, 8, none⟩) (HF5.out.row_apart HO5.out (by decide)) _, by simpa using HS5.out⟩
              case measure => simp [intOf]; omega
          · have HI2 : Hid (rdN m = i) := by show _ = _; have := HN2.out; have := HIJ.out; omega
            go_wp2_with fail
            refine HCa.out.mono ?_
            rintro e wb ⟨rfl, hbb⟩
            have HK9 := Lib.hid (HK.out.later hbb)
            have HF9 := Lib.hid (HF.out.later hbb)
            have HO9 := Lib.hid (own_later HO.out hbb)
            clear hbb HK HF HO HSz HCa c0 c1 c2 c3 c4 c5 c6
            have c8 := HF9.out.cell 8
            simp at c8
            have HSu := Lib.hid (dsum_any (w := wb) ta i tc (lsF (rdF d kb) i) (lsF_length _ _).symm (by have := HIJ.out; omega) (by rw [cellsS_congr i (fun q hq => lsF_get (rdF d kb) hq)]; exact Rds.own HO9.out) (lsF_byte (fun q => (HN.out (kb + 2 + q)).2) i) (fun l hl => by
              obtain ⟨q, _, rfl⟩ := List.mem_map.1 hl
              exact Nat.le_of_eq (HN.out (kb + 2 + q)).1))
            go_wp2_with fail
            refine HSu.out.mono ?_
            rintro e wd ⟨rfl, hbd⟩
            have HKd := Lib.hid (HK9.out.later hbd)
            have HFd := Lib.hid (HF9.out.later hbd)
            have HOd := Lib.hid (own_later HO9.out hbd)
            have HRi : Hid (readC d ((kb : Nat) : Int) = if crc (lsF (rdF d kb) i).flatten ≠ sumM (gat (rdL d kb) 8) then 101 else 0) := by
              show _ = _
              rw [HRc0.out, if_neg (by have := HN2.out; have := HFt.out; omega), HI2.out]
            clear hbd HSu HK9 HF9 HO9 c8 HRc0
            generalize crc (lsF (rdF d kb) i).flatten = cv at *
            generalize sumM (gat (rdL d kb) 8) = sv at *
            have hres := HKd.out.rx
            have hres9 := HFd.out
            by_cases hc : cv = sv
            · subst hc
              have HR0 : Hid (readC d ((kb : Nat) : Int) = 0) := by show _ = _; rw [HRi.out, if_neg (fun h => h rfl)]
              clear HRi
              go_wp2_with (first | (refine wpList_load_row rfl RFT (.tmp 9) rfl g9 rfl RFT (fdr ((kb : Nat) : Int) m fa fc ia ic (.slice ta i tc)) (0, 0) _ hres9 Tryd.underlying43 rfl (by kernel_rfl) ?_) | (refine wpList_store_row rfl RFT (.tmp 4) (.tmp 74) rfl (w.heap.size + 1) (fdr ((kb : Nat) : Int) m fa fc ia ic (.slice ta i tc)) (by first | rfl | simp [go_sem]) (by first | rfl | simp [go_sem]) RFT _ hres (by kernel_rfl) rfl (by simp [Value.oneCell']) ?_))
              (try simp only [Exit.inBlock, Exit.then])
              exact bodyPost_ret (results_row_tmp (p := 4) (u := 5) (ty := RFT) rfl _ _ (w.heap.size + 1) RFT (fdr ((kb : Nat) : Int) m fa fc ia ic (.slice ta i tc)) _ (by simp) (blo_row hres (fdr ((kb : Nat) : Int) m fa fc ia ic (.slice ta i tc))) Tryd.underlying43 rfl (by kernel_rfl)) rfl (drd_yes HKd.out HOd.out HMe.out HI2.out HR0.out)
            · have HR0 : Hid (readC d ((kb : Nat) : Int) = 101) := by show _ = _; rw [HRi.out, if_pos hc]
              have q1 : (((cv : Nat) : Int) != ((sv : Nat) : Int)) = true := by
                rw [bne_iff_ne]
                omega
              clear HRi hc
              go_wp2_with (refine wpList_store_row rfl RFT (.tmp 4) (.tmp 73) rfl (w.heap.size + 1) (zfr) (by first | rfl | simp [go_sem]) (by first | rfl | simp [go_sem]) RFT _ hres (by kernel_rfl) rfl (by simp [Value.oneCell']) ?_)
              (try simp only [Exit.inBlock, Exit.then])
              exact bodyPost_ret (results_row_tmp (p := 4) (u := 5) (ty := RFT) rfl _ _ (w.heap.size + 1) RFT (zfr) _ (by simp) (blo_row hres (zfr)) Tryd.underlying43 rfl (by kernel_rfl)) rfl (drd_no HKd.out.below HR0.out (by decide))
end Go.Proofs.YtlkgaefabahkoaaDoor
/-
  Partial segments, for the laws: texts of any lists of bytes.
-/
namespace Go.Proofs.YtlkgaefabahkoaaDoor
open Go.RowKit

section
variable {w w' W : World} {L0 : Dl} {d : Dm} {n : Nat}
theorem lists_lsk {a : Option Addr} {A : Nat → Option Addr} {C : Nat → Nat} {ls : List (List Nat)} (hL : Lists w a n A C ls) (hb : Below w.heap.size w W) (hD : Dk w.heap.size W L0 d) : Lsk W L0 a n A C ls := by
  refine ⟨hL.below hb, fun b o hn ha hx => ?_, fun i b o hi ha hne hx => ?_⟩
  · obtain ⟨b', o', ha', hc⟩ := hL.at_ hn
    rw [ha] at ha'
    cases ha'
    have h1 := World.block_lt_of_cell? w _ (hc 0 (by omega))
    have h2 := (hD.has_lt hx).1
    simp at h1
    omega
  · obtain ⟨b', o', ha', hc⟩ := (hL.each i hi).1.2.2 hne
    rw [ha] at ha'
    cases ha'
    have hp : 0 < (nthL ls i).length := List.length_pos_iff.2 hne
    have h1 := World.block_lt_of_cell? w _ (hc 0 hp)
    have h2 := (hD.has_lt hx).1
    simp at h1
    omega
set_option maxHeartbeats 2000000 in
theorem ltexts_any {ba : Option Addr} {bc : Nat} {A : Nat → Option Addr} {C : Nat → Nat} {L : List (List Nat)} (hR : Lists w ba n A C L) (hn : n ≤ 100000) :
    Calls Tryd.prog 19 #[.slice ba n bc] w (TxsO w n (nthL L)) := by
  have HR := Lib.hid hR
  have HT0 : Hid (TxsR w (nthL L) 0 (.slice none 0 0) w) := ⟨⟨by simp [cellsS], .inl ⟨rfl, rfl⟩⟩, Below.refl _ _⟩
  clear hR
  go_enter Tryd.func19, Tryd.ntmps19
  go_wp2_with fail
  go_loopw [3, 8] (fun v t wr => ∃ k : Nat, k ≤ n ∧ t = .int .i64 k ∧ TxsR w (nthL L) k v wr) (fun _ t _ => n - (intOf t).toNat)
  case atStart => exact ⟨0, Nat.zero_le _, rfl, HT0.out⟩
  case round =>
    clear HT0
    obtain ⟨k, hk, rfl, hown, hbw⟩ := hrel
    obtain ⟨va, vc, rfl, _⟩ := own_slice hown
    have HO := Lib.hid hown
    have HW := Lib.hid hbw
    clear hown hbw
    by_cases hlt : k < n
    · have HR2 := Lib.hid (HR.out.below HW.out)
      obtain ⟨b, o, rfl, hc⟩ := HR2.out.at_ (by omega)
      have hck := hc k hlt
      have HBk := Lib.hid (HR2.out.each k hlt)
      have hcv : ∀ W, Below wr.heap.size wr W → (convert 49 9 (.slice (A k) (nthL L k).length (C k))).run Tryd.prog W = .ok (.string (strOf (nthL L k))) W := fun W hb => run_str W 49 9 5 Tryd.underlying49 Tryd.underlying5 Tryd.underlying9 (nthL L k) (A k) _ (C k) rfl (HBk.out.1.below hb)
      have hcv0 := hcv wr (Below.refl _ _)
      have hz2 : w.heap.size ≤ wr.heap.size := HW.out.size
      have k1 : (k : Int) < (n : Int) := by omega
      clear hc hcv
      go_wp2_with (at_builtin; refine wp_append_rowO rfl (.tmp 12) (.tmp 15) 26 rfl w.heap.size STR _ 1 16 Tryd.underlying26 info_str (by kernel_rfl) (by decide) (by decide) (.slice va k vc) k _ rfl (own_later HO.out (sup_pc wr _)) (some ⟨wr.heap.size, 0, none⟩) 1 1 [.string (strOf (nthL L k))] rfl rfl (laid_srcO wr STR _ _ rfl) str_wf (fun e => by cases e) (by omega) (by simp; omega) ?_; intro a6 c6 w6 hown hgrow hat; have HO6 : Hid (w6.ownsRow w.heap.size STR 1 (.slice a6 (k + 1) c6) (k + 1) (cellsS (nthL L) (k + 1))) := (by show World.ownsRow _ _ _ _ _ _ _; rw [cellsS_succ]; exact hown); have HW6 := Lib.hid ((HW.out.alloc HW.out.size (.cells #[.string (strOf (nthL L k))] STR)).grown hgrow (by simp; omega) (fun b hb => (own_lt HO.out hb).1)); clear hown hgrow hat)
      clear hcv0 hck HBk HR2 HO HW
      go_roundw
      case rel => exact ⟨k + 1, hlt, by simp, HO6.out, HW6.out⟩
      case measure => simp [intOf]; omega
    · obtain rfl : n = k := by omega
      have HE : Hid (TxsO w n (nthL L) (.returned (.slice va n vc)) wr) := ⟨va, vc, rfl, Rds.own HO.out, HW.out⟩
      clear HO HW
      go_wp2
      go_ret
      exact HE.out
end
end Go.Proofs.YtlkgaefabahkoaaDoor
/-
  A slice of pieces that came in, opened.
-/
namespace Go.Proofs.YtlkgaefabahkoaaDoor
open Go.RowKit

section
open Go.ChangeShapes Go.WideShapes Go.ChangeAt
theorem nine {l : List Value} (h : l.length = 9) : ∃ c0 c1 c2 c3 c4 c5 c6 c7 c8, l = [c0, c1, c2, c3, c4, c5, c6, c7, c8] := by
  match l, h with
  | [c0, c1, c2, c3, c4, c5, c6, c7, c8], _ => exact ⟨c0, c1, c2, c3, c4, c5, c6, c7, c8, rfl⟩
theorem open_pieces {H : Type} {enc : TypeId × Value → H} {w : World} {base : Nat} {a : Option Addr} {n cp : Nat} {d : DataW H} {p : List MemPlace}
    (h : DataW.Trod enc Tryd.prog w base (fun _ => true) true 22 (.slice a n cp) d p) : ∃ K : Nat → Pz, n ≤ 9223372036854775807 ∧ Pzs w a n K := by
  have hm0 : (maxLen : Nat) = 9223372036854775807 := by decide
  have hc9 : Tryd.prog.cellsOf 51 = 9 := by kernel_rfl
  obtain ⟨fuel, hf⟩ := h
  rcases Go.Deep.open_slice Tryd.underlying22 hf with ⟨h1, _⟩ | ⟨a1, len, cap, m, k, D, Pl, h1, _, hl, hm, hmm, _, hi⟩
  · simp [Value.cells] at h1
    obtain ⟨rfl, rfl, rfl⟩ := h1
    exact ⟨fun _ => ⟨0, ⟨0, 0, 0, 0, 0, [], []⟩, none, 0, 0, none, 0, 0, none, 0, 0, []⟩, by decide, ⟨fun i hi => by omega, fun i hi => by omega⟩⟩
  · simp [Value.cells] at h1
    obtain ⟨rfl, rfl, rfl⟩ := h1
    have hlm : n ≤ m := by rw [hmm]; split <;> omega
    have each : ∀ i, i < n → ∃ p : Pz, (∀ j u, (pzA p)[j]? = some u → w.cell? (a1.add (i * 9 + j)) = some u) ∧ PieceIn w p.ad p.m p.fa p.fn p.fc p.ia p.inn p.ic p.da p.dn p.dc p.dt := fun i hin => by
      obtain ⟨cs, hc, ht⟩ := hi i (by omega)
      obtain ⟨_, hcl, hat⟩ := World.cells?_some hc
      rw [hc9] at hcl hat
      obtain ⟨c0, c1, c2, c3, c4, c5, c6, c7, c8, rfl⟩ := nine hcl
      obtain ⟨ad, m, fa, fn, fc, ia, inn, ic, da, dn, dc, dt, e, hP⟩ := piece_of_trod ht
      refine ⟨⟨ad, m, fa, fn, fc, ia, inn, ic, da, dn, dc, dt⟩, fun j u hj => ?_, hP⟩
      have hj9 : j < 9 := (Array.getElem?_eq_some_iff.1 hj).1
      have h2 := hat j (by omega)
      rw [Go.Deep.add_add] at h2
      rw [h2, e, Array.getElem?_toList]
      exact hj
    haveI : Inhabited Pz := ⟨⟨0, ⟨0, 0, 0, 0, 0, [], []⟩, none, 0, 0, none, 0, 0, none, 0, 0, []⟩⟩
    obtain ⟨K, hK⟩ := Go.Deep.choose_lt (α := Pz) (p := fun i p => (∀ j u, (pzA p)[j]? = some u → w.cell? (a1.add (i * 9 + j)) = some u) ∧ PieceIn w p.ad p.m p.fa p.fn p.fc p.ia p.inn p.ic p.da p.dn p.dc p.dt) each
    refine ⟨K, by omega, ⟨fun i hin => ?_, fun i hin => (hK i hin).2⟩⟩
    obtain ⟨b, o, spot⟩ := a1
    have h0 := (hK 0 (by omega)).1 0 _ rfl
    have hspot : spot = none := by simpa [Addr.add] using World.cell?_spot h0
    subst hspot
    refine ⟨b, o, rfl, fun j u hj => ?_⟩
    have := (hK i hin).1 j u hj
    rw [Addr.add_lit] at this
    rw [← Nat.add_assoc] at this
    exact this
/-- A slice of slices of bytes that came in. -/
theorem open_lists {H : Type} {enc : TypeId × Value → H} {w : World} {base : Nat} {a : Option Addr} {n cp : Nat} {d : DataW H} {p : List MemPlace}
    (h : DataW.Trod enc Tryd.prog w base (fun _ => true) true 23 (.slice a n cp) d p) : ∃ (A : Nat → Option Addr) (C : Nat → Nat) (L : List (List Nat)), Lists w a n A C L := by
  obtain ⟨fuel, hf⟩ := h
  obtain ⟨a1, n1, cap1, A, C, L, e, hL⟩ := lists_of_trod Tryd.underlying23 (by kernel_rfl) Tryd.underlying49 (by kernel_rfl) Tryd.underlying5 hf
  simp [Value.cells] at e
  obtain ⟨rfl, rfl, rfl⟩ := e
  exact ⟨A, C, L, hL⟩
end
end Go.Proofs.YtlkgaefabahkoaaDoor
