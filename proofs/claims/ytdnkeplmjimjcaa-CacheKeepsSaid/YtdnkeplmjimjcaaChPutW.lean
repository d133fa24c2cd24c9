/-
  Put: the walk.
-/
import Derived.Test.YtdnkeplmjimjcaaChPut
namespace Go.Proofs.Ytdnkeplmjimjcaa
open Go.RowKit

theorem szU8 : (Try.prog.info? U8).map (·.size) = some 1 := by kernel_rfl
section
variable {w w' : World} {bc bm base b : Nat} {room uses : Int} {N T T' : Nat} {x : Sx} {a : Int} {s : Bf} {v : Value} {p : Int × Int} {L L' : List Bk} {sa : Option Addr} {l : List Nat} {sc : Nat} {d : Bool}
/-- Put of other than a block. -/
theorem put_bad (hl : l.length ≠ 64) (h : CA w bc bm base room N T L) (n : Nat) (hn : n = l.length) (hn2 : n ≤ 1000000) :
    Calls Try.prog 23 #[.pointer (some ⟨bc, 0, none⟩), keyV p, .slice sa n sc, .bool d] w (CcO w bc bm base room (N + 1) (T + 1) (putK room L p l d).1 (.int .i64 (putK room L p l d).2)) := by
  have e : putK room L p l d = (L, 22) := by unfold putK; rw [if_pos hl]
  rw [e]
  obtain ⟨ki, kl⟩ := p
  have HE : Hid (∀ w', Below w.heap.size w w' → CcO w bc bm base room (N + 1) (T + 1) L (.int .i64 22) (.returned (.int .i64 22)) w') := fun w' hb => ⟨rfl, (h.later hb).mono (by omega) (by omega), Out.of_below hb⟩
  have HB := Lib.hid (sup_pc9 w (.cells #[.int .i64 ki, .int .i64 kl] KT))
  have e1 : (((n : Nat) : Int) != 64) = true := by rw [bne_iff_ne]; omega
  clear hl hn hn2 h e
  unfold keyV
  go_enter Try.func23, Try.ntmps23
  go_wp2_with fail
  go_ret
  exact HE.out _ HB.out
set_option maxRecDepth 100000 in
set_option maxHeartbeats 8000000 in
theorem put_old (hC : CS w bc bm base room N T x) (hp : wfK p) (hq : x.f p = some b) (hl : l.length = 64) (hD : DIn w bc bm base sa l) (hT : T ≤ 4000000000000000000) :
    Calls Try.prog 23 #[.pointer (some ⟨bc, 0, none⟩), keyV p, .slice sa 64 sc, .bool d] w (CcO w bc bm base room N (T + 1) (woK (lstK x.S x.bs) p ++ [⟨p, gd l, (x.S b).dirty || d, (x.S b).pins⟩]) (.int .i64 0)) := by
    obtain ⟨hb, hpb⟩ := (hC.ps.key p b).1 hq
    obtain ⟨ki, kl⟩ := p
    obtain ⟨-, d1, -, -⟩ := hC.cb.cell
    obtain ⟨w1, hw1⟩ : ∃ w1, w1 = w.alloc (.cells #[.int .i64 ki, .int .i64 kl] KT) := ⟨_, rfl⟩
    have HB1 : Hid (Below w.heap.size w w1) := by rw [hw1]; exact sup_pc9 w _
    have hX : Blo w1 w.heap.size KT #[.int .i64 ki, .int .i64 kl] := by rw [hw1]; exact blo_laid w _ _
    have c0 : ∀ y : Kept w1, y.at_.cell? ⟨w.heap.size, 0, none⟩ = some (.int .i64 ki) := fun y => cell_later y.below (Blo.cell hX 0)
    have c1 : ∀ y : Kept w1, y.at_.cell? ⟨w.heap.size, 1, none⟩ = some (.int .i64 kl) := fun y => cell_later y.below (Blo.cell hX 1)
    have c2 : ∀ y : Kept w1, y.at_.cell? ⟨bc, 1, none⟩ = some (.map (some bm)) := fun y => cell_later y.below (cell_later HB1.out d1)
    have k1 : ∀ y : Kept w1, (Instr.lookup KMT (.map (some bm)) (.agg #[.int .i64 ki, .int .i64 kl]) true).run Try.prog y.at_ = .ok (.tuple #[.pointer (some ⟨b, 0, none⟩), .bool true]) y.at_ := fun y => by
      have := (hC.km.later (HB1.out.trans (y.below.mono HB1.out.size))).look_ok hp
      rw [hq] at this
      exact this
    have HC := Lib.hid hC
    have HI := Lib.hid (And.intro hb hpb)
    have HD := Lib.hid hD
    have HL64 := Lib.hid hl
    have HLen : Hid ((cellsB l).length = 64 * 1) := by show _ = 64 * 1; rw [cellsB_length, hl]
    have HTT := Lib.hid hT
    obtain ⟨sg, so, rfl, -⟩ := hD.src hl
    clear hC hp hX d1 hq hb hpb hD hl hT
    unfold keyV
    go_enter Try.func23, Try.ntmps23
    go_upto_region 3 with (fail)
    rw [← hw1]
    clear hw1
    obtain ⟨g0, hg0⟩ : ∃ g0, w.heap.size = g0 := ⟨_, rfl⟩
    rw [hg0] at c0 c1 ⊢
    refine wp_region_kept (by kernel_rfl) (by kernel_rfl) ?_
    repeat (go_big_quiet_step (fail))
    refine wpQuiet_nil ?_
    rintro W2 ⟨w2, rfl⟩
    have HB2 := Lib.hid (HB1.out.trans (w2.below.mono HB1.out.size))
    have hC2 := HC.out.later HB2.out
    have hps := hC2.ps
    have HLow : Hid (base ≤ bc ∧ base ≤ b) := ⟨hC2.low.1, hC2.low.2.2 b HI.out.1⟩
    have hN := hps.nodup
    obtain ⟨a, hB, hL⟩ := hC2.loose HI.out.1
    have HSrcA : Hid (∀ j u, (cellsB l)[j]? = some u → w2.at_.cell? ((⟨sg, so, none⟩ : Addr).add j) = some u) := by
      obtain ⟨g, o, e, h⟩ := (HD.out.out (Out.of_below HB2.out)).src HL64.out
      cases e
      exact h
    have HTh : Hid (w2.at_.there b 2 (cellsB l).length) := by
      show w2.at_.there b 2 (cellsB l).length
      rw [cellsB_length, HL64.out]; exact hB.there
    obtain ⟨wB, hwB⟩ : ∃ wB, wB = w2.at_.setCells b 2 (cellsB l) := ⟨_, rfl⟩
    have HNe : Hid (b ≠ bc) := hB.apart hC2.cb (by decide)
    have HOB : Hid (Out (fun g => g = bc ∨ g = b) w2.at_ wB) := by rw [hwB]; exact out_cells _ _ _ (.inr rfl)
    have HBB : Hid (BufO wB b { x.S b with data := gd l } a) := by rw [hwB]; exact hB.put_data HL64.out
    have HCBB : Hid (CB wB bc bm room x.uses x.v) := by
      rw [hwB]
      exact Out.blo (out_cells (X := fun g => g = b) _ _ _ rfl) hC2.cb (fun e => HNe.out e.symm)
    have HU : Hid (0 ≤ x.uses ∧ x.uses ≤ 4000000000000000000) := ⟨hps.us.1, by have := hps.us.2; have := HTT.out; omega⟩
    obtain ⟨-, -, b66, -, -, -⟩ := HBB.out.cells
    have f66 := HBB.out.frozen 66
    have b66 : wB.cell? ⟨b, 66, none⟩ = some (.bool (x.S b).dirty) := b66
    have HLs : Hid (∀ (w' : World) (s' : Bf), BufO w' b s' a → CB w' bc bm room (x.uses + 1) x.v → Out (fun g => g = bc ∨ g = b) w2.at_ w' → keyB s' = keyB (x.S b) → s'.pins = (x.S b).pins → s'.used = x.uses + 1 → s'.data = gd l → s'.dirty = ((x.S b).dirty || d) →
        ∃ x', LS w' bc bm base room N (T + 1) x' b a ∧ lstK x'.S x'.bs = woK (lstK x.S x.bs) (ki, kl) ++ [⟨(ki, kl), gd l, (x.S b).dirty || d, (x.S b).pins⟩] ∧ Out (XC w bc bm base) w w') := by
      intro w' s' h1 h2 h3 h4 h5 h6 h7 h8
      refine ⟨_, hL w' s' (x.uses + 1) (x.bs.erase b ++ [b]) (T + 1) h1 h2 h3 (hps.use HI.out.1 h4 h6 h5 (Nat.le_refl _)) (fun c => ?_), ?_, ?_⟩
      · rw [List.mem_append, hN.mem_erase_iff, List.mem_singleton]
        by_cases e : c = b
        · rw [e]; simp [HI.out.1]
        · simp [e]
      · refine (lst_use hps HI.out.1 s').trans ?_
        rw [HI.out.2]
        unfold bk
        rw [h4, h5, h7, h8, HI.out.2]
      · exact outC_trans (Out.of_below HB2.out) (h3.mono fun g _ h => xc_b hB HLow.out.1 HLow.out.2 h)
    clear c0 c1 c2 k1 HC hC2 hps hN hB hL HD HB2 HI HL64
    generalize hsd0 : (x.S b).dirty = sd at *
    have hcp : (Builtin.copy_ #[BYS, BYS] 3 #[.slice (some ⟨b, 2, none⟩) 64 64, .slice (some ⟨sg, so, none⟩) 64 sc]).run Try.prog w2.at_ = .ok (.int .i64 64) wB := by
      rw [hwB]
      exact run_copy_many w2.at_ BYS BYS 3 U8 1 b 2 64 64 ⟨sg, so, none⟩ 64 sc (cellsB l) Try.underlying35 szU8 HLen.out HSrcA.out (fun j hj => (HTh.out j hj).1) (fun j hj => (HTh.out j hj).2) (cellsB_oneC _)
    clear hwB
    clear HSrcA HTh
    go_upto_region 10 with (fail)
    clear hcp
    clear hsd0
    rcases (show sd = false ∨ sd = true by cases sd <;> simp) with rfl | rfl
    · have HBC := Lib.hid (HBB.out.put_dirty d)
      have HCC : Hid (CB (wB.setCell ⟨b, 66, none⟩ (.bool d)) bc bm room x.uses x.v) := Blo.far HCBB.out (p := ⟨b, 66, none⟩) (fun e => HNe.out e.symm) _
      have HOC : Hid (Out (fun g => g = bc ∨ g = b) w2.at_ (wB.setCell ⟨b, 66, none⟩ (.bool d))) := HOB.out.put (p := ⟨b, 66, none⟩) (.inr rfl) _
      have hu := HU.out
      have HUs := Lib.hid (use_any HCC.out HBC.out hu.1 hu.2)
      clear HBB HCBB HOB HNe hu
      go_wp2_with fail
      refine HUs.out.mono ?_
      rintro e wD ⟨rfl, hCD, hBD, hoD⟩
      obtain ⟨x', hL, hlst, hoL⟩ := HLs.out wD _ hBD hCD (HOC.out.trans hoD (fun _ _ h => h)) rfl rfl rfl rfl rfl
      have HPl := Lib.hid (place_any hL hL.blt)
      have HX := Lib.hid (And.intro hlst hoL)
      clear HLs HUs HBC HCC HOC hCD hBD hoD hL hlst hoL
      go_wp2_with fail
      refine HPl.out.mono ?_
      rintro e wE ⟨rfl, v', m', h', hC, ho⟩
      have HE := Lib.hid ((show CcO w bc bm base room N (T + 1) (woK (lstK x.S x.bs) (ki, kl) ++ [⟨(ki, kl), gd l, _ || d, (x.S b).pins⟩]) (.int .i64 0) (.returned (.int .i64 0)) wE from ⟨rfl, ⟨_, hC, HX.out.1.symm⟩, outC_trans HX.out.2 ho⟩))
      clear HPl HX hC ho
      go_wp2_with fail
      go_ret
      exact HE.out
    · have HBC := Lib.hid (HBB.out.put_dirty true)
      have HCC : Hid (CB (wB.setCell ⟨b, 66, none⟩ (.bool true)) bc bm room x.uses x.v) := Blo.far HCBB.out (p := ⟨b, 66, none⟩) (fun e => HNe.out e.symm) _
      have HOC : Hid (Out (fun g => g = bc ∨ g = b) w2.at_ (wB.setCell ⟨b, 66, none⟩ (.bool true))) := HOB.out.put (p := ⟨b, 66, none⟩) (.inr rfl) _
      have hu := HU.out
      have HUs := Lib.hid (use_any HCC.out HBC.out hu.1 hu.2)
      clear HBB HCBB HOB HNe hu
      go_wp2_with fail
      refine HUs.out.mono ?_
      rintro e wD ⟨rfl, hCD, hBD, hoD⟩
      obtain ⟨x', hL, hlst, hoL⟩ := HLs.out wD _ hBD hCD (HOC.out.trans hoD (fun _ _ h => h)) rfl rfl rfl rfl rfl
      have HPl := Lib.hid (place_any hL hL.blt)
      have HX := Lib.hid (And.intro hlst hoL)
      clear HLs HUs HBC HCC HOC hCD hBD hoD hL hlst hoL
      go_wp2_with fail
      refine HPl.out.mono ?_
      rintro e wE ⟨rfl, v', m', h', hC, ho⟩
      have HE := Lib.hid ((show CcO w bc bm base room N (T + 1) (woK (lstK x.S x.bs) (ki, kl) ++ [⟨(ki, kl), gd l, _ || d, (x.S b).pins⟩]) (.int .i64 0) (.returned (.int .i64 0)) wE from ⟨rfl, ⟨_, hC, HX.out.1.symm⟩, outC_trans HX.out.2 ho⟩))
      clear HPl HX hC ho
      go_wp2_with fail
      go_ret
      exact HE.out
set_option maxRecDepth 100000 in
set_option maxHeartbeats 8000000 in
theorem put_new_no (hC : CS w bc bm base room N T x) (hp : wfK p) (hq : x.f p = none) (hr : (roomK room (lstK x.S x.bs)).2 = false) :
    Calls Try.prog 23 #[.pointer (some ⟨bc, 0, none⟩), keyV p, .slice sa 64 sc, .bool d] w (CcO w bc bm base room N T (roomK room (lstK x.S x.bs)).1 (.int .i64 28)) := by
    obtain ⟨ki, kl⟩ := p
    obtain ⟨-, d1, -, -⟩ := hC.cb.cell
    obtain ⟨w1, hw1⟩ : ∃ w1, w1 = w.alloc (.cells #[.int .i64 ki, .int .i64 kl] KT) := ⟨_, rfl⟩
    have HB1 : Hid (Below w.heap.size w w1) := by rw [hw1]; exact sup_pc9 w _
    have hX : Blo w1 w.heap.size KT #[.int .i64 ki, .int .i64 kl] := by rw [hw1]; exact blo_laid w _ _
    have c0 : ∀ y : Kept w1, y.at_.cell? ⟨w.heap.size, 0, none⟩ = some (.int .i64 ki) := fun y => cell_later y.below (Blo.cell hX 0)
    have c1 : ∀ y : Kept w1, y.at_.cell? ⟨w.heap.size, 1, none⟩ = some (.int .i64 kl) := fun y => cell_later y.below (Blo.cell hX 1)
    have c2 : ∀ y : Kept w1, y.at_.cell? ⟨bc, 1, none⟩ = some (.map (some bm)) := fun y => cell_later y.below (cell_later HB1.out d1)
    have k1 : ∀ y : Kept w1, (Instr.lookup KMT (.map (some bm)) (.agg #[.int .i64 ki, .int .i64 kl]) true).run Try.prog y.at_ = .ok (.tuple #[.pointer none, .bool false]) y.at_ := fun y => by
      have := (hC.km.later (HB1.out.trans (y.below.mono HB1.out.size))).look_ok hp
      rw [hq] at this
      exact this
    have HC := Lib.hid hC
    have HR := Lib.hid hr
    clear hC hp hX d1 hq hr
    unfold keyV
    go_enter Try.func23, Try.ntmps23
    go_upto_region 3 with (fail)
    rw [← hw1]
    clear hw1
    obtain ⟨g0, hg0⟩ : ∃ g0, w.heap.size = g0 := ⟨_, rfl⟩
    rw [hg0] at c0 c1 ⊢
    refine wp_region_kept (by kernel_rfl) (by kernel_rfl) ?_
    repeat (go_big_quiet_step (fail))
    refine wpQuiet_nil ?_
    rintro W2 ⟨w2, rfl⟩
    have HB2 := Lib.hid (HB1.out.trans (w2.below.mono HB1.out.size))
    clear c0 c1 c2 k1
    go_wp2_with fail
    refine (room_any (HC.out.later HB2.out)).mono ?_
    rintro e w3 ⟨rfl, ⟨x', hC', hlst, -⟩, ho⟩
    rw [HR.out]
    have HE : Hid (CcO w bc bm base room N T (roomK room (lstK x.S x.bs)).1 (.int .i64 28) (.returned (.int .i64 28)) w3) := ⟨rfl, ⟨x', hC', hlst⟩, outC_trans (Out.of_below HB2.out) ho⟩
    clear hC' hlst ho HC HR
    go_wp2_with fail
    go_ret
    exact HE.out
theorem zc_new : Try.zeroCells79 = #[.int .i64 0, .int .i64 0] ++ Array.replicate 64 (.int .u8 0) ++ #[.bool false, .int .i64 0, .int .i64 0, .int .i64 0] := by kernel_rfl
theorem zc_dat (i : Nat) (hi : i < 64) : Try.zeroCells79[2 + i]? = some (.int .u8 0) := by
  rw [zc_new]
  have h1 : (#[Value.int .i64 0, .int .i64 0] ++ Array.replicate 64 (Value.int .u8 0)).size = 66 := by simp
  have h2 : (#[Value.int .i64 0, Value.int .i64 0]).size = 2 := rfl
  rw [Array.getElem?_append_left (by rw [h1]; omega), Array.getElem?_append_right (by rw [h2]; omega), h2, Array.getElem?_replicate, if_pos (by omega)]
/-- The cells of a new buffer. -/
theorem new_cells (ki kl : Int) : BfC (((Try.zeroCells79.setIfInBounds 0 (.int .i64 ki)).setIfInBounds 1 (.int .i64 kl)).setIfInBounds 69 (.int .i64 (-1))) ⟨ki, kl, fun _ => 0, false, 0, 0⟩ (-1) := by
  have hs : Try.zeroCells79.size = 70 := by kernel_rfl
  have g : ∀ j, j ≠ 0 → j ≠ 1 → j ≠ 69 → (((Try.zeroCells79.setIfInBounds 0 (.int .i64 ki)).setIfInBounds 1 (.int .i64 kl)).setIfInBounds 69 (.int .i64 (-1)))[j]? = Try.zeroCells79[j]? := fun j h0 h1 h2 => by
    rw [Array.getElem?_setIfInBounds_ne (by omega), Array.getElem?_setIfInBounds_ne (by omega), Array.getElem?_setIfInBounds_ne (by omega)]
  refine ⟨by simp [hs], ?_, ?_, fun i hi => ?_, ?_, ?_, ?_, ?_⟩
  · rw [Array.getElem?_setIfInBounds_ne (by omega), Array.getElem?_setIfInBounds_ne (by omega), Array.getElem?_setIfInBounds, if_pos rfl, if_pos (by rw [hs]; omega)]
  · rw [Array.getElem?_setIfInBounds_ne (by omega), Array.getElem?_setIfInBounds, if_pos rfl, if_pos (by simp [hs])]
  · rw [g _ (by omega) (by omega) (by omega)]
    exact zc_dat i hi
  · rw [g _ (by omega) (by omega) (by omega)]; kernel_rfl
  · rw [g _ (by omega) (by omega) (by omega)]; kernel_rfl
  · rw [g _ (by omega) (by omega) (by omega)]; kernel_rfl
  · rw [Array.getElem?_setIfInBounds, if_pos rfl, if_pos (by simp [hs])]
set_option maxRecDepth 100000 in
set_option maxHeartbeats 8000000 in
theorem put_new (hC : CS w bc bm base room N T x) (hp : wfK p) (hq : x.f p = none) (hr : (roomK room (lstK x.S x.bs)).2 = true) (hl : l.length = 64) (hD : DIn w bc bm base sa l) (hT : T ≤ 4000000000000000000) (hN : N < 1000000) :
    Calls Try.prog 23 #[.pointer (some ⟨bc, 0, none⟩), keyV p, .slice sa 64 sc, .bool d] w (CcO w bc bm base room (N + 1) (T + 1) ((roomK room (lstK x.S x.bs)).1 ++ [⟨p, gd l, d, 0⟩]) (.int .i64 0)) := by
    obtain ⟨ki, kl⟩ := p
    obtain ⟨-, d1, -, -⟩ := hC.cb.cell
    obtain ⟨w1, hw1⟩ : ∃ w1, w1 = w.alloc (.cells #[.int .i64 ki, .int .i64 kl] KT) := ⟨_, rfl⟩
    have HB1 : Hid (Below w.heap.size w w1) := by rw [hw1]; exact sup_pc9 w _
    have hX : Blo w1 w.heap.size KT #[.int .i64 ki, .int .i64 kl] := by rw [hw1]; exact blo_laid w _ _
    have HX := Lib.hid hX
    have c0 : ∀ y : Kept w1, y.at_.cell? ⟨w.heap.size, 0, none⟩ = some (.int .i64 ki) := fun y => cell_later y.below (Blo.cell hX 0)
    have c1 : ∀ y : Kept w1, y.at_.cell? ⟨w.heap.size, 1, none⟩ = some (.int .i64 kl) := fun y => cell_later y.below (Blo.cell hX 1)
    have c2 : ∀ y : Kept w1, y.at_.cell? ⟨bc, 1, none⟩ = some (.map (some bm)) := fun y => cell_later y.below (cell_later HB1.out d1)
    have k1 : ∀ y : Kept w1, (Instr.lookup KMT (.map (some bm)) (.agg #[.int .i64 ki, .int .i64 kl]) true).run Try.prog y.at_ = .ok (.tuple #[.pointer none, .bool false]) y.at_ := fun y => by
      have := (hC.km.later (HB1.out.trans (y.below.mono HB1.out.size))).look_ok hp
      rw [hq] at this
      exact this
    have HC := Lib.hid hC
    have HR := Lib.hid hr
    have HQ := Lib.hid hq
    have HWf := Lib.hid hp
    have HD := Lib.hid hD
    have HL64 := Lib.hid hl
    have HLen : Hid ((cellsB l).length = 64 * 1) := by show _ = 64 * 1; rw [cellsB_length, hl]
    have HTT := Lib.hid (And.intro hT hN)
    obtain ⟨sg, so, rfl, -⟩ := hD.src hl
    clear hC hp hX d1 hq hr hD hl hT hN
    unfold keyV
    go_enter Try.func23, Try.ntmps23
    go_upto_region 3 with (fail)
    rw [← hw1]
    clear hw1
    obtain ⟨g0, hg0⟩ : ∃ g0, w.heap.size = g0 := ⟨_, rfl⟩
    rw [hg0] at c0 c1 HX ⊢
    refine wp_region_kept (by kernel_rfl) (by kernel_rfl) ?_
    repeat (go_big_quiet_step (fail))
    refine wpQuiet_nil ?_
    rintro W2 ⟨w2, rfl⟩
    have HB2 := Lib.hid (HB1.out.trans (w2.below.mono HB1.out.size))
    have HX2 := Lib.hid (Blo.later HX.out w2.below)
    clear c0 c1 c2 k1
    go_wp2_with fail
    refine (room_any (HC.out.later HB2.out)).mono ?_
    rintro e w3 ⟨rfl, ⟨x', hC', hlst, hn, -, hfn, hlen⟩, ho⟩
    rw [HR.out]
    have HO3 := Lib.hid (outC_trans (Out.of_below HB2.out) ho)
    have hX3 : Blo w3 g0 KT #[.int .i64 ki, .int .i64 kl] := ho.blo HX2.out (by
      rintro ⟨-, e | e | ⟨t, cs, h1, h2⟩⟩
      · exact HX2.out.apart (HC.out.later HB2.out).cb (by decide) e
      · exact (HC.out.later HB2.out).km.blo HX2.out e.symm
      · have := HX2.out
        unfold Blo at this h1
        rw [h1] at this
        cases this
        rcases h2 with e | e
        · exact absurd e (by decide)
        · exact absurd e (by decide))
    have c0 : w3.cell? ⟨g0, 0, none⟩ = some (.int .i64 ki) := hX3.cell 0
    have c1 : w3.cell? ⟨g0, 1, none⟩ = some (.int .i64 kl) := hX3.cell 1
    have HX3 := Lib.hid hX3
    have HC3 := Lib.hid hC'
    have HF3 := Lib.hid (And.intro hlst (And.intro hn (And.intro (hfn _ HQ.out) (hlen HR.out))))
    clear hC' hlst hn hfn hlen ho hX3 HX HX2
    go_upto_region 8 with (fail)
    have hn1 : x'.n + 1 ≤ N + 1 := by have := HC3.out.ps.cnt; omega
    have HN1 := Lib.hid hn1
    obtain ⟨w4, hw4⟩ : ∃ w4, w4 = w3.alloc (.cells (((Try.zeroCells79.setIfInBounds 0 (.int .i64 ki)).setIfInBounds 1 (.int .i64 kl)).setIfInBounds 69 (.int .i64 (-1))) BT) := ⟨_, rfl⟩
    rw [← hw4]
    have HB4 : Hid (Below w3.heap.size w3 w4) := by rw [hw4]; exact sup_pc9 w3 _
    have HN4 : Hid (BufO w4 w3.heap.size ⟨ki, kl, fun _ => 0, false, 0, 0⟩ (-1)) := ⟨_, by rw [hw4]; exact blo_laid w3 _ _, new_cells ki kl⟩
    clear hw4 hn1
    have hbd : Below w4.heap.size w4 w4.drew := (Below.refl _ _).drew
    have hB4d := HB4.out.drew
    obtain ⟨w5, hrun, hK, hg⟩ := (HC3.out.km.later hB4d).put (by have := HC3.out.ps.cnt; have := HTT.out; omega) HWf.out w3.heap.size
    have k1 : (Instr.mapUpdate KMT (.map (some bm)) (.agg #[.int .i64 ki, .int .i64 kl]) (.pointer (some ⟨w3.heap.size, 0, none⟩))).run Try.prog w4.drew = .ok () w5 := hrun
    have c0' := cell_later hB4d c0
    have c1' := cell_later hB4d c1
    obtain ⟨-, d1, d2, d3⟩ := HC3.out.cb.cell
    have d1' := cell_later hB4d d1
    have HA5 : Hid (Out (fun g => g = bm) w3 w5) := (Out.of_below hB4d : Out (fun g => g = bm) w3 w4.drew).trans (Out.of_grown hg (fun g e => by cases e; rfl)) (fun _ _ h => h)
    have HK5 := Lib.hid hK
    have HLow : Hid (base ≤ bc ∧ base ≤ bm) := ⟨HC3.out.low.1, HC3.out.low.2.1⟩
    have HBm : Hid (bm < w3.heap.size) := HC3.out.km.lt
    have HB5 : Hid (BufO w5 w3.heap.size ⟨ki, kl, fun _ => 0, false, 0, 0⟩ (-1)) := (HN4.out.later hbd).out (X := fun g => g = bm) (Out.of_grown hg (fun g e => by cases e; rfl)) (fun e => by have := HBm.out; omega)
    have HCB5 : Hid (CB w5 bc bm room x'.uses x'.v) := Out.blo HA5.out HC3.out.cb (fun e => HC3.out.km.blo HC3.out.cb e.symm)
    have HNe : Hid (w3.heap.size ≠ bc) := fun e => by have := Blo.lt HC3.out.cb; omega
    clear hrun hK hg hbd hB4d c0 c1 d1 d2 d3
    go_region
    clear k1 c0' c1' d1' HB4 HN4 HX3
    have HFr := Lib.hid (fun (w' : World) (s' : Bf) => HC3.out.fresh HWf.out HF3.out.2.2.1 HF3.out.2.2.2 (Nat.le_refl _) HA5.out HK5.out HN1.out w' s')
    have HO5 : Hid (Out (XC w bc bm base) w w5) := outC_trans HO3.out (HA5.out.mono fun g _ e => by rw [e]; exact ⟨HLow.out.2, .inr (.inl rfl)⟩)
    have HSrcA : Hid (∀ j u, (cellsB l)[j]? = some u → w5.cell? ((⟨sg, so, none⟩ : Addr).add j) = some u) := by
      obtain ⟨g, o, e, h⟩ := (HD.out.out HO5.out).src HL64.out
      cases e
      exact h
    have HTh : Hid (w5.there w3.heap.size 2 (cellsB l).length) := by
      show w5.there w3.heap.size 2 (cellsB l).length
      rw [cellsB_length, HL64.out]; exact HB5.out.there
    obtain ⟨wB, hwB⟩ : ∃ wB, wB = w5.setCells w3.heap.size 2 (cellsB l) := ⟨_, rfl⟩
    have HOB : Hid (Out (fun g => g = bc ∨ g = w3.heap.size) w5 wB) := by rw [hwB]; exact out_cells _ _ _ (.inr rfl)
    have HBB : Hid (BufO wB w3.heap.size { (⟨ki, kl, fun _ => 0, false, 0, 0⟩ : Bf) with data := gd l } (-1)) := by rw [hwB]; exact HB5.out.put_data HL64.out
    have HCBB : Hid (CB wB bc bm room x'.uses x'.v) := by
      rw [hwB]
      exact Out.blo (out_cells (X := fun g => g = w3.heap.size) _ _ _ rfl) HCB5.out (fun e => HNe.out e.symm)
    have HU : Hid (0 ≤ x'.uses ∧ x'.uses ≤ 4000000000000000000) := ⟨HC3.out.ps.us.1, by have := HC3.out.ps.us.2; have := HTT.out; omega⟩
    obtain ⟨-, -, b66, -, -, -⟩ := HBB.out.cells
    have f66 := HBB.out.frozen 66
    obtain ⟨sd, hsd0⟩ : ∃ sd, sd = false := ⟨_, rfl⟩
    have b66 : wB.cell? ⟨w3.heap.size, 66, none⟩ = some (.bool sd) := by rw [hsd0]; exact b66
    have HLs : Hid (∀ (w' : World) (s' : Bf), BufO w' w3.heap.size s' (-1) → CB w' bc bm room (x'.uses + 1) x'.v → Out (fun g => g = bc ∨ g = w3.heap.size) w5 w' → keyB s' = (ki, kl) → s'.pins = 0 → s'.used = x'.uses + 1 → s'.data = gd l → s'.dirty = (sd || d) →
        ∃ x2, LS w' bc bm base room (N + 1) (T + 1) x2 w3.heap.size (-1) ∧ lstK x2.S x2.bs = (roomK room (lstK x.S x.bs)).1 ++ [⟨(ki, kl), gd l, sd || d, 0⟩] ∧ Out (XC w bc bm base) w w') := by
      intro w' s' h1 h2 h3 h4 h5 h6 h7 h8
      refine ⟨_, HFr.out w' s' h1 h2 h3 h4 h5 h6, ?_, ?_⟩
      · refine (lst_add (fun q => ?_) s').trans ?_
        · obtain ⟨a, hB⟩ := HC3.out.buf q
          have := hB.lt
          omega
        · rw [HF3.out.1]
          unfold bk
          rw [h4, h5, h7, h8]
      · exact outC_trans HO5.out (h3.mono fun g _ h => xc_b HB5.out HLow.out.1 (Nat.le_trans HLow.out.2 (Nat.le_of_lt HBm.out)) h)
    rw [hsd0] at HLs b66
    clear HC HR HQ HWf HD HL64 HTT HB1 hg0 HB2 HO3 HC3 HF3 HN1 HA5 HK5 HBm HCB5 HFr HO5
    generalize w3.heap.size = bn at *
    have hcp : (Builtin.copy_ #[BYS, BYS] 3 #[.slice (some ⟨bn, 2, none⟩) 64 64, .slice (some ⟨sg, so, none⟩) 64 sc]).run Try.prog w5 = .ok (.int .i64 64) wB := by
      rw [hwB]
      exact run_copy_many w5 BYS BYS 3 U8 1 bn 2 64 64 ⟨sg, so, none⟩ 64 sc (cellsB l) Try.underlying35 szU8 HLen.out HSrcA.out (fun j hj => (HTh.out j hj).1) (fun j hj => (HTh.out j hj).2) (cellsB_oneC _)
    clear hwB
    clear HSrcA HTh
    go_upto_region 10 with (fail)
    clear hcp
    have HBC := Lib.hid (HBB.out.put_dirty d)
    have HCC : Hid (CB (wB.setCell ⟨bn, 66, none⟩ (.bool d)) bc bm room x'.uses x'.v) := Blo.far HCBB.out (p := ⟨bn, 66, none⟩) (fun e => HNe.out e.symm) _
    have HOC : Hid (Out (fun g => g = bc ∨ g = bn) w5 (wB.setCell ⟨bn, 66, none⟩ (.bool d))) := HOB.out.put (p := ⟨bn, 66, none⟩) (.inr rfl) _
    have hu := HU.out
    have HUs := Lib.hid (use_any HCC.out HBC.out hu.1 hu.2)
    clear HBB HCBB HOB HNe hu
    go_wp2_with fail
    refine HUs.out.mono ?_
    rintro e wD ⟨rfl, hCD, hBD, hoD⟩
    obtain ⟨x', hL, hlst, hoL⟩ := HLs.out wD _ hBD hCD (HOC.out.trans hoD (fun _ _ h => h)) rfl rfl rfl rfl rfl
    have HPl := Lib.hid (place_any hL hL.blt)
    have HX := Lib.hid (And.intro hlst hoL)
    clear HLs HUs HBC HCC HOC hCD hBD hoD hL hlst hoL
    go_wp2_with fail
    refine HPl.out.mono ?_
    rintro e wE ⟨rfl, v', m', h', hC, ho⟩
    have HE := Lib.hid ((show CcO w bc bm base room (N + 1) (T + 1) ((roomK room (lstK x.S x.bs)).1 ++ [⟨(ki, kl), gd l, false || d, 0⟩]) (.int .i64 0) (.returned (.int .i64 0)) wE from ⟨rfl, ⟨_, hC, HX.out.1.symm⟩, outC_trans HX.out.2 ho⟩))
    clear HPl HX hC ho
    go_wp2_with fail
    go_ret
    exact HE.out

/-- Put of any key, any bytes. -/
theorem put_any (h : CA w bc bm base room N T L) (hp : wfK p) (hD : DIn w bc bm base sa l) {n : Nat} (hn : n = l.length) (hn2 : n ≤ 1000000) (hT : T ≤ 4000000000000000000) (hN : N < 1000000) :
    Calls Try.prog 23 #[.pointer (some ⟨bc, 0, none⟩), keyV p, .slice sa n sc, .bool d] w (CcO w bc bm base room (N + 1) (T + 1) (putK room L p l d).1 (.int .i64 (putK room L p l d).2)) := by
  by_cases hl : l.length = 64
  · obtain rfl : n = 64 := by omega
    cases hf : findK L p with
    | some s =>
      have e : putK room L p l d = (woK L p ++ [⟨p, gd l, s.dirty || d, s.pins⟩], 0) := by unfold putK; rw [if_neg (by omega), hf]
      rw [e]
      obtain ⟨x, b, hC, rfl, hq, rfl, hb, hpb⟩ := do_some h hf
      refine (put_old hC hp hq hl hD hT).mono fun e w' q => ⟨q.1, q.2.1.mono (by omega) (Nat.le_refl _), q.2.2⟩
    | none =>
      have e : putK room L p l d = if (roomK room L).2 = true then ((roomK room L).1 ++ [⟨p, gd l, d, 0⟩], 0) else ((roomK room L).1, 28) := by unfold putK; rw [if_neg (by omega), hf]
      rw [e]
      obtain ⟨x, hC, rfl⟩ := h
      rw [find_lst hC.ps p] at hf
      have hf : x.f p = none := by simpa using hf
      by_cases hr : (roomK room (lstK x.S x.bs)).2 = true
      · rw [if_pos hr]
        exact put_new hC hp hf hr hl hD hT hN
      · rw [if_neg hr]
        exact (put_new_no hC hp hf (by simpa using hr)).mono fun e w' q => ⟨q.1, q.2.1.mono (by omega) (by omega), q.2.2⟩
  · exact put_bad hl h n hn hn2
end
end Go.Proofs.Ytdnkeplmjimjcaa
