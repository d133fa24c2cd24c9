/-
  The blocks of the inode map.
-/
import Derived.Test.YtbacfbdeeogkgaaImDocB
namespace Go.Proofs.Ytbacfbdeeogkgaa
open Go.RowKit Go.Maps

abbrev SLB := 24
theorem info_slb : (Try.prog.info? 24).map (fun i => (i.zero, i.size, i.bytes)) = some (some (.slice none 0 0), 1, 24) := by kernel_rfl
theorem run_make_slb (w : World) (n : Nat) (hn : n ≤ 1000) :
    ∃ cs, (Instr.makeSlice 22 (.int .i64 n) (.int .i64 n)).run Try.prog w = .ok (.slice (some ⟨w.heap.size, 0, none⟩) n n) (w.alloc (.cells cs SLB)) ∧ ∀ i, i < n → cs[i]? = some (.slice none 0 0) := by
  obtain ⟨i, hi0, hz, hs1, hb1⟩ := info_parts info_slb
  have hr := run_make (P := Try.prog) w 22 SLB i (.slice none 0 0) Try.underlying22 hi0 hz .i64 .i64 n n (by omega) (Int.le_refl _) (by rw [hb1]; omega) (by omega)
  simp only [Int.toNat_natCast] at hr
  refine ⟨_, hr, fun j hj => ?_⟩
  rw [hs1]
  have e : (Value.slice none 0 0).cells = #[.slice none 0 0] := by kernel_rfl
  rw [e]
  simp [madeCells, hj, Nat.mod_one]
def encJ (A V : Nat → Int) (n kk : Nat) : List Nat := encK (blk A n kk) (blk V n kk) 8
/-- What has been answered so far: the first kk slices of a new row hold blocks of 64 bytes in new memory, each its own. -/
structure BlS (w : World) (g q : Nat) (A V : Nat → Int) (n kk : Nat) (W : World) : Prop where
  row : ∃ cs, Blo W g SLB cs ∧ q ≤ cs.size ∧ ∃ (G : Nat → Nat) (C : Nat → Nat), ∀ i, i < kk → cs[i]? = some (.slice (some ⟨G i, 0, none⟩) 64 (C i)) ∧ g < G i ∧ W.ownsRow w.heap.size U8 1 (.slice (some ⟨G i, 0, none⟩) 64 (C i)) 64 (cellsB (encJ A V n i)) ∧ (∀ j, j < i → G j < G i)
  b : Below w.heap.size w W
  le : w.heap.size ≤ g
theorem BlS.later {w W W' : World} {g q n kk : Nat} {A V : Nat → Int} (h : BlS w g q A V n kk W) (hb : Below W.heap.size W W') : BlS w g q A V n kk W' := by
  obtain ⟨⟨cs, h1, h2, G, C, h3⟩, h4, h5⟩ := h
  exact ⟨⟨cs, h1.later hb, h2, G, C, fun i hi => by
    obtain ⟨a, b, c, d⟩ := h3 i hi
    exact ⟨a, b, own_later c hb, d⟩⟩, h4.trans (hb.mono h4.size), h5⟩
theorem BlS.far {w W : World} {g q n kk : Nat} {A V : Nat → Int} (h : BlS w g q A V n kk W) {S : Nat} (hS : ∀ k, k < S → True) (p : Addr) (hp : g < p.block) (hq : ∀ cs : Array Value, Blo W g SLB cs → ∀ i G C, i < kk → cs[i]? = some (.slice (some ⟨G, 0, none⟩) 64 C) → G ≠ p.block) (u : Value) : BlS w g q A V n kk (W.setCell p u) := by
  obtain ⟨⟨cs, h1, h2, G, C, h3⟩, h4, h5⟩ := h
  exact ⟨⟨cs, h1.far (by omega) u, h2, G, C, fun i hi => by
    obtain ⟨a, b, c, d⟩ := h3 i hi
    exact ⟨a, b, own_far c (fun e => by have := hq cs h1 i (G i) (C i) hi a; simp [Value.ownBlock] at e; omega) u, d⟩⟩, h4.setCell (by omega) u, h5⟩
theorem BlS.put {w W W' : World} {g q n kk : Nat} {A V : Nat → Int} (h : BlS w g q A V n kk W) (hb : Below W.heap.size W W') (hk : kk < q) {g6 c6 : Nat} (ho : W'.ownsRow W.heap.size U8 1 (.slice (some ⟨g6, 0, none⟩) 64 c6) 64 (cellsB (encJ A V n kk))) :
    BlS w g q A V n (kk + 1) (W'.setCell ⟨g, kk, none⟩ (.slice (some ⟨g6, 0, none⟩) 64 c6)) := by
  obtain ⟨⟨cs, h1, h2, G, C, h3⟩, h4, h5⟩ := h
  have hg6 : W.heap.size ≤ g6 := (ho.lt g6 rfl).1
  have hgW : g < W.heap.size := h1.lt
  refine ⟨⟨_, (h1.later hb).put kk _, by simp; exact h2, upd G kk g6, upd C kk c6, fun i hi => ?_⟩, (h4.trans (hb.mono h4.size)).setCell h5 _, h5⟩
  by_cases e : i = kk
  · subst e
    rw [upd_at, upd_at]
    refine ⟨by rw [Array.getElem?_setIfInBounds, if_pos rfl, if_pos (by omega)], by omega, own_far (own_base ho h4.size) (fun e => by simp [Value.ownBlock] at e; omega) _, fun j hj => ?_⟩
    rw [upd_ne _ _ _ (by omega)]
    have := ((h3 j hj).2.2.1.lt (G j) rfl).2
    omega
  · obtain ⟨a, b, c, d⟩ := h3 i (by omega)
    rw [upd_ne _ _ _ e, upd_ne _ _ _ e]
    refine ⟨by rw [Array.getElem?_setIfInBounds, if_neg (by omega)]; exact a, b, own_far (own_later c hb) (fun e => by simp [Value.ownBlock] at e; omega) _, fun j hj => ?_⟩
    rw [upd_ne _ _ _ (by omega)]
    exact d j hj
structure BmS (w : World) (bm gs gd n N : Nat) (A V : Nat → Int) (B : Nat → Bool) (q kk : Nat) (W : World) : Prop where
  im : Im W bm gs gd n N A V B
  bl : BlS w w.heap.size q A V n kk W
theorem BmS.later {w W W' : World} {bm gs gd n N q kk : Nat} {A V : Nat → Int} {B : Nat → Bool} (h : BmS w bm gs gd n N A V B q kk W) (hb : Below W.heap.size W W') : BmS w bm gs gd n N A V B q kk W' :=
  ⟨h.im.later hb, h.bl.later hb⟩
/-- A cell of a block above all that is told. -/
theorem BmS.far {w W : World} {bm gs gd n N q kk : Nat} {A V : Nat → Int} {B : Nat → Bool} {g5 : Nat} (h : BmS w bm gs gd n N A V B q kk W) (W0 : World) (h0 : BmS w bm gs gd n N A V B q kk W0) (h5 : W0.heap.size ≤ g5) (same : ∀ cs : Array Value, Blo W w.heap.size SLB cs → Blo W0 w.heap.size SLB cs) (j : Nat) (u : Value) : BmS w bm gs gd n N A V B q kk (W.setCell ⟨g5, j, none⟩ u) := by
  obtain ⟨l1, l2, l3⟩ := h0.im.lt
  have hg : w.heap.size < W0.heap.size := by obtain ⟨⟨cs, x, _⟩, _⟩ := h0.bl; exact x.lt
  refine ⟨h.im.far (p := ⟨g5, j, none⟩) (by show bm ≠ g5; omega) (by show gs ≠ g5; omega) (by show gd ≠ g5; omega) u, h.bl.far (S := 0) (fun _ _ => trivial) ⟨g5, j, none⟩ (by show _ < g5; omega) (fun cs hc i G C hi he => ?_) u⟩
  have hc0 := same cs hc
  obtain ⟨⟨cs0, x, _, G0, C0, y⟩, _⟩ := h0.bl
  have e : cs0 = cs := by
    have a1 : W0.heap[w.heap.size]? = some (.cells cs0 SLB (0, 0)) := x
    have a2 : W0.heap[w.heap.size]? = some (.cells cs SLB (0, 0)) := hc0
    rw [a1] at a2
    cases a2; rfl
  subst e
  obtain ⟨a, _, c, _⟩ := y i hi
  rw [a] at he
  cases he
  have := (c.lt (G0 i) rfl).2
  show G0 i ≠ g5
  omega
def BmR (w : World) (bm gs gd n N : Nat) (A V : Nat → Int) (B : Nat → Bool) (q : Nat) (t : Value) (W : World) : Prop := ∃ kk : Nat, kk ≤ q ∧ t = .int .i64 kk ∧ BmS w bm gs gd n N A V B q kk W
def BnR (w W0 : World) (bm gs gd n N : Nat) (A V : Nat → Int) (B : Nat → Bool) (q kk g5 : Nat) (t : Value) (W : World) : Prop :=
  ∃ i : Nat, i ≤ 8 ∧ t = .int .i64 i ∧ Blo W g5 A8T (cells16 (cutF (blk A n kk) i) (cutF (blk V n kk) i)) ∧ BmS w bm gs gd n N A V B q kk W ∧ (∀ cs : Array Value, Blo W w.heap.size SLB cs → Blo W0 w.heap.size SLB cs)
theorem cut_past (F G : Nat → Int) (n kk k : Nat) (h : n ≤ 8 * kk + k) : cells16 (cutF (blk F n kk) (k + 1)) (cutF (blk G n kk) (k + 1)) = cells16 (cutF (blk F n kk) k) (cutF (blk G n kk) k) :=
  cells16_ext fun i hi => by
    have e : ∀ X : Nat → Int, cutF (blk X n kk) (k + 1) i = cutF (blk X n kk) k i := fun X => by
      unfold cutF
      by_cases hk : i < k
      · rw [if_pos hk, if_pos (by omega)]
      · rw [if_neg hk]
        by_cases h2 : i < k + 1
        · rw [if_pos h2]; unfold blk; rw [if_neg (by omega)]
        · rw [if_neg h2]
    exact ⟨e F, e G⟩
set_option maxRecDepth 100000 in
set_option maxHeartbeats 8000000 in
theorem blocks_any (bm gs gd n N : Nat) (A V : Nat → Int) (B : Nat → Bool) (w : World) (hn : n ≤ 200) (h : Im w bm gs gd n N A V B) (hg : ∀ i, i < n → GoodM (A i) (V i)) :
    Calls Try.prog 30 #[.pointer (some ⟨bm, 0, none⟩)] w fun e w' => e = .returned (.slice (some ⟨w.heap.size, 0, none⟩) ((n + 7) / 8) ((n + 7) / 8)) ∧ BmS w bm gs gd n N A V B ((n + 7) / 8) ((n + 7) / 8) w' := by
  have HBo := Lib.hid (blocksOf_any n w hn)
  obtain ⟨cs, hmk, hcs⟩ := run_make_slb w ((n + 7) / 8) (by omega)
  have t0 := h.top.cell 0
  simp at t0
  have hal := sup_im w (.cells cs SLB)
  have hcsz : (n + 7) / 8 ≤ cs.size := by
    rcases Nat.lt_or_ge 0 ((n + 7) / 8) with q | q
    · have := hcs ((n + 7) / 8 - 1) (by omega)
      rcases Nat.lt_or_ge ((n + 7) / 8 - 1) cs.size with x | x
      · omega
      · rw [Array.getElem?_eq_none x] at this; cases this
    · omega
  have HS0 : Hid (BmR w bm gs gd n N A V B ((n + 7) / 8) (.int .i64 0) (w.alloc (.cells cs SLB))) := ⟨0, Nat.zero_le _, rfl, h.later hal, ⟨cs, blo_laid w SLB cs, hcsz, fun _ => 0, fun _ => 0, fun i hi => by omega⟩, hal, Nat.le_refl _⟩
  have HN := Lib.hid hn
  have HGd := Lib.hid (blk_good hg)
  have HQ : Hid ((n + 7) / 8 ≤ 25) := by show _ ≤ 25; omega
  have HQn : Hid (∀ k : Nat, k < (n + 7) / 8 → 8 * k < n) := fun k hk => by omega
  have HLt0 := Lib.hid h.lt
  clear hal h hg hn hcs hcsz
  generalize (n + 7) / 8 = q at *
  go_enter Try.func30, Try.ntmps30
  go_wp2_with fail
  refine HBo.out.mono ?_
  rintro e w1 ⟨rfl, rfl⟩
  go_wp2_with fail
  clear hmk t0
  go_loopw [17] (fun t wr => BmR w bm gs gd n N A V B q t wr) (fun t _ => q - (intOf t).toNat)
  case atStart => exact HS0.out
  case round =>
    clear HS0
    obtain ⟨kk, hk, rfl, hs⟩ := hrel
    have HS := Lib.hid hs
    have HK := Lib.hid hk
    have k0 : (0 : Int) ≤ (kk : Int) := by omega
    have k26 : (kk : Int) < 26 := by have := HQ.out; omega
    clear hs hk
    by_cases hlt : kk < q
    · have k1 : (kk : Int) < (q : Int) := by omega
      have HKq := Lib.hid hlt
      clear hlt
      go_upto_region 6 with fail
      have hst : BnR w wr bm gs gd n N A V B q kk wr.heap.size (.int .i64 0) (wr.alloc (.cells #[.int .i64 0, .int .i64 0, .int .i64 0, .int .i64 0, .int .i64 0, .int .i64 0, .int .i64 0, .int .i64 0, .int .i64 0, .int .i64 0, .int .i64 0, .int .i64 0, .int .i64 0, .int .i64 0, .int .i64 0, .int .i64 0] A8T)) :=
        ⟨0, by decide, rfl, by rw [cut16_none]; exact blo_laid wr A8T z16, HS.out.later (sup_im wr (.cells z16 A8T)), fun cs hc => by
          have hl : w.heap.size < wr.heap.size := by obtain ⟨⟨cs, x, _⟩, _⟩ := HS.out.bl; exact x.lt
          have e := hc
          unfold Blo at e ⊢
          rw [heap_alloc_old _ _ hl] at e
          exact e⟩
      have HSt := Lib.hid hst
      have HW0 : Hid (BmS w bm gs gd n N A V B q kk wr) := HS.out
      clear hst HS
      generalize wr.alloc (.cells #[.int .i64 0, .int .i64 0, .int .i64 0, .int .i64 0, .int .i64 0, .int .i64 0, .int .i64 0, .int .i64 0, .int .i64 0, .int .i64 0, .int .i64 0, .int .i64 0, .int .i64 0, .int .i64 0, .int .i64 0, .int .i64 0] A8T) = w5 at *
      generalize hg5 : wr.heap.size = g5 at *
      have HG5 : Hid (wr.heap.size ≤ g5 ∧ w.heap.size < g5) := ⟨Nat.le_of_eq hg5, by
        obtain ⟨⟨cs, x, _⟩, _⟩ := HW0.out.bl
        have := x.lt
        omega⟩
      clear hg5
      generalize hw0 : wr = w0 at *
      clear hw0
      go_wp2_with fail
      go_loopw [20] (fun t wq => BnR w w0 bm gs gd n N A V B q kk g5 t wq) (fun t _ => 8 - (intOf t).toNat)
      case atStart => exact HSt.out
      case round =>
        clear HSt
        obtain ⟨i, hi, rfl, hm, hs, hsame⟩ := hrel
        have HMm := Lib.hid hm
        have HSi := Lib.hid hs
        have HI8 := Lib.hid hi
        have HSame := Lib.hid hsame
        have i0 : (0 : Int) ≤ (i : Int) := by omega
        have t0 := hs.im.top.cell 0
        simp at t0
        clear hm hs hsame hi
        by_cases hlt : i < 8
        · have i1 : (i : Int) < 8 := by omega
          have HLt := Lib.hid hlt
          obtain ⟨p, hp⟩ : ∃ p : Nat, p = 8 * kk + i := ⟨_, rfl⟩
          have hpe : (kk : Int) * 8 + (i : Int) = (p : Int) := by omega
          have p0 : (0 : Int) ≤ (p : Int) := by omega
          have p1 : (p : Int) < 1000 := by omega
          have n200 : (n : Int) ≤ 200 := by have := HN.out; omega
          by_cases hin : p < n
          · have j1 : (p : Int) < (n : Int) := by omega
            obtain ⟨c0, c1, -⟩ := HSi.out.im.cell hin
            obtain ⟨d0, d1⟩ := cells16_at (cutF (blk A n kk) i) (cutF (blk V n kk) i) i hlt
            rw [← HMm.out.cell] at d0 d1
            have f0 := HMm.out.frozen (i * 2)
            have f1 := HMm.out.frozen (i * 2 + 1)
            have hput := cut16_put (blk A n kk) (blk V n kk) i hlt
            have ea : blk A n kk i = A p := by unfold blk; rw [if_pos (by omega), hp]
            have ev : blk V n kk i = V p := by unfold blk; rw [if_pos (by omega), hp]
            rw [ea, ev] at hput
            have HPut := Lib.hid hput
            have HX1 := Lib.hid (HSi.out.far w0 HW0.out HG5.out.1 HSame.out (i * 2) (.int .i64 (A p)))
            have hsm1 : ∀ cs : Array Value, Blo (wr.setCell ⟨g5, i * 2, none⟩ (.int .i64 (A p))) w.heap.size SLB cs → Blo w0 w.heap.size SLB cs := fun cs hc => HSame.out cs ((Below.heap_setCell wr ⟨g5, i * 2, none⟩ _ w.heap.size (by have := HG5.out.2; show w.heap.size ≠ g5; omega)).symm.trans hc)
            have HX2 := Lib.hid (HX1.out.far w0 HW0.out HG5.out.1 hsm1 (i * 2 + 1) (.int .i64 (V p)))
            have hsm2 : ∀ cs : Array Value, Blo ((wr.setCell ⟨g5, i * 2, none⟩ (.int .i64 (A p))).setCell ⟨g5, i * 2 + 1, none⟩ (.int .i64 (V p))) w.heap.size SLB cs → Blo w0 w.heap.size SLB cs := fun cs hc => hsm1 cs ((Below.heap_setCell _ ⟨g5, i * 2 + 1, none⟩ _ w.heap.size (by have := HG5.out.2; show w.heap.size ≠ g5; omega)).symm.trans hc)
            have HSm := Lib.hid hsm2
            clear hsm1 hsm2 hput ea ev hin hlt hp
            generalize A p = ap at *
            generalize V p = vp at *
            go_wp2_with fail
            exact ⟨⟨i + 1, HLt.out, by simp, by rw [← HPut.out]; exact (HMm.out.put _ _).put _ _, HX2.out, HSm.out⟩, by simp [intOf]; have := HLt.out; omega⟩
          · have j1 : ¬ (p : Int) < (n : Int) := by omega
            have HPa := Lib.hid (cut_past A V n kk i (by omega))
            clear hin hlt hp
            go_wp2_with fail
            go_roundw
            case rel => exact ⟨i + 1, HLt.out, by simp, by rw [HPa.out]; exact HMm.out, HSi.out, HSame.out⟩
            case measure => simp [intOf]; have := HLt.out; omega
        · have i1 : ¬ (i : Int) < 8 := by omega
          obtain rfl : i = 8 := by have := HI8.out; omega
          have hm2 := HMm.out
          rw [cut16_all] at hm2
          have HM2 := Lib.hid hm2
          have HAll := Lib.hid (HGd.out kk)
          have HMb := Lib.hid (fun W => mapBlock_any (blk A n kk) (blk V n kk) W)
          have hui := Try.underlying56
          have HII := Lib.hid (info_a8 (blk A n kk) (blk V n kk))
          clear hm2 HMm hlt
          generalize hcs : cells16 (blk A n kk) (blk V n kk) = CS at *
          clear hcs
          go_wp2_with (refine wpList_load_row rfl A8T (.tmp 5) rfl g5 rfl A8T CS (0, 0) _ HM2.out hui rfl HII.out ?_)
          refine (HMb.out _).mono ?_
          rintro e w6 ⟨h1, hb6⟩
          rcases h1 with ⟨-, a6, c6, rfl, ho⟩ | ⟨hno, -⟩
          · rcases ho.2 with ⟨h0, _⟩ | ⟨g6, cc, cur, h0, _⟩
            · cases h0
            · cases h0
              have HNx := Lib.hid (HSi.out.bl.put hb6 HKq.out ho)
              have HI6 : Hid (Im (w6.setCell ⟨w.heap.size, kk, none⟩ (.slice (some ⟨g6, 0, none⟩) 64 c6)) bm gs gd n N A V B) := (HSi.out.im.later hb6).far (p := ⟨w.heap.size, kk, none⟩) (by have := HLt0.out; show bm ≠ w.heap.size; omega) (by have := HLt0.out; show gs ≠ w.heap.size; omega) (by have := HLt0.out; show gd ≠ w.heap.size; omega) _
              obtain ⟨⟨csr, x, hsz, -⟩, -, -⟩ := HSi.out.bl.later hb6
              have rc : w6.cell? ⟨w.heap.size, kk, none⟩ = some (csr.getD kk (.bool false)) := (x.cell kk).trans (by have := HKq.out; rw [Array.getD_eq_getD_getElem?, Array.getElem?_eq_getElem (by omega)]; rfl)
              have fr := x.frozen kk
              clear x hsz ho hb6 HSi HSame t0
              go_wp2_with fail
              exact ⟨⟨kk + 1, HKq.out, by simp, HI6.out, HNx.out⟩, by simp [intOf]; have := HKq.out; omega⟩
          · exact absurd HAll.out hno
    · have k1 : ¬ (kk : Int) < (q : Int) := by omega
      obtain rfl : kk = q := by have := HK.out; omega
      clear hlt
      go_wp2
      go_ret
      exact ⟨rfl, HS.out⟩
end Go.Proofs.Ytbacfbdeeogkgaa
