/-
  SgBtS · SgBt: these texts in one.
-/
import Derived.Test.YtlkgaefabahkoaaDoorPk27
import Derived.Test.YtlkgaefabahkoaaDoorPk11
import Derived.Test.YtlkgaefabahkoaaDoorPk26
import Derived.Test.YtlkgaefabahkoaaDoorPk01
import Derived.BigQuiet
import Derived.Deep.DeepCutAuto
/-
  SegBatches: what stands while the pieces are written.
-/
namespace Go.Proofs.YtlkgaefabahkoaaDoor
open Go.RowKit

abbrev SUP := 70
/-- td pieces are on the disk, the place is that of piece ta, the end that behind batch b. -/
structure BaS (w : World) (bx ba be : Nat) (E C : Int) (l : List Nat) (L : Dl) (td ta b : Nat) (W : World) : Prop where
  dk : ∃ q, Dk w.heap.size W { L with qv := q } (dS E C l td)
  sup : Blo W bx SUP #[.int .i64 100, .int .i64 16, .int .i64 9]
  at_ : Blo W ba PLT #[.int .i64 ((adS ta : Nat) : Int), .int .i64 (C + ((ta : Nat) : Int))]
  en : Blo W be PLT #[.int .i64 ((adS (toS l b) : Nat) : Int), .int .i64 (C + ((toS l b : Nat) : Int))]
  below : Below w.heap.size w W
  ne : ba ≠ be
  low : w.heap.size ≤ ba ∧ w.heap.size ≤ be
/-- The part that a box holds. -/
def PBox (gp : Nat) (m : Sm) (ia : Option Addr) (W : World) : Prop :=
  Blo W gp PT #[.int .i64 m.e, .int .i64 m.c, .int .i64 m.i, .int .i64 m.p, .int .i64 m.x, .slice none 0 0, .slice ia 1 1]
section
variable {w w' W : World} {bx ba be : Nat} {E C : Int} {l : List Nat} {L : Dl} {td ta b : Nat}
theorem BaS.later (h : BaS w bx ba be E C l L td ta b W) (hb : Below W.heap.size W w') : BaS w bx ba be E C l L td ta b w' := by
  obtain ⟨⟨q, hq⟩, h2, h3, h4, h5, h6, h7⟩ := h
  exact ⟨⟨q, hq.later hb⟩, h2.later hb, h3.later hb, h4.later hb, h5.trans (hb.mono h5.size), h6, h7⟩
theorem BaS.wrote {q : Value} {e : Ending} {c : Int} {t2 : Nat} (h : BaS w bx ba be E C l L td ta b W) (hq : Dk w.heap.size W { L with qv := q } (dS E C l td)) (hO : CodeO w.heap.size W { L with qv := q } (dS E C l t2) c e w') : e = .returned (.int .i64 c) ∧ BaS w bx ba be E C l L t2 ta b w' := by
  obtain ⟨h1, q4, h2, h3, h4⟩ := hO
  obtain ⟨-, g2, g3, g4, g5, g6, g7⟩ := h
  exact ⟨h1, ⟨q4, h2⟩, h3.blo g2 (hq.apart g2 (by decide) (by decide) (by decide)), h3.blo g3 (hq.apart g3 (by decide) (by decide) (by decide)), h3.blo g4 (hq.apart g4 (by decide) (by decide) (by decide)), g5.trans (h3.below g5.size (fun i _ hi => (hq.has_lt hi).1)), g6, g7⟩
theorem BaS.moved (h : BaS w bx ba be E C l L td ta b W) (t2 : Nat) : BaS w bx ba be E C l L td t2 b (W.setRow ba #[.int .i64 ((adS t2 : Nat) : Int), .int .i64 (C + ((t2 : Nat) : Int))]) := by
  obtain ⟨⟨q, hq⟩, g2, g3, g4, g5, g6, g7⟩ := h
  have ho : Out (fun j => j = ba) W (W.setRow ba #[.int .i64 ((adS t2 : Nat) : Int), .int .i64 (C + ((t2 : Nat) : Int))]) := out_row W ba _ rfl
  refine ⟨⟨q, hq.out ho (fun j hj hx => ?_)⟩, ho.blo g2 (fun e => ?_), blo_row g3 _, ho.blo g4 (fun e => g6 e.symm), below_setRow g5 g7.1 _, g6, g7⟩
  · have hx : j = ba := hx
    rw [hx] at hj
    exact hq.apart g3 (by decide) (by decide) (by decide) hj
  · exact g2.apart g3 (by decide) e
theorem BaS.ended (h : BaS w bx ba be E C l L td ta b W) (b2 : Nat) : BaS w bx ba be E C l L td ta b2 (W.setRow be #[.int .i64 ((adS (toS l b2) : Nat) : Int), .int .i64 (C + ((toS l b2 : Nat) : Int))]) := by
  obtain ⟨⟨q, hq⟩, g2, g3, g4, g5, g6, g7⟩ := h
  have ho : Out (fun j => j = be) W (W.setRow be #[.int .i64 ((adS (toS l b2) : Nat) : Int), .int .i64 (C + ((toS l b2 : Nat) : Int))]) := out_row W be _ rfl
  refine ⟨⟨q, hq.out ho (fun j hj hx => ?_)⟩, ho.blo g2 (fun e => ?_), ho.blo g3 (fun e => g6 e), blo_row g4 _, below_setRow g5 g7.2 _, g6, g7⟩
  · have hx : j = be := hx
    rw [hx] at hj
    exact hq.apart g4 (by decide) (by decide) (by decide) hj
  · exact g2.apart g4 (by decide) e
theorem PBox.later {gp : Nat} {m : Sm} {ia : Option Addr} (h : PBox gp m ia W) (hb : Below W.heap.size W w') : PBox gp m ia w' := Blo.later h hb
theorem PBox.cells {gp : Nat} {m : Sm} {ia : Option Addr} (h : PBox gp m ia W) : W.cell? ⟨gp, 0, none⟩ = some (.int .i64 m.e) ∧ W.cell? ⟨gp, 1, none⟩ = some (.int .i64 m.c) ∧ W.cell? ⟨gp, 2, none⟩ = some (.int .i64 m.i) ∧ W.cell? ⟨gp, 3, none⟩ = some (.int .i64 m.p) ∧ W.cell? ⟨gp, 4, none⟩ = some (.int .i64 m.x) ∧ W.cell? ⟨gp, 5, none⟩ = some (.slice none 0 0) ∧ W.cell? ⟨gp, 6, none⟩ = some (.slice ia 1 1) := ⟨Blo.cell h 0, Blo.cell h 1, Blo.cell h 2, Blo.cell h 3, Blo.cell h 4, Blo.cell h 5, Blo.cell h 6⟩
/-- The law's blocks of a piece, and its Write. -/
theorem piece_blocks (m : Sm) (ia : Option Addr) (k : Nat) (hm : m.fs = []) (hi : m.is.length = 1) (a : Option Addr) (hY : Bytes W a [k]) (hnil : a ≠ none) :
    Calls Tryd.prog 23 #[.agg #[.int .i64 m.e, .int .i64 m.c, .int .i64 m.i, .int .i64 m.p, .int .i64 m.x, .slice none 0 0, .slice ia 1 1], .slice a 1 1] W (BlkO W 1 [k]) := by
  refine blocks_any (w := W) m.e m.c m.i m.p m.x m.fs m.is none 0 0 ia 1 1 (by rw [hm]; exact Fis.nil _ _) (by rw [hm]; rfl) hi.symm ?_ (by omega) a 1 1 [k] hY rfl (by decide) (fun e => absurd e hnil) (by rw [hm]; decide)
  unfold blks
  rw [hi, hm]
  rfl
theorem BaS.write (h : BaS w bx ba be E C l L td ta b W) (ia : Option Addr) (hI : Ints W ia (mS E C l td).is) (hn : td < 24) (hB : BaI E C l td) (hE : 0 ≤ E ∧ E ≤ 65535) (hC : 0 ≤ C ∧ C ≤ 60000) (hb : bOf l td ≤ 5) (ht : Tab W) (hz : 0 < W.heap.size) {base : Nat} {a : Option Addr} {c : Nat} {G : Nat → Nat} (hR : RowB W base (.slice a 1 c) 1 G (rnd [td - toS l (bOf l td)])) (gp : Nat) (hp : PBox gp (mS E C l td) ia W) :
    Calls Tryd.prog 17 #[.pointer (some ⟨L.bd, 0, none⟩), .int .i64 ((adS td : Nat) : Int), .agg #[.int .i64 (mS E C l td).e, .int .i64 (mS E C l td).c, .int .i64 (mS E C l td).i, .int .i64 (mS E C l td).p, .int .i64 (mS E C l td).x, .slice none 0 0, .slice ia 1 1], .slice a 1 c] W fun e w' => e = .returned (.int .i64 0) ∧ BaS w bx ba be E C l L (td + 1) ta b w' ∧ PBox gp (mS E C l td) ia w' := by
  have hN := hB.next hn hE hC hb
  have hrm := hB.rm.mono (show 7 ≤ 400 - td * 10 by omega)
  obtain ⟨q, hq⟩ := h.dk
  have hw := write_row (w := W) (n := 1) (L := { L with qv := q }) ((adS td : Nat) : Int) (mS E C l td) none 0 0 ia 1 1 (Fis.nil _ _) rfl (by simp [szF, mS]) hI rfl (by omega) (fun x hx => by cases hx) hR (by omega) ht hz hrm hq
  have e1 : (segW (dS E C l td) ((adS td : Nat) : Int) (mS E C l td) (lsF (rnd [td - toS l (bOf l td)]) 1)) = (dS E C l (td + 1), 0) := Prod.ext rfl hN.1
  rw [e1] at hw
  refine hw.mono fun e w' hO => ?_
  obtain ⟨r1, r2⟩ := h.wrote hq hO
  obtain ⟨_, _, _, h3, _⟩ := hO
  exact ⟨r1, r2, h3.blo hp (hq.apart hp (by decide) (by decide) (by decide))⟩
end
end Go.Proofs.YtlkgaefabahkoaaDoor
/-
  The walk of SegBatches.
-/
namespace Go.Proofs.YtlkgaefabahkoaaDoor
open Go.RowKit

def PI1 (x : Int) : ObjL := fun v W => ∃ g, v = .slice (some ⟨g, 0, none⟩) 1 1 ∧ Blo W g IT #[.int .i64 x]
theorem later_pi1 (x : Int) : LaterP (PI1 x) := fun v W W' hb h => by
  obtain ⟨g, rfl, h⟩ := h
  exact ⟨g, rfl, h.later hb⟩
def PPt (e c i p x y : Int) : ObjL := fun v W => ∃ g, v = .agg #[.int .i64 e, .int .i64 c, .int .i64 i, .int .i64 p, .int .i64 x, .slice none 0 0, .slice (some ⟨g, 0, none⟩) 1 1] ∧ Blo W g IT #[.int .i64 y]
theorem later_ppt (e c i p x y : Int) : LaterP (PPt e c i p x y) := fun v W W' hb h => by
  obtain ⟨g, rfl, h⟩ := h
  exact ⟨g, rfl, h.later hb⟩
def zptB : Array Value := #[.int .i64 0, .int .i64 0, .int .i64 0, .int .i64 0, .int .i64 0, .slice none 0 0, .slice none 0 0]
def PBp (base : Nat) : ObjL := fun v W => ∃ g, v = .pointer (some ⟨g, 0, none⟩) ∧ base ≤ g ∧ Blo W g PT zptB
theorem later_pbp (base : Nat) : LaterP (PBp base) := fun v W W' hb h => by
  obtain ⟨g, rfl, hg, h⟩ := h
  exact ⟨g, rfl, hg, h.later hb⟩
theorem ints_oneB {W : World} {g : Nat} {x : Int} (h : Blo W g IT #[.int .i64 x]) : Ints W (some ⟨g, 0, none⟩) [x] := fun _ => ⟨g, 0, rfl, fun i hi => by
  have : i = 0 := by simp at hi; omega
  subst this
  exact h.cell 0⟩
theorem run_field_plB (a b : Value) (W : World) : (Instr.field PLT (.agg #[a, b]) 0).run Tryd.prog W = .ok a W := by
  kernel_rfl
theorem start_boxes {w wy : World} {bx : Nat} {L : Dl} (E C : Nat) (l : List Nat) (hb : Below w.heap.size w wy) (hD : ∃ q, Dk w.heap.size wy { L with qv := q } (newD 100)) (hS : Blo wy bx SUP #[.int .i64 100, .int .i64 16, .int .i64 9]) : BaS w bx wy.heap.size (wy.heap.size + 1) ((E : Nat) : Int) ((C : Nat) : Int) l L 0 0 0 ((wy.alloc (.cells #[.int .i64 19, .int .i64 ((C : Nat) : Int)] PLT)).alloc (.cells #[.int .i64 19, .int .i64 ((C : Nat) : Int)] PLT)) := by
  have h1 := sup_pc wy (.cells #[.int .i64 19, .int .i64 ((C : Nat) : Int)] PLT)
  have h2 := sup_pc (wy.alloc (.cells #[.int .i64 19, .int .i64 ((C : Nat) : Int)] PLT)) (.cells #[.int .i64 19, .int .i64 ((C : Nat) : Int)] PLT)
  have h3 := h1.trans (h2.mono h1.size)
  obtain ⟨q, hq⟩ := hD
  have e : ((C : Nat) : Int) + ((0 : Nat) : Int) = ((C : Nat) : Int) := by simp
  refine ⟨⟨q, hq.later h3⟩, hS.later h3, ?_, ?_, hb.trans (h3.mono hb.size), by omega, by have := hb.size; omega⟩
  · have := (blo_laid wy PLT #[.int .i64 19, .int .i64 ((C : Nat) : Int)]).later h2
    rw [e]
    exact this
  · have h4 := blo_laid (wy.alloc (.cells #[.int .i64 19, .int .i64 ((C : Nat) : Int)] PLT)) PLT #[.int .i64 19, .int .i64 ((C : Nat) : Int)]
    rw [World.size_alloc] at h4
    have e2 : adS (toS l 0) = 19 := by rw [show toS l 0 = 0 from rfl]; decide
    show Blo _ _ _ #[.int .i64 ((adS (toS l 0) : Nat) : Int), .int .i64 (((C : Nat) : Int) + ((0 : Nat) : Int))]
    rw [e, e2]
    exact h4
section
set_option maxRecDepth 1000000 in
set_option maxHeartbeats 16000000 in
theorem segBatches_walk (a : Option Addr) (len cap : Nat) (zs : List Int) (x y kc : Int) (w : World) (hL : Tab w ∧ 0 < w.heap.size) (hr : IsRow .u8 w a len cap zs) (_ : (Lit.int .i64 x).wf = true ∧ (Lit.int .i64 y).wf = true) (_ : (Lit.int .i64 kc).wf = true) :
    Calls Tryd.prog 5 #[.slice a len cap, .agg #[.int .i64 x, .int .i64 y], .int .i64 kc] w fun e w' => e = .returned (.bool true) ∧ Below w.heap.size w w' := by
  obtain ⟨l, hll, hY, -, -, -⟩ := hr.bytes
  obtain ⟨E, hE, eE⟩ := cut_mod x 65535 (by decide)
  obtain ⟨C, hC, eC⟩ := cut_mod y 59999 (by decide)
  obtain ⟨Lf, hLf, eL⟩ := cut_mod kc 24 (by decide)
  simp at eE eC eL
  have HT := Lib.hid (show ∀ W, Below w.heap.size w W → Tab W ∧ 0 < W.heap.size from fun W hb => ⟨hL.1.below hb hL.2, by have := hb.size; have := hL.2; omega⟩)
  have HY := Lib.hid (fun W (hb : Below w.heap.size w W) => hY.below hb)
  have HAw := Lib.hid (fun (W : World) (hb : Below w.heap.size w W) => awake_any W (HT.out W hb).1 (HT.out W hb).2)
  have HE : Hid ((0 : Int) ≤ ((E : Nat) : Int) ∧ ((E : Nat) : Int) ≤ 65535) := by show _ ∧ _; omega
  have HC : Hid ((0 : Int) ≤ ((C : Nat) : Int) ∧ ((C : Nat) : Int) ≤ 60000) := by show _ ∧ _; omega
  have HB0 := Lib.hid (sup_pc w (.cells #[.int .i64 x, .int .i64 y] 68))
  have HX0 := Lib.hid (blo_laid w 68 #[.int .i64 x, .int .i64 y])
  clear hL hr hY hE
  go_enter Tryd.func5, Tryd.ntmps5
  go_upto_region 1 with (fail)
  generalize w.alloc (.cells #[.int .i64 x, .int .i64 y] 68) = w0 at *
  go_wp2_with fail
  refine (HAw.out _ HB0.out).mono ?_
  rintro e w1 ⟨rfl, hb1⟩
  have HB1 := Lib.hid (HB0.out.trans (hb1.mono HB0.out.size))
  have HX1 := Lib.hid (HX0.out.later hb1)
  clear HAw HB0 HX0 hb1
  go_wp2_with fail
  have HS2 := Lib.hid (blo_laid w1 SUP #[.int .i64 100, .int .i64 16, .int .i64 9])
  have HB2 := Lib.hid (HB1.out.trans ((sup_pc w1 (.cells #[.int .i64 100, .int .i64 16, .int .i64 9] SUP)).mono HB1.out.size))
  have HX2 := Lib.hid (HX1.out.later (sup_pc w1 (.cells #[.int .i64 100, .int .i64 16, .int .i64 9] SUP)))
  clear HB1 HX1
  generalize w1.alloc (.cells #[.int .i64 100, .int .i64 16, .int .i64 9] SUP) = w2 at *
  generalize w1.heap.size = bx at *
  refine (new_any 100 w2 (by decide) (by decide)).mono ?_
  rintro e w3 ⟨L, rfl, hD, hb3⟩
  have HD3 := Lib.hid (hD.deeper HB2.out.size)
  have HS3 := Lib.hid (HS2.out.later hb3)
  have HX3 := Lib.hid (HX2.out.later hb3)
  have HB3 := Lib.hid (HB2.out.trans (hb3.mono HB2.out.size))
  clear hb3 hD HB2 HX2 HS2
  go_upto_region 7 with (fail)
  have k0 : ∀ x' : Kept w3, x'.at_.cell? ⟨w.heap.size, 0, none⟩ = some (.int .i64 x) := fun x' => (HX3.out.later x'.below).cell 0
  have k1 : ∀ x' : Kept w3, x'.at_.cell? ⟨w.heap.size, 1, none⟩ = some (.int .i64 y) := fun x' => (HX3.out.later x'.below).cell 1
  refine wp_region_kept (by kernel_rfl) (by kernel_rfl) ?_
  repeat (first | go_big_quiet_step (fail) | simp only [eE] | simp only [eC])
  refine wpQuiet_nil ?_
  rintro W4 ⟨w4, rfl⟩
  obtain ⟨wy, hwy⟩ : ∃ wy : World, wy = w4.at_ := ⟨_, rfl⟩
  have hb4 : Below w3.heap.size w3 wy := by rw [hwy]; exact w4.below
  rw [← hwy]
  clear hwy k0 k1 eE eC
  have HBx := Lib.hid (start_boxes E C l (HB3.out.trans (hb4.mono HB3.out.size)) ⟨L.qv, HD3.out.later hb4⟩ (HS3.out.later hb4))
  clear hb4 HD3 HS3 HX3 HB3
  have HI0 : Hid (BaI ((E : Nat) : Int) ((C : Nat) : Int) l 0) := BaI.start _ _ l
  go_wp2_with fail
  rw [eL]
  generalize (wy.alloc (.cells #[.int .i64 19, .int .i64 ((C : Nat) : Int)] PLT)).alloc (.cells #[.int .i64 19, .int .i64 ((C : Nat) : Int)] PLT) = w5 at *
  generalize wy.heap.size + 1 = be at *
  generalize wy.heap.size = ba at *
  clear eL
  go_loopw [14, 15, 17] (fun vb vf vi wr => ∃ i b lf t : Nat, i ≤ 6 ∧ i ≤ l.length ∧ lf + t = Lf ∧ ((b = i ∧ t = toS l i) ∨ (lf = 0 ∧ i = b + 1 ∧ toS l b ≤ t ∧ t < toS l i)) ∧ vb = .int .i64 ((b : Nat) : Int) ∧ vf = .int .i64 ((lf : Nat) : Int) ∧ vi = .int .i64 ((i : Nat) : Int) ∧ BaI ((E : Nat) : Int) ((C : Nat) : Int) l t ∧ BaS w bx ba be ((E : Nat) : Int) ((C : Nat) : Int) l L t t b wr) (fun _ _ vi _ => 6 - (intOf vi).toNat)
  case atStart => exact ⟨0, 0, Lf, 0, by omega, by omega, rfl, .inl ⟨rfl, rfl⟩, rfl, rfl, rfl, HI0.out, HBx.out⟩
  case round =>
    clear HI0 HBx
    obtain ⟨i, b, lf, t, hi6, hil, hlf, hcs, rfl, rfl, rfl, hI, hS⟩ := hrel
    have HI := Lib.hid hI
    have HS := Lib.hid hS
    clear hI hS
    by_cases hgo : i < l.length ∧ i < 6 ∧ 0 < lf ∧ t + nnS l i ≤ 24
    · obtain ⟨h1, h2, h3, h4⟩ := hgo
      obtain ⟨rfl, rfl⟩ : i = b ∧ t = toS l i := by omega
      clear hcs
      obtain ⟨q, hq⟩ : ∃ q : Nat, l.getD i 0 = q := ⟨_, rfl⟩
      obtain ⟨b', o', rfl, hce⟩ : ∃ b' o', a = some ⟨b', o', none⟩ ∧ wr.cell? ⟨b', o' + i, none⟩ = some (.int .u8 ((q : Nat) : Int)) := by
        obtain ⟨b', o', e1, e2⟩ := (HY.out wr HS.out.below).2.2 (fun e => by rw [e] at h1; simp at h1)
        exact ⟨b', o', e1, by rw [← hq]; exact e2 i h1⟩
      obtain ⟨n, hnq⟩ : ∃ n : Nat, nnS l i = n := ⟨_, rfl⟩
      have hnq2 : q % 4 + 1 = n := by rw [← hnq, ← hq]; rfl
      have en : ((q : Nat) : Int) % 4 + 1 = ((n : Nat) : Int) := by omega
      have hnn := nnS_bd l i
      rw [hnq] at hnn h4
      have c1 := HS.out.at_.cell 1
      simp at c1
      obtain ⟨t0, ht0⟩ : ∃ t0, toS l i = t0 := ⟨_, rfl⟩
      have HN := Lib.hid hnq
      have HT0 := Lib.hid ht0
      rw [ht0] at h4 hlf c1 HI HS
      clear hq hnq ht0 hnq2
      obtain ⟨wo, rfl⟩ : ∃ wo, wo = wr := ⟨_, rfl⟩
      go_wp2_with fail
      clear hce c1
      go_loopw [14, 15, 19] (fun vb vf vk wr => ∃ k lf b : Nat, k ≤ n ∧ lf + (t0 + k) = Lf ∧ ((k < n ∧ b = i) ∨ (k = n ∧ b = i + 1)) ∧ vb = .int .i64 ((b : Nat) : Int) ∧ vf = .int .i64 ((lf : Nat) : Int) ∧ vk = .int .i64 ((k : Nat) : Int) ∧ BaI ((E : Nat) : Int) ((C : Nat) : Int) l (t0 + k) ∧ BaS w bx ba be ((E : Nat) : Int) ((C : Nat) : Int) l L (t0 + k) (t0 + k) b wr) (fun _ _ vk _ => 4 - (intOf vk).toNat)
      case atStart => exact ⟨0, lf, i, by omega, by omega, .inl ⟨by omega, rfl⟩, rfl, rfl, rfl, HI.out, HS.out⟩
      case round =>
        clear HI HS
        obtain ⟨k, lf2, b2, hk, hlf2, hcs, rfl, rfl, rfl, hI, hS⟩ := hrel
        have HI := Lib.hid hI
        have HS := Lib.hid hS
        clear hI hS
        by_cases hgo : k < n ∧ 0 < lf2
        · obtain ⟨g1, g2⟩ := hgo
          obtain rfl : i = b2 := by omega
          obtain ⟨lf1, rfl⟩ : ∃ lf1, lf2 = lf1 + 1 := ⟨lf2 - 1, by omega⟩
          clear hcs
          obtain ⟨tt, htt⟩ : ∃ tt, t0 + k = tt := ⟨_, rfl⟩
          have ht24 : tt < 24 := by omega
          have HKt := Lib.hid htt
          have HLf : Hid (lf1 + (tt + 1) = Lf) := by show _ = _; omega
          rw [htt] at HI HS
          have hbo : bOf l tt = i := bOf_eq l (by have := HT0.out; omega) (by rw [toS_succ]; have := HT0.out; have := HN.out; omega)
          have hkk : tt - toS l (bOf l tt) = k := by rw [hbo]; have := HT0.out; omega
          obtain ⟨z, hz⟩ : ∃ z, adS tt = z := ⟨_, rfl⟩
          obtain ⟨z2, hz2⟩ : ∃ z2, adS (tt + 1) = z2 := ⟨_, rfl⟩
          obtain ⟨c0, hc0⟩ : ∃ c0 : Int, ((C : Nat) : Int) + ((tt : Nat) : Int) = c0 := ⟨_, rfl⟩
          have hm : mS ((E : Nat) : Int) ((C : Nat) : Int) l tt = ⟨((E : Nat) : Int), c0, ((k : Nat) : Int), ((n : Nat) : Int), ((z2 : Nat) : Int), [], [((i : Nat) : Int) + 1]⟩ := by
            unfold mS
            rw [hkk, hbo, HN.out, hz2, hc0]
          have HM := Lib.hid hm
          have HKK := Lib.hid hkk
          have HBo := Lib.hid hbo
          have HCp : Hid (∀ W, Below wr.heap.size wr W → W.cell? ⟨ba, 0, none⟩ = some (.int .i64 ((z : Nat) : Int)) ∧ W.cell? ⟨ba, 1, none⟩ = some (.int .i64 c0)) := fun W hb => by
            have h := (HS.out.later hb).at_
            rw [hz, hc0] at h
            exact ⟨h.cell 0, h.cell 1⟩
          have HNx : Hid (∀ W, Blo W bx SUP #[.int .i64 100, .int .i64 16, .int .i64 9] → Calls Tryd.prog 27 #[.agg #[.int .i64 ((z : Nat) : Int), .int .i64 c0], .pointer (some ⟨bx, 0, none⟩)] W fun e w' => e = .returned (.agg #[.int .i64 ((z2 : Nat) : Int), .int .i64 (c0 + 1)]) ∧ Below W.heap.size W w') := fun W hX => by
            have h := next_any tt c0 ht24 (by have := HC.out; omega) hX
            rw [hz, hz2] at h
            exact h
          have HZ := Lib.hid hz
          have HZ2 := Lib.hid hz2
          have HC0 := Lib.hid hc0
          have hwi : IntKind.i64.wrap (((i : Nat) : Int) + 1) = ((i : Nat) : Int) + 1 := IntWalk.i64_in _ (by omega)
          have hfd := run_field_plB (.int .i64 ((z2 : Nat) : Int)) (.int .i64 (c0 + 1))
          clear hbo hkk hz hz2 hc0 hm htt hlf2
          go_upto_region 20 with (fail)
          obtain ⟨RL, hRL⟩ : ∃ RL : List (Nat × ObjL), RL = [(11, PI1 (((i : Nat) : Int) + 1)), (12, PPt ((E : Nat) : Int) c0 ((k : Nat) : Int) ((n : Nat) : Int) ((z2 : Nat) : Int) (((i : Nat) : Int) + 1)), (13, PBp wr.heap.size)] := ⟨_, rfl⟩
          obtain ⟨TL, hTL⟩ : ∃ TL : List (Nat × Value), TL = [(0, .int .i64 ((E : Nat) : Int)), (1, .pointer (some ⟨ba, 1, none⟩)), (2, .int .i64 c0), (3, .int .i64 ((k : Nat) : Int)), (4, .int .i64 ((n : Nat) : Int)), (5, .func (.func 27) #[] #[.pointer (some ⟨bx, 0, none⟩)]), (6, .agg #[.int .i64 ((z : Nat) : Int), .int .i64 c0]), (7, .agg #[.int .i64 ((z2 : Nat) : Int), .int .i64 (c0 + 1)]), (8, .int .i64 ((z2 : Nat) : Int)), (9, .int .i64 ((i : Nat) : Int)), (10, .int .i64 (((i : Nat) : Int) + 1))] := ⟨_, rfl⟩
          have hKB : keysL RL := by intro x hx y hy e; simp only [hRL, List.mem_cons, List.not_mem_nil, or_false] at hx hy; rcases hx with rfl | rfl | rfl <;> rcases hy with rfl | rfl | rfl <;> first | rfl | (exfalso; simp at e; done) | fail
          have hLB : ∀ x ∈ RL, LaterP x.2 := by intro x hx; simp only [hRL, List.mem_cons, List.not_mem_nil, or_false] at hx; rcases hx with rfl | rfl | rfl <;> first | exact later_pi1 _ | exact later_ppt _ _ _ _ _ _ | exact later_pbp _ | fail
          refine wp_region_inv (n := 14) [(0, 96), (1, 97), (2, 98), (3, 99), (4, 100), (5, 101), (6, 102), (7, 103), (8, 104), (9, 105), (10, 106), (11, 107), (12, 108), (13, 20)] (GL RL TL wr) (by kernel_rfl) (by kernel_rfl) (by kernel_rfl) (fun X => by simp only [putL, Act.put, List.setIfInBounds_toArray, List.set_cons_zero, List.set_cons_succ]; rfl) (fun X => GL.start (Below.refl _ _).drew) ?_ ?_
          · show StepsI _ _ _ _ _ 0 [_, _, _, _, _, _, _, _, _, _, _, _, _, _]
            refine ⟨fun D X W hD hd hI Kx hK => ?_, ?_⟩
            · exact stepO_run (v := .int .i64 ((E : Nat) : Int)) (w' := W) (by simp [Region.wanted]) (by simp [go_sem, execOp]) (hK _ _ (hI.tell hLB 0 _ (Below.refl _ _) (by simp [hRL]) (by simp [hTL])))
            refine ⟨fun D X W hD hd hI Kx hK => ?_, ?_⟩
            · exact stepO_run (v := .pointer (some ⟨ba, 1, none⟩)) (w' := W) (by simp [Region.wanted]) (by simp [go_sem, execOp]) (hK _ _ (hI.tell hLB 1 _ (Below.refl _ _) (by simp [hRL]) (by simp [hTL])))
            refine ⟨fun D X W hD hd hI Kx hK => ?_, ?_⟩
            · have a1 := hI.dt (1, .pointer (some ⟨ba, 1, none⟩)) (by simp [hTL]) (hd ⟨1, .data⟩ (by simp) rfl)
              obtain ⟨k0, k1⟩ := HCp.out W hI.b
              exact stepO_run (v := .int .i64 c0) (w' := W) (by simp [Region.wanted]) (by simp [go_sem, execOp, a1, k1]) (hK _ _ (hI.tell hLB 2 _ (Below.refl _ _) (by simp [hRL]) (by simp [hTL])))
            refine ⟨fun D X W hD hd hI Kx hK => ?_, ?_⟩
            · exact stepO_run (v := .int .i64 ((k : Nat) : Int)) (w' := W) (by simp [Region.wanted]) (by simp [go_sem, execOp]) (hK _ _ (hI.tell hLB 3 _ (Below.refl _ _) (by simp [hRL]) (by simp [hTL])))
            refine ⟨fun D X W hD hd hI Kx hK => ?_, ?_⟩
            · exact stepO_run (v := .int .i64 ((n : Nat) : Int)) (w' := W) (by simp [Region.wanted]) (by simp [go_sem, execOp]) (hK _ _ (hI.tell hLB 4 _ (Below.refl _ _) (by simp [hRL]) (by simp [hTL])))
            refine ⟨fun D X W hD hd hI Kx hK => ?_, ?_⟩
            · exact stepO_run (v := .func (.func 27) #[] #[.pointer (some ⟨bx, 0, none⟩)]) (w' := W) (by simp [Region.wanted]) (by simp [go_sem, execOp]) (hK _ _ (hI.tell hLB 5 _ (Below.refl _ _) (by simp [hRL]) (by simp [hTL])))
            refine ⟨fun D X W hD hd hI Kx hK => ?_, ?_⟩
            · obtain ⟨k0, k1⟩ := HCp.out W hI.b
              exact stepO_run (v := .agg #[.int .i64 ((z : Nat) : Int), .int .i64 c0]) (w' := W) (by simp [Region.wanted]) (by simp [go_sem, execOp, id, k0, k1]) (hK _ _ (hI.tell hLB 6 _ (Below.refl _ _) (by simp [hRL]) (by simp [hTL])))
            refine ⟨fun D X W hD hd hI Kx hK => ?_, ?_⟩
            · have a5 := hI.dt (5, .func (.func 27) #[] #[.pointer (some ⟨bx, 0, none⟩)]) (by simp [hTL]) (hd ⟨5, .data⟩ (by simp) rfl)
              have a6 := hI.dt (6, .agg #[.int .i64 ((z : Nat) : Int), .int .i64 c0]) (by simp [hTL]) (hd ⟨6, .data⟩ (by simp) rfl)
              refine stepO_call (f := 27) (args := #[.agg #[.int .i64 ((z : Nat) : Int), .int .i64 c0], .pointer (some ⟨bx, 0, none⟩)]) (by simp [Region.wanted]) (by simp [go_sem, execOp, a5, a6]) (HNx.out W (HS.out.later hI.b).sup) (fun e W' hr => ⟨_, hr.1, hK _ _ ?_⟩)
              exact hI.tell hLB 7 _ hr.2 (by simp [hRL]) (by simp [hTL])
            refine ⟨fun D X W hD hd hI Kx hK => ?_, ?_⟩
            · have a7 := hI.dt (7, .agg #[.int .i64 ((z2 : Nat) : Int), .int .i64 (c0 + 1)]) (by simp [hTL]) (hd ⟨7, .data⟩ (by simp) rfl)
              exact stepO_run (v := .int .i64 ((z2 : Nat) : Int)) (w' := W) (by simp [Region.wanted]) (by simp [go_sem, execOp, a7, hfd]) (hK _ _ (hI.tell hLB 8 _ (Below.refl _ _) (by simp [hRL]) (by simp [hTL])))
            refine ⟨fun D X W hD hd hI Kx hK => ?_, ?_⟩
            · exact stepO_run (v := .int .i64 ((i : Nat) : Int)) (w' := W) (by simp [Region.wanted]) (by simp [go_sem, execOp]) (hK _ _ (hI.tell hLB 9 _ (Below.refl _ _) (by simp [hRL]) (by simp [hTL])))
            refine ⟨fun D X W hD hd hI Kx hK => ?_, ?_⟩
            · have a9 := hI.dt (9, .int .i64 ((i : Nat) : Int)) (by simp [hTL]) (hd ⟨9, .data⟩ (by simp) rfl)
              exact stepO_run (v := .int .i64 (((i : Nat) : Int) + 1)) (w' := W) (by simp [Region.wanted]) (by simp [go_sem, execOp, a9, hwi]) (hK _ _ (hI.tell hLB 10 _ (Below.refl _ _) (by simp [hRL]) (by simp [hTL])))
            refine ⟨fun D X W hD hd hI Kx hK => ?_, ?_⟩
            · have a10 := hI.dt (10, .int .i64 (((i : Nat) : Int) + 1)) (by simp [hTL]) (hd ⟨10, .data⟩ (by simp) rfl)
              exact stepO_run (v := .slice (some ⟨W.heap.size, 0, none⟩) 1 1) (w' := W.alloc (.cells #[.int .i64 (((i : Nat) : Int) + 1)] IT)) (by simp [Region.wanted]) (by simp [go_sem, execOp, a10]) (hK _ _ (hI.fresh hKB hLB 11 _ (PI1 (((i : Nat) : Int) + 1)) (by simp [hRL]) (sup_pc W _) ⟨W.heap.size, rfl, blo_laid W _ _⟩ (by simp [hTL])))
            refine ⟨fun D X W hD hd hI Kx hK => ?_, ?_⟩
            · have a0 := hI.dt (0, .int .i64 ((E : Nat) : Int)) (by simp [hTL]) (hd ⟨0, .data⟩ (by simp) rfl)
              have a2 := hI.dt (2, .int .i64 c0) (by simp [hTL]) (hd ⟨2, .data⟩ (by simp) rfl)
              have a3 := hI.dt (3, .int .i64 ((k : Nat) : Int)) (by simp [hTL]) (hd ⟨3, .data⟩ (by simp) rfl)
              have a4 := hI.dt (4, .int .i64 ((n : Nat) : Int)) (by simp [hTL]) (hd ⟨4, .data⟩ (by simp) rfl)
              have a8 := hI.dt (8, .int .i64 ((z2 : Nat) : Int)) (by simp [hTL]) (hd ⟨8, .data⟩ (by simp) rfl)
              have r11 := hI.rows (11, PI1 (((i : Nat) : Int) + 1)) (by simp [hRL]) (hd ⟨11, .data⟩ (by simp) rfl)
              obtain ⟨gi, hx, hb⟩ := r11
              have hx2 : X 11 = _ := hx
              exact stepO_run (v := .agg #[.int .i64 ((E : Nat) : Int), .int .i64 c0, .int .i64 ((k : Nat) : Int), .int .i64 ((n : Nat) : Int), .int .i64 ((z2 : Nat) : Int), .slice none 0 0, .slice (some ⟨gi, 0, none⟩) 1 1]) (w' := W) (by simp [Region.wanted]) (by simp [go_sem, execOp, a0, a2, a3, a4, a8, hx2]) (hK _ _ (hI.fresh hKB hLB 12 _ (PPt ((E : Nat) : Int) c0 ((k : Nat) : Int) ((n : Nat) : Int) ((z2 : Nat) : Int) (((i : Nat) : Int) + 1)) (by simp [hRL]) (Below.refl _ _) ⟨gi, rfl, hb⟩ (by simp [hTL])))
            refine ⟨fun D X W hD hd hI Kx hK => ?_, ?_⟩
            · exact stepO_run (v := .pointer (some ⟨W.heap.size, 0, none⟩)) (w' := W.alloc (.cells zptB PT)) (by simp [Region.wanted]) (by simp [go_sem, execOp, zptB]) (hK _ _ (hI.fresh hKB hLB 13 _ (PBp wr.heap.size) (by simp [hRL]) (sup_pc W _) ⟨W.heap.size, rfl, hI.b.size, blo_laid W _ _⟩ (by simp [hTL])))
            exact True.intro
          intro D X W hD hI
          obtain ⟨gi, hx12, hbi⟩ := hI.rows (12, PPt ((E : Nat) : Int) c0 ((k : Nat) : Int) ((n : Nat) : Int) ((z2 : Nat) : Int) (((i : Nat) : Int) + 1)) (by simp [hRL]) (hD 12 (by decide))
          obtain ⟨gp, hx13, hgp, hbp⟩ := hI.rows (13, PBp wr.heap.size) (by simp [hRL]) (hD 13 (by decide))
          have k12 : X 12 = _ := hx12
          have k13 : X 13 = _ := hx13
          have HBw := Lib.hid hI.b
          rw [k12, k13]
          simp only [List.drop_succ_cons, List.drop_zero]
          clear hI hD hx12 hx13 hKB hLB hRL hTL HCp
          have HBy := Lib.hid (show Below wr.heap.size wr (W.setRow gp #[.int .i64 ((E : Nat) : Int), .int .i64 c0, .int .i64 ((k : Nat) : Int), .int .i64 ((n : Nat) : Int), .int .i64 ((z2 : Nat) : Int), .slice none 0 0, .slice (some ⟨gi, 0, none⟩) 1 1]) from below_setRow HBw.out hgp _)
          have HSy := Lib.hid (HS.out.later HBy.out)
          have HPy := Lib.hid (show Blo (W.setRow gp #[.int .i64 ((E : Nat) : Int), .int .i64 c0, .int .i64 ((k : Nat) : Int), .int .i64 ((n : Nat) : Int), .int .i64 ((z2 : Nat) : Int), .slice none 0 0, .slice (some ⟨gi, 0, none⟩) 1 1]) gp PT #[.int .i64 ((E : Nat) : Int), .int .i64 c0, .int .i64 ((k : Nat) : Int), .int .i64 ((n : Nat) : Int), .int .i64 ((z2 : Nat) : Int), .slice none 0 0, .slice (some ⟨gi, 0, none⟩) 1 1] from blo_row hbp _)
          have HIy := Lib.hid (show Blo (W.setRow gp #[.int .i64 ((E : Nat) : Int), .int .i64 c0, .int .i64 ((k : Nat) : Int), .int .i64 ((n : Nat) : Int), .int .i64 ((z2 : Nat) : Int), .slice none 0 0, .slice (some ⟨gi, 0, none⟩) 1 1]) gi IT #[.int .i64 (((i : Nat) : Int) + 1)] from (out_row (X := fun j => j = gp) W gp _ rfl).blo hbi (fun e => hbi.apart hbp (by decide) e))
          go_upto_region 21 with (refine wpList_store_row rfl PT (.tmp 20) (.tmp 108) rfl gp #[.int .i64 ((E : Nat) : Int), .int .i64 c0, .int .i64 ((k : Nat) : Int), .int .i64 ((n : Nat) : Int), .int .i64 ((z2 : Nat) : Int), .slice none 0 0, .slice (some ⟨gi, 0, none⟩) 1 1] (by first | rfl | simp [go_sem]) (by first | rfl | simp [go_sem]) PT _ hbp (by kernel_rfl) rfl (by simp [Value.oneCell']) ?_)
          clear hbi hbp hgp k12 k13 hfd hwi
          generalize W.setRow gp #[.int .i64 ((E : Nat) : Int), .int .i64 c0, .int .i64 ((k : Nat) : Int), .int .i64 ((n : Nat) : Int), .int .i64 ((z2 : Nat) : Int), .slice none 0 0, .slice (some ⟨gi, 0, none⟩) 1 1] = w8 at *
          have HBl : Hid (∀ W, Below w8.heap.size w8 W → Bytes W (some ⟨w8.heap.size, 0, none⟩) [k] → Calls Tryd.prog 23 #[.agg #[.int .i64 ((E : Nat) : Int), .int .i64 c0, .int .i64 ((k : Nat) : Int), .int .i64 ((n : Nat) : Int), .int .i64 ((z2 : Nat) : Int), .slice none 0 0, .slice (some ⟨gi, 0, none⟩) 1 1], .slice (some ⟨w8.heap.size, 0, none⟩) 1 1] W (BlkO W 1 [k])) := fun W hb hY => piece_blocks (W := W) ⟨((E : Nat) : Int), c0, ((k : Nat) : Int), ((n : Nat) : Int), ((z2 : Nat) : Int), [], [((i : Nat) : Int) + 1]⟩ (some ⟨gi, 0, none⟩) k rfl rfl (some ⟨w8.heap.size, 0, none⟩) hY (by simp)
          have HWr : Hid (∀ W base b1 c1 G, Below w8.heap.size w8 W → RowB W base (.slice b1 1 c1) 1 G (rnd [k]) → Calls Tryd.prog 17 #[.pointer (some ⟨L.bd, 0, none⟩), .int .i64 ((z : Nat) : Int), .agg #[.int .i64 ((E : Nat) : Int), .int .i64 c0, .int .i64 ((k : Nat) : Int), .int .i64 ((n : Nat) : Int), .int .i64 ((z2 : Nat) : Int), .slice none 0 0, .slice (some ⟨gi, 0, none⟩) 1 1], .slice b1 1 c1] W fun e w' => e = .returned (.int .i64 0) ∧ BaS w bx ba be ((E : Nat) : Int) ((C : Nat) : Int) l L (tt + 1) tt i w' ∧ Blo w' ba PLT #[.int .i64 ((z : Nat) : Int), .int .i64 c0] ∧ Blo w' gp PT #[.int .i64 ((E : Nat) : Int), .int .i64 c0, .int .i64 ((k : Nat) : Int), .int .i64 ((n : Nat) : Int), .int .i64 ((z2 : Nat) : Int), .slice none 0 0, .slice (some ⟨gi, 0, none⟩) 1 1]) := fun W base b1 c1 G hb hR => by
            have hS := HSy.out.later hb
            have h := hS.write (some ⟨gi, 0, none⟩) (by rw [HM.out]; exact ints_oneB (HIy.out.later hb)) ht24 HI.out HE.out HC.out (by rw [HBo.out]; omega) (HT.out W hS.below).1 (HT.out W hS.below).2 (base := base) (a := b1) (c := c1) (G := G) (by rw [HKK.out]; exact hR) gp (by rw [HM.out]; exact HPy.out.later hb)
            rw [HM.out, HZ.out] at h
            refine h.mono fun e w' hO => ⟨hO.1, hO.2.1, ?_, hO.2.2⟩
            have h2 := hO.2.1.at_
            rw [HZ.out, HC0.out] at h2
            exact h2
          have HK : Hid (∀ W, Blo W ba PLT #[.int .i64 ((z : Nat) : Int), .int .i64 c0] → Blo W gp PT #[.int .i64 ((E : Nat) : Int), .int .i64 c0, .int .i64 ((k : Nat) : Int), .int .i64 ((n : Nat) : Int), .int .i64 ((z2 : Nat) : Int), .slice none 0 0, .slice (some ⟨gi, 0, none⟩) 1 1] → (W.cell? ⟨ba, 0, none⟩ = some (.int .i64 ((z : Nat) : Int)) ∧ W.cell? ⟨gp, 0, none⟩ = some (.int .i64 ((E : Nat) : Int)) ∧ W.cell? ⟨gp, 1, none⟩ = some (.int .i64 c0) ∧ W.cell? ⟨gp, 2, none⟩ = some (.int .i64 ((k : Nat) : Int)) ∧ W.cell? ⟨gp, 3, none⟩ = some (.int .i64 ((n : Nat) : Int)) ∧ W.cell? ⟨gp, 4, none⟩ = some (.int .i64 ((z2 : Nat) : Int)) ∧ W.cell? ⟨gp, 5, none⟩ = some (.slice none 0 0) ∧ W.cell? ⟨gp, 6, none⟩ = some (.slice (some ⟨gi, 0, none⟩) 1 1))) := fun W h1 hX => ⟨h1.cell 0, hX.cell 0, hX.cell 1, hX.cell 2, hX.cell 3, hX.cell 4, hX.cell 5, hX.cell 6⟩
          have HKb : Hid (∀ W, Below w8.heap.size w8 W → (W.cell? ⟨ba, 0, none⟩ = some (.int .i64 ((z : Nat) : Int)) ∧ W.cell? ⟨gp, 0, none⟩ = some (.int .i64 ((E : Nat) : Int)) ∧ W.cell? ⟨gp, 1, none⟩ = some (.int .i64 c0) ∧ W.cell? ⟨gp, 2, none⟩ = some (.int .i64 ((k : Nat) : Int)) ∧ W.cell? ⟨gp, 3, none⟩ = some (.int .i64 ((n : Nat) : Int)) ∧ W.cell? ⟨gp, 4, none⟩ = some (.int .i64 ((z2 : Nat) : Int)) ∧ W.cell? ⟨gp, 5, none⟩ = some (.slice none 0 0) ∧ W.cell? ⟨gp, 6, none⟩ = some (.slice (some ⟨gi, 0, none⟩) 1 1))) := fun W hb => HK.out W (by have h2 := (HSy.out.later hb).at_; rw [HZ.out, HC0.out] at h2; exact h2) (HPy.out.later hb)
          have HK7 := Lib.hid (HKb.out (w8.alloc (.cells #[.int .u8 ((k : Nat) : Int)] U8)).drew ((sup_pc w8 _).drew))
          have HK8 := Lib.hid (HKb.out (w8.alloc (.cells #[.int .u8 ((k : Nat) : Int)] U8)) (sup_pc w8 _))
          have HY7 : Hid (Bytes (w8.alloc (.cells #[.int .u8 ((k : Nat) : Int)] U8)).drew (some ⟨w8.heap.size, 0, none⟩) [k]) := (bytes_one w8 k (by omega)).below ((Below.refl _ _).drew)
          have h8 : IntKind.u8.wrap ((k : Nat) : Int) = ((k : Nat) : Int) := by
            unfold IntKind.wrap
            simp [IntKind.bits, IntKind.signed]
            omega
          clear HBw HBy HIy
          go_region_held (fun W => W.cell? ⟨ba, 0, none⟩ = some (.int .i64 ((z : Nat) : Int)) ∧ W.cell? ⟨gp, 0, none⟩ = some (.int .i64 ((E : Nat) : Int)) ∧ W.cell? ⟨gp, 1, none⟩ = some (.int .i64 c0) ∧ W.cell? ⟨gp, 2, none⟩ = some (.int .i64 ((k : Nat) : Int)) ∧ W.cell? ⟨gp, 3, none⟩ = some (.int .i64 ((n : Nat) : Int)) ∧ W.cell? ⟨gp, 4, none⟩ = some (.int .i64 ((z2 : Nat) : Int)) ∧ W.cell? ⟨gp, 5, none⟩ = some (.slice none 0 0) ∧ W.cell? ⟨gp, 6, none⟩ = some (.slice (some ⟨gi, 0, none⟩) 1 1))
            (first | exact HKb.out _ ((Below.refl _ _).drew) | exact HK7.out | exact HK8.out | exact HKb.out _ HB3.out | exact HK.out _ HA4.out HX4.out | fail)
            (first
              | (go_at_call 23; (with_reducible refine (HBl.out _ (by repeat (first | exact Below.refl _ _ | apply Below.drew | refine Below.alloc ?_ (by simp <;> omega) _)) HY7.out).mono ?_); rintro e w3 ⟨b1, c1, G, rfl, hR3, hb3⟩; have HR3 := Lib.hid hR3; have HB3 := Lib.hid (show Below w8.heap.size w8 w3 from Below.trans (by repeat (first | exact Below.refl _ _ | apply Below.drew | refine Below.alloc ?_ (by simp <;> omega) _)) (hb3.mono (by simp <;> omega))); clear hR3 hb3)
              | (go_at_call 17; (with_reducible refine (HWr.out _ _ _ _ _ HB3.out HR3.out).mono ?_); rintro e w4 ⟨rfl, hT4, hA4, hX4⟩; have HT4 := Lib.hid hT4; have HA4 := Lib.hid hA4; have HX4 := Lib.hid hX4; clear hT4 hA4 hX4)
              | fail)
          rename_i hHeld
          clear hHeld HK HKb HK7 HK8 HBl HWr HR3 HB3 HX4 HY7 HPy HSy h8
          have hA4 := HA4.out
          have hlb : lf1 ≤ 24 := by have := HLf.out; omega
          have d0 := hA4.cell 0
          have d1 := hA4.cell 1
          simp at d0 d1
          clear HA4 hA4
          go_wp2_with fail
          refine (HNx.out w4 HT4.out.sup).mono ?_
          rintro e w5 ⟨rfl, hb5⟩
          have HT5 := Lib.hid (HT4.out.later hb5)
          have hA5 := HT5.out.at_
          rw [HZ.out, HC0.out] at hA5
          have hce : ((C : Nat) : Int) + ((tt + 1 : Nat) : Int) = c0 + 1 := by have := HC0.out; omega
          have HCe := Lib.hid hce
          have HT6 : Hid (BaS w bx ba be ((E : Nat) : Int) ((C : Nat) : Int) l L (tt + 1) (tt + 1) i (w5.setRow ba #[.int .i64 ((z2 : Nat) : Int), .int .i64 (c0 + 1)])) := by
            have h := HT5.out.moved (tt + 1)
            rw [HZ2.out, hce] at h
            exact h
          clear d0 d1 HT4 hb5 hce
          go_upto_region 24 with (refine wpList_store_row rfl PLT (.tmp 12) (.tmp 122) rfl ba #[.int .i64 ((z2 : Nat) : Int), .int .i64 (c0 + 1)] (by first | rfl | simp [go_sem]) (by first | rfl | simp [go_sem]) PLT _ hA5 (by kernel_rfl) rfl (by simp [Value.oneCell']) ?_)
          clear hA5 HT5 HNx
          generalize w5.setRow ba #[.int .i64 ((z2 : Nat) : Int), .int .i64 (c0 + 1)] = w6 at *
          have hA6 : Blo w6 ba PLT #[.int .i64 ((z2 : Nat) : Int), .int .i64 (c0 + 1)] := by have h := HT6.out.at_; rw [HZ2.out, HCe.out] at h; exact h
          have HI6 := Lib.hid (HI.out.next ht24 HE.out HC.out (by rw [HBo.out]; omega)).2
          have hE6 := HT6.out.en
          clear HI HS HM HKK HBo HZ
          by_cases hkn : k + 1 = n
          · have q1 : (((k : Nat) : Int) == ((n : Nat) : Int) - 1) = true := by rw [beq_iff_eq]; omega
            have d0 := hA6.cell 0
            have d1 := hA6.cell 1
            simp at d0 d1
            have htn : toS l (i + 1) = tt + 1 := by rw [toS_succ, HT0.out, HN.out]; have := HKt.out; omega
            have HT7 : Hid (BaS w bx ba be ((E : Nat) : Int) ((C : Nat) : Int) l L (tt + 1) (tt + 1) (i + 1) (w6.setRow be #[.int .i64 ((z2 : Nat) : Int), .int .i64 (c0 + 1)])) := by
              have h := HT6.out.ended (i + 1)
              rw [htn, HZ2.out, HCe.out] at h
              exact h
            clear htn
            go_upto_region 27 with (fail)
            go_wp2_with (refine wpList_store_row rfl PLT (.tmp 16) (.tmp 131) rfl be #[.int .i64 ((z2 : Nat) : Int), .int .i64 (c0 + 1)] (by first | rfl | simp [go_sem]) (by first | rfl | simp [go_sem]) PLT _ hE6 (by kernel_rfl) rfl (by simp [Value.oneCell']) ?_)
            go_roundw
            case rel => exact ⟨k + 1, lf1, i + 1, by omega, by have := HLf.out; have := HKt.out; omega, .inr ⟨hkn, rfl⟩, by simp, rfl, by simp, by have := HI6.out; have e := HKt.out; rw [show t0 + (k + 1) = tt + 1 by omega]; exact this, by have := HT7.out; have e := HKt.out; rw [show t0 + (k + 1) = tt + 1 by omega]; exact this⟩
            case measure => simp [intOf]; omega
          · have q1 : (((k : Nat) : Int) == ((n : Nat) : Int) - 1) = false := by rw [beq_eq_false_iff_ne]; omega
            clear hA6 hE6
            go_wp2_with fail
            go_roundw
            case rel => exact ⟨k + 1, lf1, i, by omega, by have := HLf.out; have := HKt.out; omega, .inl ⟨by omega, rfl⟩, rfl, rfl, by simp, by have := HI6.out; have e := HKt.out; rw [show t0 + (k + 1) = tt + 1 by omega]; exact this, by have := HT6.out; have e := HKt.out; rw [show t0 + (k + 1) = tt + 1 by omega]; exact this⟩
            case measure => simp [intOf]; omega
        · have hlast : (k = n) ∨ (k < n ∧ lf2 = 0) := by omega
          have HTe : Hid ((b2 = i + 1 ∧ t0 + k = toS l (i + 1)) ∨ (lf2 = 0 ∧ i + 1 = b2 + 1 ∧ toS l b2 ≤ t0 + k ∧ t0 + k < toS l (i + 1))) := by
            have e1 := toS_succ l i
            rw [HN.out, HT0.out] at e1
            rcases hcs with ⟨g1, rfl⟩ | ⟨rfl, rfl⟩
            · refine .inr ⟨by omega, rfl, by rw [HT0.out]; omega, by rw [e1]; omega⟩
            · exact .inl ⟨rfl, e1.symm⟩
          clear hcs hgo
          rcases hlast with hk2 | ⟨hk2, hk3⟩
          all_goals go_wp2_with fail
          all_goals go_roundw
          all_goals first | exact ⟨i + 1, b2, lf2, t0 + k, by omega, by omega, hlf2, HTe.out, rfl, rfl, by simp, HI.out, HS.out⟩ | (simp [intOf]; omega) | fail
    · have hx : toS l b ≤ t ∧ t < toS l (b + 1) ∧ b ≤ 6 := by
        have := nnS_bd l b
        rcases hcs with ⟨rfl, rfl⟩ | ⟨e1, rfl, e2, e3⟩
        · rw [toS_succ]; omega
        · exact ⟨e2, e3, by omega⟩
      have hcs4 : ¬ i < l.length ∨ (i < l.length ∧ ¬ i < 6) ∨ (i < l.length ∧ i < 6 ∧ lf = 0) ∨ (i < l.length ∧ i < 6 ∧ 0 < lf ∧ ∃ q n : Nat, ((q : Nat) : Int) % 4 + 1 = ((n : Nat) : Int) ∧ 24 < t + n ∧ n ≤ 4 ∧ ∃ b' o', a = some ⟨b', o', none⟩ ∧ wr.cell? ⟨b', o' + i, none⟩ = some (.int .u8 ((q : Nat) : Int))) := by
        by_cases h1 : i < l.length
        · by_cases h2 : i < 6
          · by_cases h3 : 0 < lf
            · refine .inr (.inr (.inr ⟨h1, h2, h3, l.getD i 0, nnS l i, by unfold nnS; omega, by omega, (nnS_bd l i).2, ?_⟩))
              obtain ⟨b', o', e1, e2⟩ := (HY.out wr HS.out.below).2.2 (fun e => by rw [e] at h1; simp at h1)
              exact ⟨b', o', e1, e2 i h1⟩
            · exact .inr (.inr (.inl ⟨h1, h2, by omega⟩))
          · exact .inr (.inl ⟨h1, h2⟩)
        · exact .inl h1
      have ht24 : t ≤ 24 := by omega
      have HSc : Hid (∀ W, Below wr.heap.size wr W → Calls Tryd.prog 31 #[.pointer (some ⟨L.bd, 0, none⟩), sup 100 16 9, .int .i64 19, .int .i64 ((E : Nat) : Int), .int .i64 ((C : Nat) : Int)] W (ScnO W b ((C : Nat) : Int) (toS l) adS (mS ((E : Nat) : Int) ((C : Nat) : Int) l))) := fun W hb => by
        obtain ⟨⟨q, hq⟩, -, -, -, hbe, -, -⟩ := HS.out.later hb
        have h := scan_any (w := W) (L := { L with qv := q }) 100 16 9 ((E : Nat) : Int) ((C : Nat) : Int) b (toS l) adS (mS ((E : Nat) : Int) ((C : Nat) : Int) l) (lsS l) _ _ (HI.out.scp ht24 HC.out hx.1 hx.2.1 (by omega)) hq (HT.out W hbe).1 (HT.out W hbe).2
        rw [show adS 0 = 19 by decide] at h
        exact h
      have hb24 : b ≤ 24 := by omega
      have HB24 := Lib.hid hb24
      have d0 := HS.out.sup.cell 0
      have d1 := HS.out.sup.cell 1
      have d2 := HS.out.sup.cell 2
      have d3 := HS.out.at_.cell 1
      simp at d0 d1 d2 d3
      clear hx hcs hgo hb24 HY HI
      rcases hcs4 with h1 | ⟨h1, h2⟩ | ⟨h1, h2, rfl⟩ | ⟨h1, h2, h3, q, n, hqn, h4, h5, b', o', rfl, hce⟩
      all_goals go_upto_region 28 with (fail)
      all_goals rename_i K28 h28
      all_goals have H28 := Lib.hid h28
      all_goals clear h28
      all_goals go_wp2_with fail
      all_goals refine (HSc.out wr (Below.refl _ _)).mono ?_
      all_goals rintro e w5 ⟨sa, sc, rfl, hrow, hb5⟩
      all_goals have HE5 : Hid (BtE w be b ((E : Nat) : Int) ((C : Nat) : Int) l wr.heap.size sa sc w5) := ⟨hrow, HS.out.en.later hb5, HS.out.below.trans (hb5.mono HS.out.below.size)⟩
      all_goals clear hrow hb5 HS HSc d0 d1 d2 d3
      all_goals go_wp2_with fail
      all_goals exact H28.out _ _ (bat_28 be b ((E : Nat) : Int) ((C : Nat) : Int) l wr.heap.size sa sc HE5.out HB24.out _ _ _ _ _ _ _ _ _ _ _ _ _ _ _ _ _ _ _ _ _ _ _ _ _ _ _ _ _ _ _ _ _ _ _ _ _ _ _ _ _ _ _ _ _ _ _ _ _ _ _ _ _ _ _ _ _ _ _ _ _ _ _ _ _ _ _ _ _ _ _ _ _ _ _ _ _ _ _ _ _ _ _ _ _ _ _ _ _ _ _ _ _ _ _ _ _ _ _ _ _ _ _ _ _ _ _ _ _ _ _ _ _ _ _ _ _ _ _ _ _ _ _ _ _ _ _ _ _ _ _ _ _ _ _ _ _ _ _ _ _ _ _ _ _ _ _ _ _ _ _ _ _ _ _ _ _ _ _ _ _ _ _ _ _ _ _ _ _ _ _ _ _ _ _ _ _ _ _ _ _ _ _ _ _ _ _ _ _ _ _ _ _ _ _ _ _ _)
end
end Go.Proofs.YtlkgaefabahkoaaDoor
