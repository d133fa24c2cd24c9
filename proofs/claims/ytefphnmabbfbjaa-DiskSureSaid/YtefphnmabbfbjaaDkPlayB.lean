/-
  Play's frame, and its calls of Barrier and Arm.
-/
import Derived.Test.YtefphnmabbfbjaaDrAny
import Derived.Test.YtefphnmabbfbjaaDkOp
import Derived.Test.YtefphnmabbfbjaaDkAwake
namespace Go.Proofs.Ytefphnmabbfbjaa
open Go.RowKit

abbrev OPT := 39
def zeroR : Array Value := #[.slice none 0 0, .slice none 0 0, .int .i64 0, .int .i64 0]
structure PS (W : World) (B : Nat) (m o : Array Value) : Prop where
  m : Blo W B RDT m
  o : Blo W (B + 1) OPT o
  z : Blo W (B + 1 + 1) RDT zeroR
theorem PS.out {X : Nat → Prop} {W W' : World} {B : Nat} {m o : Array Value} (h : PS W B m o) (ho : Out X W W') (h0 : ¬ X B) (h1 : ¬ X (B + 1)) (h2 : ¬ X (B + 1 + 1)) : PS W' B m o :=
  ⟨ho.blo h.m h0, ho.blo h.o h1, ho.blo h.z h2⟩
theorem PS.later {W W' : World} {B : Nat} {m o : Array Value} (h : PS W B m o) (hb : Below W.heap.size W W') : PS W' B m o := h.out (X := fun _ => False) (Out.of_below hb) (fun h => h) (fun h => h) (fun h => h)
theorem ps_new (w : World) (m o : Array Value) : PS (((w.alloc (.cells m RDT)).alloc (.cells o OPT)).alloc (.cells zeroR RDT)) w.heap.size m o := by
  refine ⟨((blo_laid w RDT m).alloc _).alloc _, ?_, ?_⟩
  · have h := (blo_laid (w.alloc (.cells m RDT)) OPT o).alloc (.cells zeroR RDT)
    simpa using h
  · have h := blo_laid ((w.alloc (.cells m RDT)).alloc (.cells o OPT)) RDT zeroR
    simpa using h
theorem three_below (w : World) (a b c : Obj) : Below w.heap.size w (((w.alloc a).alloc b).alloc c) := (((Below.refl _ _).alloc (Nat.le_refl _) _).alloc (by simp) _).alloc (by simp; omega) _
theorem PS.disk {C : Nat} {W W' : World} {L : Dl} {d : Dm} {B : Nat} {m o : Array Value} (h : PS W B m o) (hD : Dk C W L d) (ho : Out L.has W W') : PS W' B m o :=
  h.out ho (hD.apart h.m (by decide) (by decide) (by decide)) (hD.apart h.o (by decide) (by decide) (by decide)) (hD.apart h.z (by decide) (by decide) (by decide))
theorem Mr.disk {C : Nat} {W W' : World} {L : Dl} {d d' : Dm} {sa qa : Option Addr} {sc qc : Nat} (h : Mr W sa qa sc qc d') (hD : Dk C W L d) (ho : Out L.has W W') : Mr W' sa qa sc qc d' :=
  h.out ho (fun g cs hb => by
    rcases hb with hb | hb
    · exact hD.apart hb (by decide) (by decide) (by decide)
    · exact hD.apart hb (by decide) (by decide) (by decide))
/-- The four words of the document's disk put anew. -/
def put4 (W : World) (B : Nat) (a b c d : Value) : World := (((W.setCell ⟨B, 0, none⟩ a).setCell ⟨B, 1, none⟩ b).setCell ⟨B, 2, none⟩ c).setCell ⟨B, 3, none⟩ d
theorem put4_out (W : World) (B : Nat) (a b c d : Value) : Out (fun j => j = B) W (put4 W B a b c d) :=
  (((out_put (X := fun j => j = B) W ⟨B, 0, none⟩ a rfl).trans (out_put (X := fun j => j = B) _ ⟨B, 1, none⟩ b rfl) (fun _ _ h => h)).trans (out_put (X := fun j => j = B) _ ⟨B, 2, none⟩ c rfl) (fun _ _ h => h)).trans (out_put (X := fun j => j = B) _ ⟨B, 3, none⟩ d rfl) (fun _ _ h => h)
theorem put4_blo {W : World} {B : Nat} {t : TypeId} {x0 x1 x2 x3 : Value} (h : Blo W B t #[x0, x1, x2, x3]) (a b c d : Value) : Blo (put4 W B a b c d) B t #[a, b, c, d] := dr_fin h
def SetR (W : World) (B : Nat) (sa qa : Option Addr) (sc qc : Nat) (d : Dm) : World := put4 W B (.slice sa d.n sc) (.slice qa d.Q.length qc) (.int .i64 d.steps) (.int .i64 (lfD d))
structure Ps4 (C : Nat) (W : World) (B : Nat) (o : Array Value) (L : Dl) (d : Dm) (sa qa : Option Addr) (sc qc : Nat) : Prop where
  ps : PS W B (agR sa qa sc qc d) o
  dk : Dk C W L d
  mr : Mr W sa qa sc qc d
theorem ps4_put {C : Nat} {W : World} {B : Nat} {o m : Array Value} {x0 x1 x2 x3 : Value} {L : Dl} {d : Dm} {sa qa : Option Addr} {sc qc : Nat} (h : PS W B m o) (hm : m = #[x0, x1, x2, x3]) (hD : Dk C W L d) (hM : Mr W sa qa sc qc d) : Ps4 C (SetR W B sa qa sc qc d) B o L d sa qa sc qc := by
  subst hm
  have ho := put4_out W B (.slice sa d.n sc) (.slice qa d.Q.length qc) (.int .i64 d.steps) (.int .i64 (lfD d))
  exact ⟨⟨put4_blo h.m _ _ _ _, ho.blo h.o (fun e => by omega), ho.blo h.z (fun e => by omega)⟩, hD.out ho (fun i hi e => (hD.apart h.m (by decide) (by decide) (by decide)) (by rw [← e]; exact hi)), hM.out ho (fun g cs hb e => by
    subst e
    rcases hb with hb | hb
    · exact hb.apart h.m (by decide) rfl
    · exact hb.apart h.m (by decide) rfl)⟩
/-- All blocks but those of the disk stand as they stood. -/
def Fr (L : Dl) (w W : World) : Prop := Out L.has w W
theorem fr_new {L : Dl} {w W : World} (h : Below w.heap.size w W) : Fr L w W := Out.of_below h
theorem Fr.later {L : Dl} {w W W' : World} (h : Fr L w W) (hb : Below W.heap.size W W') : Fr L w W' := h.trans (Out.of_below (X := fun _ => False) hb) (fun _ _ h => h.elim)
theorem Fr.disk {L : Dl} {w W W' : World} (h : Fr L w W) (ho : Out L.has W W') : Fr L w W' := h.trans ho (fun _ _ h => h)
theorem Fr.put {L : Dl} {w W W' : World} {g : Nat} (h : Fr L w W) (ho : Out (fun j => j = g) W W') (hg : w.heap.size ≤ g) : Fr L w W' := h.trans ho (fun i hi e => by omega)
theorem Fr.below {C : Nat} {L : Dl} {d : Dm} {w W : World} (h : Fr L w W) (hD : Dk C w L d) (hC : C ≤ w.heap.size) : Below C w W := Out.below h hC (fun i _ hi => (hD.has_lt hi).1)
theorem Fr.size {L : Dl} {w W : World} (h : Fr L w W) : w.heap.size ≤ W.heap.size := Out.size h
def PlayO (C : Nat) (L : Dl) (w : World) (d' : Dm) (e : Ending) (w' : World) : Prop :=
  ∃ L' sa qa sc qc, e = .returned (.tuple #[.pointer (some ⟨Dl.bd L', 0, none⟩), .agg (agR sa qa sc qc d'), .bool true]) ∧ Dk C w' L' d' ∧ Mr w' sa qa sc qc d' ∧ Fr L w w'
theorem ps4_fin {C : Nat} {w W : World} {o : Array Value} {L L0 : Dl} {d : Dm} {sa qa : Option Addr} {sc qc : Nat} (h : Ps4 C W w.heap.size o L d sa qa sc qc) (hb : Fr L0 w W) : PlayO C L0 w d (.returned (.tuple #[.pointer (some ⟨L.bd, 0, none⟩), .agg (agR sa qa sc qc d), .bool true])) (put4 W (w.heap.size + 1 + 1) (.slice sa d.n sc) (.slice qa d.Q.length qc) (.int .i64 d.steps) (.int .i64 (lfD d))).drew := by
  have hz : Blo W (w.heap.size + 1 + 1) RDT zeroR := h.ps.z
  have ho := (put4_out W (w.heap.size + 1 + 1) (.slice sa d.n sc) (.slice qa d.Q.length qc) (.int .i64 d.steps) (.int .i64 (lfD d))).trans (Out.of_below (X := fun j => j = w.heap.size + 1 + 1) ((Below.refl _ _).drew)) (fun _ _ h => h)
  refine ⟨L, sa, qa, sc, qc, rfl, h.dk.out ho (fun i hi e => (h.dk.apart hz (by decide) (by decide) (by decide)) (by rw [← e]; exact hi)), h.mr.out ho (fun g cs hb e => ?_), hb.put ho (by omega)⟩
  subst e
  rcases hb with hb | hb
  · exact hb.apart hz (by decide) rfl
  · exact hb.apart hz (by decide) rfl
set_option maxRecDepth 100000 in
set_option maxHeartbeats 4000000 in
theorem play_bar {w0 w : World} {L : Dl} {d : Dm} {sa qa ba ka : Option Addr} {sc qc bn bc kn kc : Nat} {x : OpT} (h0 : Below w0.heap.size w0 w) (h : Dk w0.heap.size w L d) (hm : Mr w sa qa sc qc d) (hs : d.steps ≤ 90000) (hq : d.Q.length ≤ 90000) (hk : x.k = 2) (hx : x.n ≤ 9223372036854775807) :
    Calls Try.prog 13 #[.pointer (some ⟨L.bd, 0, none⟩), .agg (agR sa qa sc qc d), .agg (opA ba bn bc ka kn kc x)] w (PlayO w0.heap.size L w (barrD d).1) := by
  have HC : Hid (w0.heap.size ≤ w.heap.size) := h0.size
  have HPS := Lib.hid (ps_new w (agR sa qa sc qc d) (opA ba bn bc ka kn kc x))
  have hb := three_below w (.cells (agR sa qa sc qc d) RDT) (.cells (opA ba bn bc ka kn kc x) OPT) (.cells zeroR RDT)
  have HB : Hid (Fr L w _) := fr_new hb
  have HD := Lib.hid (h.later hb)
  have HM := Lib.hid (hm.later hb)
  have HK := Lib.hid hk
  have hs2 : d.steps < 1000000 := by omega
  have hq2 : d.Q.length ≤ 100000 := by omega
  have H1 : Hid (∀ W, Dk w0.heap.size W L d → Calls Try.prog 17 #[.pointer (some ⟨L.bd, 0, none⟩)] W (CodeO w0.heap.size W L (barrD d).1 (barrD d).2)) := fun W hW => barr_any hm.pos hs2 hW
  have H2 : Hid (∀ W, Mr W sa qa sc qc d → Calls Try.prog 25 #[.agg (agR sa qa sc qc d)] W (MrO W (barrD d).1 (barrD d).2)) := fun W hW => mbar_any h hW hs2 hq2
  clear h0 h hm hb hk hs2 hq2
  generalize barrD d = q at *
  obtain ⟨d', c⟩ := q
  show Calls Try.prog 13 #[.pointer (some ⟨L.bd, 0, none⟩), .agg #[.slice sa d.n sc, .slice qa d.Q.length qc, .int .i64 d.steps, .int .i64 (lfD d)], .agg #[.int .i64 x.k, .int .i64 x.n, .int .i64 x.s, .slice ba bn bc, .bool x.raw, .slice ka kn kc]] w (PlayO w0.heap.size L w d')
  have hcc : (c == c) = true := by simp
  go_enter Try.func13, Try.ntmps13
  go_upto_region 2 with (fail)
  obtain ⟨w2, hw2⟩ : ∃ w2, ((w.alloc (.cells (agR sa qa sc qc d) RDT)).alloc (.cells (opA ba bn bc ka kn kc x) OPT)).alloc (.cells zeroR RDT) = w2 := ⟨_, rfl⟩
  rw [hw2] at HPS HB HD HM
  have hw3 : ((w.alloc (.cells #[.slice sa d.n sc, .slice qa d.Q.length qc, .int .i64 d.steps, .int .i64 (lfD d)] RDT)).alloc (.cells #[.int .i64 x.k, .int .i64 x.n, .int .i64 x.s, .slice ba bn bc, .bool x.raw, .slice ka kn kc] OPT)).alloc (.cells #[.slice none 0 0, .slice none 0 0, .int .i64 0, .int .i64 0] RDT) = w2 := hw2
  simp only [hw3]
  clear hw2 hw3
  have o0 := HPS.out.o.cell 0
  have o1 := HPS.out.o.cell 1
  simp [opA] at o0 o1
  rw [HK.out] at o0
  go_wp2_with fail
  refine (H1.out _ HD.out).mono ?_
  intro e w3 hO
  obtain ⟨rfl, qv, hD3, hO3, _⟩ := hO
  have HPS3 := Lib.hid (HPS.out.disk HD.out hO3)
  have HM3 := Lib.hid (HM.out.disk HD.out hO3)
  have HB3 : Hid (Fr L w w3) := HB.out.disk hO3
  have HD3 := Lib.hid hD3
  clear hD3 hO3 HPS HM HB HD H1 o0 o1
  have y0 := HPS3.out.m.cell 0
  have y1 := HPS3.out.m.cell 1
  have y2 := HPS3.out.m.cell 2
  have y3 := HPS3.out.m.cell 3
  have o1 := HPS3.out.o.cell 1
  simp [agR, opA] at y0 y1 y2 y3 o1
  go_wp2_with fail
  refine (H2.out _ HM3.out).mono ?_
  rintro e w4 ⟨sa', qa', sc', qc', rfl, hM4, hB4⟩
  unfold agR
  have HPS4 := Lib.hid (HPS3.out.later hB4)
  have HD4 := Lib.hid (HD3.out.later hB4)
  have HM4 := Lib.hid hM4
  have HB4 : Hid (Fr L w w4) := HB3.out.later hB4
  clear hM4 hB4 HPS3 HD3 HM3 HB3 H2 y0 y1 y2 y3 o1
  have y0 := HPS4.out.m.cell 0
  have y1 := HPS4.out.m.cell 1
  have y2 := HPS4.out.m.cell 2
  have y3 := HPS4.out.m.cell 3
  have f0 := HPS4.out.m.frozen 0
  have f1 := HPS4.out.m.frozen 1
  have f2 := HPS4.out.m.frozen 2
  have f3 := HPS4.out.m.frozen 3
  simp [agR] at y0 y1 y2 y3
  go_upto_region 30 with (fail)
  have HF := Lib.hid (ps4_put HPS4.out rfl HD4.out HM4.out)
  have HB5 : Hid (Fr L w (SetR w4 w.heap.size sa' qa' sc' qc' d')) := HB4.out.put (put4_out _ _ _ _ _ _) (Nat.le_refl _)
  obtain ⟨w5, hw5⟩ : ∃ w5, SetR w4 w.heap.size sa' qa' sc' qc' d' = w5 := ⟨_, rfl⟩
  rw [hw5] at HF HB5
  have hw6 : ((((w4.setCell ⟨w.heap.size, 0, none⟩ (.slice sa' d'.n sc')).setCell ⟨w.heap.size, 1, none⟩ (.slice qa' d'.Q.length qc')).setCell ⟨w.heap.size, 2, none⟩ (.int .i64 d'.steps)).setCell ⟨w.heap.size, 3, none⟩ (.int .i64 (lfD d'))) = w5 := hw5
  simp only [hw6]
  clear hw5 hw6 HPS4 HD4 HM4 HB4 y0 y1 y2 y3 f0 f1 f2 f3
  have y0 := HF.out.ps.m.cell 0
  have y1 := HF.out.ps.m.cell 1
  have y2 := HF.out.ps.m.cell 2
  have y3 := HF.out.ps.m.cell 3
  have z0 := HF.out.ps.z.cell 0
  have z1 := HF.out.ps.z.cell 1
  have z2 := HF.out.ps.z.cell 2
  have z3 := HF.out.ps.z.cell 3
  have f0 := HF.out.ps.z.frozen 0
  have f1 := HF.out.ps.z.frozen 1
  have f2 := HF.out.ps.z.frozen 2
  have f3 := HF.out.ps.z.frozen 3
  simp [agR, zeroR] at y0 y1 y2 y3 z0 z1 z2 z3
  have HFin := Lib.hid (ps4_fin HF.out HB5.out)
  go_region
  all_goals
    clear y0 y1 y2 y3 f0 f1 f2 f3
    go_wp2
    refine bodyPost_ret (v := .tuple #[.pointer (some ⟨L.bd, 0, none⟩), .agg #[.slice sa' d'.n sc', .slice qa' d'.Q.length qc', .int .i64 d'.steps, .int .i64 (lfD d')], .bool true]) ?_ rfl HFin.out
    simp [results, Try.results13, go_sem, z0, z1, z2, z3]
set_option maxRecDepth 100000 in
set_option maxHeartbeats 4000000 in
theorem play_arm {w0 w : World} {L : Dl} {d : Dm} {sa qa ba ka : Option Addr} {sc qc bn bc kn kc : Nat} {x : OpT} (h0 : Below w0.heap.size w0 w) (h : Dk w0.heap.size w L d) (hm : Mr w sa qa sc qc d) (hs : d.steps ≤ 90000) (hq : d.Q.length ≤ 90000) (hk : x.k = 3) (hx : x.n ≤ 9223372036854775807) :
    Calls Try.prog 13 #[.pointer (some ⟨L.bd, 0, none⟩), .agg (agR sa qa sc qc d), .agg (opA ba bn bc ka kn kc x)] w (PlayO w0.heap.size L w (armsD d x.n).1) := by
  have HC : Hid (w0.heap.size ≤ w.heap.size) := h0.size
  have HPS := Lib.hid (ps_new w (agR sa qa sc qc d) (opA ba bn bc ka kn kc x))
  have hb := three_below w (.cells (agR sa qa sc qc d) RDT) (.cells (opA ba bn bc ka kn kc x) OPT) (.cells zeroR RDT)
  have HB : Hid (Fr L w _) := fr_new hb
  have HD := Lib.hid (h.later hb)
  have HM := Lib.hid (hm.later hb)
  have HK := Lib.hid hk
  have hs2 : d.steps < 1000000 := by omega
  have hq2 : d.Q.length ≤ 100000 := by omega
  have H1 : Hid (∀ W, Dk w0.heap.size W L d → Calls Try.prog 22 #[.pointer (some ⟨L.bd, 0, none⟩), .int .i64 x.n] W (CodeO w0.heap.size W L (armsD d x.n).1 (armsD d x.n).2)) := fun W hW => arms_any x.n hx hW
  have H2 : Hid (∀ W, Mr W sa qa sc qc d → Calls Try.prog 26 #[.agg (agR sa qa sc qc d), .int .i64 x.n] W (MrO W (armsD d x.n).1 (armsD d x.n).2)) := fun W hW => marm_any x.n hW
  clear h0 h hm hb hk hs2 hq2
  generalize armsD d x.n = q at *
  obtain ⟨d', c⟩ := q
  show Calls Try.prog 13 #[.pointer (some ⟨L.bd, 0, none⟩), .agg #[.slice sa d.n sc, .slice qa d.Q.length qc, .int .i64 d.steps, .int .i64 (lfD d)], .agg #[.int .i64 x.k, .int .i64 x.n, .int .i64 x.s, .slice ba bn bc, .bool x.raw, .slice ka kn kc]] w (PlayO w0.heap.size L w d')
  have hcc : (c == c) = true := by simp
  go_enter Try.func13, Try.ntmps13
  go_upto_region 2 with (fail)
  obtain ⟨w2, hw2⟩ : ∃ w2, ((w.alloc (.cells (agR sa qa sc qc d) RDT)).alloc (.cells (opA ba bn bc ka kn kc x) OPT)).alloc (.cells zeroR RDT) = w2 := ⟨_, rfl⟩
  rw [hw2] at HPS HB HD HM
  have hw3 : ((w.alloc (.cells #[.slice sa d.n sc, .slice qa d.Q.length qc, .int .i64 d.steps, .int .i64 (lfD d)] RDT)).alloc (.cells #[.int .i64 x.k, .int .i64 x.n, .int .i64 x.s, .slice ba bn bc, .bool x.raw, .slice ka kn kc] OPT)).alloc (.cells #[.slice none 0 0, .slice none 0 0, .int .i64 0, .int .i64 0] RDT) = w2 := hw2
  simp only [hw3]
  clear hw2 hw3
  have o0 := HPS.out.o.cell 0
  have o1 := HPS.out.o.cell 1
  simp [opA] at o0 o1
  rw [HK.out] at o0
  go_wp2_with fail
  refine (H1.out _ HD.out).mono ?_
  intro e w3 hO
  obtain ⟨rfl, qv, hD3, hO3, _⟩ := hO
  have HPS3 := Lib.hid (HPS.out.disk HD.out hO3)
  have HM3 := Lib.hid (HM.out.disk HD.out hO3)
  have HB3 : Hid (Fr L w w3) := HB.out.disk hO3
  have HD3 := Lib.hid hD3
  clear hD3 hO3 HPS HM HB HD H1 o0 o1
  have y0 := HPS3.out.m.cell 0
  have y1 := HPS3.out.m.cell 1
  have y2 := HPS3.out.m.cell 2
  have y3 := HPS3.out.m.cell 3
  have o1 := HPS3.out.o.cell 1
  simp [agR, opA] at y0 y1 y2 y3 o1
  go_wp2_with fail
  refine (H2.out _ HM3.out).mono ?_
  rintro e w4 ⟨sa', qa', sc', qc', rfl, hM4, hB4⟩
  unfold agR
  have HPS4 := Lib.hid (HPS3.out.later hB4)
  have HD4 := Lib.hid (HD3.out.later hB4)
  have HM4 := Lib.hid hM4
  have HB4 : Hid (Fr L w w4) := HB3.out.later hB4
  clear hM4 hB4 HPS3 HD3 HM3 HB3 H2 y0 y1 y2 y3 o1
  have y0 := HPS4.out.m.cell 0
  have y1 := HPS4.out.m.cell 1
  have y2 := HPS4.out.m.cell 2
  have y3 := HPS4.out.m.cell 3
  have f0 := HPS4.out.m.frozen 0
  have f1 := HPS4.out.m.frozen 1
  have f2 := HPS4.out.m.frozen 2
  have f3 := HPS4.out.m.frozen 3
  simp [agR] at y0 y1 y2 y3
  go_upto_region 30 with (fail)
  have HF := Lib.hid (ps4_put HPS4.out rfl HD4.out HM4.out)
  have HB5 : Hid (Fr L w (SetR w4 w.heap.size sa' qa' sc' qc' d')) := HB4.out.put (put4_out _ _ _ _ _ _) (Nat.le_refl _)
  obtain ⟨w5, hw5⟩ : ∃ w5, SetR w4 w.heap.size sa' qa' sc' qc' d' = w5 := ⟨_, rfl⟩
  rw [hw5] at HF HB5
  have hw6 : ((((w4.setCell ⟨w.heap.size, 0, none⟩ (.slice sa' d'.n sc')).setCell ⟨w.heap.size, 1, none⟩ (.slice qa' d'.Q.length qc')).setCell ⟨w.heap.size, 2, none⟩ (.int .i64 d'.steps)).setCell ⟨w.heap.size, 3, none⟩ (.int .i64 (lfD d'))) = w5 := hw5
  simp only [hw6]
  clear hw5 hw6 HPS4 HD4 HM4 HB4 y0 y1 y2 y3 f0 f1 f2 f3
  have y0 := HF.out.ps.m.cell 0
  have y1 := HF.out.ps.m.cell 1
  have y2 := HF.out.ps.m.cell 2
  have y3 := HF.out.ps.m.cell 3
  have z0 := HF.out.ps.z.cell 0
  have z1 := HF.out.ps.z.cell 1
  have z2 := HF.out.ps.z.cell 2
  have z3 := HF.out.ps.z.cell 3
  have f0 := HF.out.ps.z.frozen 0
  have f1 := HF.out.ps.z.frozen 1
  have f2 := HF.out.ps.z.frozen 2
  have f3 := HF.out.ps.z.frozen 3
  simp [agR, zeroR] at y0 y1 y2 y3 z0 z1 z2 z3
  have HFin := Lib.hid (ps4_fin HF.out HB5.out)
  go_region
  all_goals
    clear y0 y1 y2 y3 f0 f1 f2 f3
    go_wp2
    refine bodyPost_ret (v := .tuple #[.pointer (some ⟨L.bd, 0, none⟩), .agg #[.slice sa' d'.n sc', .slice qa' d'.Q.length qc', .int .i64 d'.steps, .int .i64 (lfD d')], .bool true]) ?_ rfl HFin.out
    simp [results, Try.results13, go_sem, z0, z1, z2, z3]
end Go.Proofs.Ytefphnmabbfbjaa
