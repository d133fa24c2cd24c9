/-
  The walk of Play: one call answers as the document says.
-/
import Derived.Test.YtfilbbiiiaodiaaUrTells
namespace Go.Proofs.Ytfilbbiiiaodiaa
open Go.RowKit

abbrev OPT := 36
def PlayO (B : Nat) (w : World) (bt g n : Nat) (size : Int) (e : Ending) (w' : World) : Prop :=
  ∃ hc gr cap hr F, e = .returned (.tuple #[rv gr n cap size hr, .bool true]) ∧ Both w' bt g n size hc gr cap hr F ∧ Below B w w' ∧ Fr2 bt g w w'
/-- Between the table's call and the document's. -/
structure PlM (B : Nat) (w : World) (bt g n : Nat) (size hc : Int) (gr cap : Nat) (hr : Int) (F G : List Int) (K x v : Int) (wr : World) : Prop where
  us : USt bt g n size hc G wr
  rt : RT wr gr n F
  box : Blo wr w.heap.size RTB #[.slice (some ⟨gr, 0, none⟩) n cap, .int .i64 size, .int .i64 hr]
  op : Blo wr (w.heap.size + 1) OPT #[.int .i64 K, .int .i64 x, .int .i64 v]
  res : Blo wr (w.heap.size + 2) RTB #[.slice none 0 0, .int .i64 0, .int .i64 0]
  below : Below B w wr
  lt : bt < w.heap.size ∧ g < w.heap.size ∧ gr < w.heap.size ∧ B ≤ w.heap.size
  cap : n ≤ cap
  fr : Fr2 bt g w wr
theorem Fr2.far {bt g : Nat} {w wr : World} (h : Fr2 bt g w wr) {p : Addr} (hp : w.heap.size ≤ p.block) (u : Value) : Fr2 bt g w (wr.setCell p u) :=
  fun b t cs h1 h2 hx => (h b t cs h1 h2 hx).far (by have := hx.lt; omega) u
theorem USt.far {bt g n : Nat} {size hc : Int} {F : List Int} {w : World} (h : USt bt g n size hc F w) {p : Addr} (h1 : bt ≠ p.block) (h2 : g ≠ p.block) (u : Value) : USt bt g n size hc F (w.setCell p u) :=
  ⟨⟨h.tb.top.far h1 u, h.tb.segs.far h2 u, h.tb.len, h.tb.apart⟩, h.lv, h.stt, h.hd⟩
section
variable {w wr w5 : World} {B bt g n gr cap : Nat} {size hc hr : Int} {F G : List Int} {K x v : Int}
theorem PlM.start (h : Both w bt g n size hc gr cap hr F) (hB : B ≤ w.heap.size) (K x v : Int) :
    PlM B w bt g n size hc gr cap hr F F K x v (((w.alloc (.cells #[.slice (some ⟨gr, 0, none⟩) n cap, .int .i64 size, .int .i64 hr] RTB)).alloc (.cells #[.int .i64 K, .int .i64 x, .int .i64 v] OPT)).alloc (.cells #[.slice none 0 0, .int .i64 0, .int .i64 0] RTB)) := by
  have hb := below3 w #[.slice (some ⟨gr, 0, none⟩) n cap, .int .i64 size, .int .i64 hr] #[.int .i64 K, .int .i64 x, .int .i64 v] #[.slice none 0 0, .int .i64 0, .int .i64 0] RTB OPT RTB
  obtain ⟨q0, q1, q2⟩ := three_laid w RTB OPT RTB #[.slice (some ⟨gr, 0, none⟩) n cap, .int .i64 size, .int .i64 hr] #[.int .i64 K, .int .i64 x, .int .i64 v] #[.slice none 0 0, .int .i64 0, .int .i64 0]
  have h' := h.later hb
  exact ⟨h'.us, h'.rt, q0, q1, q2, hb.mono hB, ⟨h.us.lt.1, h.us.lt.2, h.rt.lt, hB⟩, h.cap, fr2_of_below hb⟩
theorem PlM.call {hc' : Int} {G' : List Int} (h : PlM B w bt g n size hc gr cap hr F G K x v wr) (hu : USt bt g n size hc' G' w5) (hb : Below B wr w5) (hf : Fr2 bt g wr w5) :
    PlM B w bt g n size hc' gr cap hr F G' K x v w5 := by
  obtain ⟨l1, l2, l3, l4⟩ := h.lt
  obtain ⟨⟨cur, r1, r2⟩, r3⟩ := h.rt
  refine ⟨hu, ⟨⟨cur, hf _ _ _ ?_ ?_ r1, r2⟩, r3⟩, hf _ _ _ (by omega) (by omega) h.box, hf _ _ _ (by omega) (by omega) h.op, hf _ _ _ (by omega) (by omega) h.res, h.below.trans hb, h.lt, h.cap, h.fr.trans hf⟩
  · exact r1.apart h.us.tb.segs (by decide)
  · exact r1.apart h.us.tb.top (by decide)
/-- The end of every way: the box's store, then the result's. -/
theorem PlM.fin {w6 : World} {gr' cap' : Nat} {hr' : Int} (h : PlM B w bt g n size hc gr cap hr F G K x v w5) (hcap : n ≤ cap') (hg : gr' = gr ∨ w5.heap.size ≤ gr') (hR : RT w6 gr' n G) (hb : Below w5.heap.size w5 w6) (hh : 0 ≤ hr' ∧ hr' < n) (hs : Hands n hc hr') :
    Both ((((((w6.setCell ⟨w.heap.size, 0, none⟩ (.slice (some ⟨gr', 0, none⟩) n cap')).setCell ⟨w.heap.size, 1, none⟩ (.int .i64 size)).setCell ⟨w.heap.size, 2, none⟩ (.int .i64 hr')).setCell ⟨w.heap.size + 1 + 1, 0, none⟩ (.slice (some ⟨gr', 0, none⟩) n cap')).setCell ⟨w.heap.size + 1 + 1, 1, none⟩ (.int .i64 size)).setCell ⟨w.heap.size + 1 + 1, 2, none⟩ (.int .i64 hr')) bt g n size hc gr' cap' hr' G ∧
    Below B w ((((((w6.setCell ⟨w.heap.size, 0, none⟩ (.slice (some ⟨gr', 0, none⟩) n cap')).setCell ⟨w.heap.size, 1, none⟩ (.int .i64 size)).setCell ⟨w.heap.size, 2, none⟩ (.int .i64 hr')).setCell ⟨w.heap.size + 1 + 1, 0, none⟩ (.slice (some ⟨gr', 0, none⟩) n cap')).setCell ⟨w.heap.size + 1 + 1, 1, none⟩ (.int .i64 size)).setCell ⟨w.heap.size + 1 + 1, 2, none⟩ (.int .i64 hr')) ∧ Fr2 bt g w ((((((w6.setCell ⟨w.heap.size, 0, none⟩ (.slice (some ⟨gr', 0, none⟩) n cap')).setCell ⟨w.heap.size, 1, none⟩ (.int .i64 size)).setCell ⟨w.heap.size, 2, none⟩ (.int .i64 hr')).setCell ⟨w.heap.size + 1 + 1, 0, none⟩ (.slice (some ⟨gr', 0, none⟩) n cap')).setCell ⟨w.heap.size + 1 + 1, 1, none⟩ (.int .i64 size)).setCell ⟨w.heap.size + 1 + 1, 2, none⟩ (.int .i64 hr')) := by
  obtain ⟨l1, l2, l3, l4⟩ := h.lt
  have hrl := h.res.lt
  have hu := h.us.later hb
  have hne : gr' ≠ w.heap.size ∧ gr' ≠ w.heap.size + 1 + 1 := by omega
  have hB := h.below.trans (hb.mono (by omega))
  refine ⟨⟨?_, ?_, hcap, hh, hs⟩, ?_, ?_⟩
  · exact (((((hu.far (p := ⟨w.heap.size, 0, none⟩) (by simp; omega) (by simp; omega) _).far (p := ⟨w.heap.size, 1, none⟩) (by simp; omega) (by simp; omega) _).far (p := ⟨w.heap.size, 2, none⟩) (by simp; omega) (by simp; omega) _).far (p := ⟨w.heap.size + 1 + 1, 0, none⟩) (by simp; omega) (by simp; omega) _).far (p := ⟨w.heap.size + 1 + 1, 1, none⟩) (by simp; omega) (by simp; omega) _).far (p := ⟨w.heap.size + 1 + 1, 2, none⟩) (by simp; omega) (by simp; omega) _
  · exact (((((hR.far (p := ⟨w.heap.size, 0, none⟩) hne.1 _).far (p := ⟨w.heap.size, 1, none⟩) hne.1 _).far (p := ⟨w.heap.size, 2, none⟩) hne.1 _).far (p := ⟨w.heap.size + 1 + 1, 0, none⟩) hne.2 _).far (p := ⟨w.heap.size + 1 + 1, 1, none⟩) hne.2 _).far (p := ⟨w.heap.size + 1 + 1, 2, none⟩) hne.2 _
  · exact (((((hB.setCell (p := ⟨w.heap.size, 0, none⟩) l4 _).setCell (p := ⟨w.heap.size, 1, none⟩) l4 _).setCell (p := ⟨w.heap.size, 2, none⟩) l4 _).setCell (p := ⟨w.heap.size + 1 + 1, 0, none⟩) (by simp; omega) _).setCell (p := ⟨w.heap.size + 1 + 1, 1, none⟩) (by simp; omega) _).setCell (p := ⟨w.heap.size + 1 + 1, 2, none⟩) (by simp; omega) _
  · exact ((((((h.fr.trans (fr2_of_below hb)).far (p := ⟨w.heap.size, 0, none⟩) (by simp) _).far (p := ⟨w.heap.size, 1, none⟩) (by simp) _).far (p := ⟨w.heap.size, 2, none⟩) (by simp) _).far (p := ⟨w.heap.size + 1 + 1, 0, none⟩) (by simp; omega) _).far (p := ⟨w.heap.size + 1 + 1, 1, none⟩) (by simp; omega) _).far (p := ⟨w.heap.size + 1 + 1, 2, none⟩) (by simp; omega) _
/-- Behind the box's store. -/
structure PlE (B : Nat) (w : World) (bt g n : Nat) (size hc : Int) (gr cap : Nat) (hr : Int) (F : List Int) (wr : World) : Prop where
  b : Both wr bt g n size hc gr cap hr F
  box : Blo wr w.heap.size RTB #[.slice (some ⟨gr, 0, none⟩) n cap, .int .i64 size, .int .i64 hr]
  res : Blo wr (w.heap.size + 2) RTB #[.slice none 0 0, .int .i64 0, .int .i64 0]
  below : Below B w wr
  lt : bt < w.heap.size ∧ g < w.heap.size ∧ gr ≠ w.heap.size ∧ gr ≠ w.heap.size + 1 + 1 ∧ B ≤ w.heap.size
  fr : Fr2 bt g w wr
theorem PlE.later {wr w5 : World} (h : PlE B w bt g n size hc gr cap hr F wr) (hb : Below wr.heap.size wr w5) : PlE B w bt g n size hc gr cap hr F w5 :=
  ⟨h.b.later hb, h.box.later hb, h.res.later hb, h.below.trans (hb.mono (by have := h.box.lt; have := h.lt; omega)), h.lt, h.fr.trans (fr2_of_below hb)⟩
theorem PlE.fin (h : PlE B w bt g n size hc gr cap hr F wr) :
    Both (((wr.setCell ⟨w.heap.size + 1 + 1, 0, none⟩ (.slice (some ⟨gr, 0, none⟩) n cap)).setCell ⟨w.heap.size + 1 + 1, 1, none⟩ (.int .i64 size)).setCell ⟨w.heap.size + 1 + 1, 2, none⟩ (.int .i64 hr)) bt g n size hc gr cap hr F ∧
    Below B w (((wr.setCell ⟨w.heap.size + 1 + 1, 0, none⟩ (.slice (some ⟨gr, 0, none⟩) n cap)).setCell ⟨w.heap.size + 1 + 1, 1, none⟩ (.int .i64 size)).setCell ⟨w.heap.size + 1 + 1, 2, none⟩ (.int .i64 hr)) ∧ Fr2 bt g w (((wr.setCell ⟨w.heap.size + 1 + 1, 0, none⟩ (.slice (some ⟨gr, 0, none⟩) n cap)).setCell ⟨w.heap.size + 1 + 1, 1, none⟩ (.int .i64 size)).setCell ⟨w.heap.size + 1 + 1, 2, none⟩ (.int .i64 hr)) := by
  obtain ⟨l1, l2, l3, l4, l5⟩ := h.lt
  refine ⟨⟨?_, ?_, h.b.cap, h.b.hh, h.b.same⟩, ?_, ?_⟩
  · exact (((h.b.us.far (p := ⟨w.heap.size + 1 + 1, 0, none⟩) (by simp; omega) (by simp; omega) _).far (p := ⟨w.heap.size + 1 + 1, 1, none⟩) (by simp; omega) (by simp; omega) _).far (p := ⟨w.heap.size + 1 + 1, 2, none⟩) (by simp; omega) (by simp; omega) _)
  · exact (((h.b.rt.far (p := ⟨w.heap.size + 1 + 1, 0, none⟩) l4 _).far (p := ⟨w.heap.size + 1 + 1, 1, none⟩) l4 _).far (p := ⟨w.heap.size + 1 + 1, 2, none⟩) l4 _)
  · exact ((h.below.setCell (p := ⟨w.heap.size + 1 + 1, 0, none⟩) (by simp; omega) _).setCell (p := ⟨w.heap.size + 1 + 1, 1, none⟩) (by simp; omega) _).setCell (p := ⟨w.heap.size + 1 + 1, 2, none⟩) (by simp; omega) _
  · exact (((h.fr.far (p := ⟨w.heap.size + 1 + 1, 0, none⟩) (by simp; omega) _).far (p := ⟨w.heap.size + 1 + 1, 1, none⟩) (by simp; omega) _).far (p := ⟨w.heap.size + 1 + 1, 2, none⟩) (by simp; omega) _)
theorem PlM.boxed {w6 : World} {gr' cap' : Nat} {hr' : Int} (h : PlM B w bt g n size hc gr cap hr F G K x v w5) (hcap : n ≤ cap') (hg : gr' = gr ∨ w5.heap.size ≤ gr') (hR : RT w6 gr' n G) (hb : Below w5.heap.size w5 w6) (hh : 0 ≤ hr' ∧ hr' < n) (hs : Hands n hc hr') :
    PlE B w bt g n size hc gr' cap' hr' G (((w6.setCell ⟨w.heap.size, 0, none⟩ (.slice (some ⟨gr', 0, none⟩) n cap')).setCell ⟨w.heap.size, 1, none⟩ (.int .i64 size)).setCell ⟨w.heap.size, 2, none⟩ (.int .i64 hr')) := by
  obtain ⟨l1, l2, l3, l4⟩ := h.lt
  have hrl := h.res.lt
  have hu := h.us.later hb
  have hne : gr' ≠ w.heap.size ∧ gr' ≠ w.heap.size + 1 + 1 := by omega
  have hB := h.below.trans (hb.mono (by omega))
  have hbx := h.box.later hb
  have hrs := h.res.later hb
  refine ⟨⟨?_, ?_, hcap, hh, hs⟩, ?_, ?_, ?_, ⟨l1, l2, hne.1, hne.2, l4⟩, ?_⟩
  · exact (((hu.far (p := ⟨w.heap.size, 0, none⟩) (by simp; omega) (by simp; omega) _).far (p := ⟨w.heap.size, 1, none⟩) (by simp; omega) (by simp; omega) _).far (p := ⟨w.heap.size, 2, none⟩) (by simp; omega) (by simp; omega) _)
  · exact (((hR.far (p := ⟨w.heap.size, 0, none⟩) hne.1 _).far (p := ⟨w.heap.size, 1, none⟩) hne.1 _).far (p := ⟨w.heap.size, 2, none⟩) hne.1 _)
  · have := ((hbx.put 0 (.slice (some ⟨gr', 0, none⟩) n cap')).put 1 (.int .i64 size)).put 2 (.int .i64 hr')
    simpa using this
  · exact (((hrs.far (p := ⟨w.heap.size, 0, none⟩) (by simp) _).far (p := ⟨w.heap.size, 1, none⟩) (by simp) _).far (p := ⟨w.heap.size, 2, none⟩) (by simp) _)
  · exact (((hB.setCell (p := ⟨w.heap.size, 0, none⟩) l4 _).setCell (p := ⟨w.heap.size, 1, none⟩) l4 _).setCell (p := ⟨w.heap.size, 2, none⟩) l4 _)
  · exact ((((h.fr.trans (fr2_of_below hb)).far (p := ⟨w.heap.size, 0, none⟩) (by simp) _).far (p := ⟨w.heap.size, 1, none⟩) (by simp) _).far (p := ⟨w.heap.size, 2, none⟩) (by simp) _)
theorem own_box {w6 : World} {b base m c : Nat} {a : Option Addr} {L : List Int} (h : w6.ownsRow base 3 1 (.slice a m c) m (cellsI L)) (hb : b < base) (u0 u1 u2 : Value) :
    Ints (((w6.setCell ⟨b, 0, none⟩ u0).setCell ⟨b, 1, none⟩ u1).setCell ⟨b, 2, none⟩ u2) a L := by
  have hne := own_ne h hb
  exact Ints.own (own_far (p := ⟨b, 2, none⟩) (own_far (p := ⟨b, 1, none⟩) (own_far (p := ⟨b, 0, none⟩) h hne _) hne _) hne _)
set_option maxRecDepth 100000 in
set_option maxHeartbeats 4000000 in
theorem dplay_add (x v : Int) (h : Both w bt g n size hc gr cap hr F) (h1 : 1 ≤ n) (hn : n ≤ 512) (hz : 1 ≤ size ∧ size ≤ 64) (hB : B ≤ g) (hB' : B ≤ bt) :
    Calls Try.prog 11 #[.pointer (some ⟨bt, 0, none⟩), rv gr n cap size hr, .agg #[.int .i64 1, .int .i64 x, .int .i64 v]] w (PlayO B w bt g n size) := by
  have HM := Lib.hid (PlM.start h (by have := h.us.lt.1; omega : B ≤ w.heap.size) 1 x v)
  have hh := h.hh
  have hsm := h.same
  have HL := Lib.hid h.us.lv
  have HH := Lib.hid hh
  have HS := Lib.hid hsm
  clear h hh hsm
  go_enter Try.func11, Try.ntmps11
  go_wp2_with fail
  refine (add_c (B := B) x v HM.out.us hn hz hB).mono ?_
  rintro e w5 ⟨rfl, hu, hb, hf⟩
  have HM5 := Lib.hid (HM.out.call hu hb hf)
  clear hu hb hf HM
  have b0 := HM5.out.box.cell 0
  have b1 := HM5.out.box.cell 1
  have b2 := HM5.out.box.cell 2
  have o0 := HM5.out.op.cell 0
  have o1 := HM5.out.op.cell 1
  have o2 := HM5.out.op.cell 2
  simp at b0 b1 b2 o0 o1 o2
  go_wp2_with fail
  refine (radd_c x v HM5.out.rt HM5.out.cap hn HL.out hz).mono ?_
  rintro e w6 ⟨gr', cap', rfl, hcap, hg, hR, hb⟩
  have hgg : gr' ≠ w.heap.size := by have := HM5.out.lt; have := HM5.out.box.lt; omega
  have c0 := (HM5.out.box.later hb).cell 0
  have c1 := (HM5.out.box.later hb).cell 1
  have c2 := (HM5.out.box.later hb).cell 2
  have k0 := (HM5.out.box.later hb).frozen 0
  have k1 := (HM5.out.box.later hb).frozen 1
  have k2 := (HM5.out.box.later hb).frozen 2
  have e0 := (HM5.out.res.later hb).cell 0
  have e1 := (HM5.out.res.later hb).cell 1
  have e2 := (HM5.out.res.later hb).cell 2
  have z0 := (HM5.out.res.later hb).frozen 0
  have z1 := (HM5.out.res.later hb).frozen 1
  have z2 := (HM5.out.res.later hb).frozen 2
  simp at c0 c1 c2 e0 e1 e2
  have HFin := Lib.hid (HM5.out.fin hcap hg hR hb HH.out HS.out)
  generalize (addS n size F x v).1 = cd at *
  generalize (addS n size F x v).2 = F' at *
  clear hg hR hb b0 b1 b2 o0 o1 o2 HM5
  have hcd : (cd == cd) = true := by simp
  go_wp2_with fail
  refine bodyPost_ret (v := .tuple #[rv gr' n cap' size hr, .bool true]) (by simp [results, Try.results11, go_sem, e0, e1, e2]) rfl ⟨_, gr', cap', _, _, rfl, HFin.out.1, HFin.out.2.1, HFin.out.2.2⟩
set_option maxRecDepth 100000 in
set_option maxHeartbeats 4000000 in
theorem dplay_touch (x v : Int) (h : Both w bt g n size hc gr cap hr F) (h1 : 1 ≤ n) (hn : n ≤ 512) (hz : 1 ≤ size ∧ size ≤ 64) (hB : B ≤ g) (hB' : B ≤ bt) :
    Calls Try.prog 11 #[.pointer (some ⟨bt, 0, none⟩), rv gr n cap size hr, .agg #[.int .i64 2, .int .i64 x, .int .i64 v]] w (PlayO B w bt g n size) := by
  have HM := Lib.hid (PlM.start h (by have := h.us.lt.1; omega : B ≤ w.heap.size) 2 x v)
  have hh := h.hh
  have hsm := h.same
  have HH := Lib.hid hh
  have HS := Lib.hid hsm
  clear h hh hsm
  go_enter Try.func11, Try.ntmps11
  go_wp2_with fail
  refine (touch_c (B := B) x v HM.out.us hn hB).mono ?_
  rintro e w5 ⟨rfl, hu, hb, hf⟩
  have HM5 := Lib.hid (HM.out.call hu hb hf)
  clear hu hb hf HM
  have b0 := HM5.out.box.cell 0
  have b1 := HM5.out.box.cell 1
  have b2 := HM5.out.box.cell 2
  have o0 := HM5.out.op.cell 0
  have o1 := HM5.out.op.cell 1
  have o2 := HM5.out.op.cell 2
  simp at b0 b1 b2 o0 o1 o2
  go_wp2_with fail
  refine (rtouch_c x v HM5.out.rt HM5.out.cap hn).mono ?_
  rintro e w6 ⟨gr', cap', rfl, hcap, hg, hR, hb⟩
  have hgg : gr' ≠ w.heap.size := by have := HM5.out.lt; have := HM5.out.box.lt; omega
  have c0 := (HM5.out.box.later hb).cell 0
  have c1 := (HM5.out.box.later hb).cell 1
  have c2 := (HM5.out.box.later hb).cell 2
  have k0 := (HM5.out.box.later hb).frozen 0
  have k1 := (HM5.out.box.later hb).frozen 1
  have k2 := (HM5.out.box.later hb).frozen 2
  have e0 := (HM5.out.res.later hb).cell 0
  have e1 := (HM5.out.res.later hb).cell 1
  have e2 := (HM5.out.res.later hb).cell 2
  have z0 := (HM5.out.res.later hb).frozen 0
  have z1 := (HM5.out.res.later hb).frozen 1
  have z2 := (HM5.out.res.later hb).frozen 2
  simp at c0 c1 c2 e0 e1 e2
  have HFin := Lib.hid (HM5.out.fin hcap hg hR hb HH.out HS.out)
  generalize (touchS n F x v).1 = cd at *
  generalize (touchS n F x v).2 = F' at *
  clear hg hR hb b0 b1 b2 o0 o1 o2 HM5
  have hcd : (cd == cd) = true := by simp
  go_wp2_with fail
  refine bodyPost_ret (v := .tuple #[rv gr' n cap' size hr, .bool true]) (by simp [results, Try.results11, go_sem, e0, e1, e2]) rfl ⟨_, gr', cap', _, _, rfl, HFin.out.1, HFin.out.2.1, HFin.out.2.2⟩
set_option maxRecDepth 100000 in
set_option maxHeartbeats 4000000 in
theorem dplay_use (x v : Int) (h : Both w bt g n size hc gr cap hr F) (h1 : 1 ≤ n) (hn : n ≤ 512) (hz : 1 ≤ size ∧ size ≤ 64) (hB : B ≤ g) (hB' : B ≤ bt) :
    Calls Try.prog 11 #[.pointer (some ⟨bt, 0, none⟩), rv gr n cap size hr, .agg #[.int .i64 4, .int .i64 x, .int .i64 v]] w (PlayO B w bt g n size) := by
  have HM := Lib.hid (PlM.start h (by have := h.us.lt.1; omega : B ≤ w.heap.size) 4 x v)
  have hh := h.hh
  have hsm := h.same
  have HH := Lib.hid hh
  have HS := Lib.hid hsm
  clear h hh hsm
  go_enter Try.func11, Try.ntmps11
  go_wp2_with fail
  refine (use_c (B := B) x HM.out.us hn hB).mono ?_
  rintro e w5 ⟨rfl, hu, hb, hf⟩
  have HM5 := Lib.hid (HM.out.call hu hb hf)
  clear hu hb hf HM
  have b0 := HM5.out.box.cell 0
  have b1 := HM5.out.box.cell 1
  have b2 := HM5.out.box.cell 2
  have o0 := HM5.out.op.cell 0
  have o1 := HM5.out.op.cell 1
  have o2 := HM5.out.op.cell 2
  simp at b0 b1 b2 o0 o1 o2
  go_wp2_with fail
  refine (ruse_c x HM5.out.rt HM5.out.cap hn).mono ?_
  rintro e w6 ⟨gr', cap', rfl, hcap, hg, hR, hb⟩
  have hgg : gr' ≠ w.heap.size := by have := HM5.out.lt; have := HM5.out.box.lt; omega
  have c0 := (HM5.out.box.later hb).cell 0
  have c1 := (HM5.out.box.later hb).cell 1
  have c2 := (HM5.out.box.later hb).cell 2
  have k0 := (HM5.out.box.later hb).frozen 0
  have k1 := (HM5.out.box.later hb).frozen 1
  have k2 := (HM5.out.box.later hb).frozen 2
  have e0 := (HM5.out.res.later hb).cell 0
  have e1 := (HM5.out.res.later hb).cell 1
  have e2 := (HM5.out.res.later hb).cell 2
  have z0 := (HM5.out.res.later hb).frozen 0
  have z1 := (HM5.out.res.later hb).frozen 1
  have z2 := (HM5.out.res.later hb).frozen 2
  simp at c0 c1 c2 e0 e1 e2
  have HFin := Lib.hid (HM5.out.fin hcap hg hR hb HH.out HS.out)
  generalize (useS n F x).1 = cd at *
  generalize (useS n F x).2 = F' at *
  clear hg hR hb b0 b1 b2 o0 o1 o2 HM5
  have hcd : (cd == cd) = true := by simp
  go_wp2_with fail
  refine bodyPost_ret (v := .tuple #[rv gr' n cap' size hr, .bool true]) (by simp [results, Try.results11, go_sem, e0, e1, e2]) rfl ⟨_, gr', cap', _, _, rfl, HFin.out.1, HFin.out.2.1, HFin.out.2.2⟩
set_option maxRecDepth 100000 in
set_option maxHeartbeats 4000000 in
theorem dplay_rel (x v : Int) (h : Both w bt g n size hc gr cap hr F) (h1 : 1 ≤ n) (hn : n ≤ 512) (hz : 1 ≤ size ∧ size ≤ 64) (hB : B ≤ g) (hB' : B ≤ bt) :
    Calls Try.prog 11 #[.pointer (some ⟨bt, 0, none⟩), rv gr n cap size hr, .agg #[.int .i64 5, .int .i64 x, .int .i64 v]] w (PlayO B w bt g n size) := by
  have HM := Lib.hid (PlM.start h (by have := h.us.lt.1; omega : B ≤ w.heap.size) 5 x v)
  have hh := h.hh
  have hsm := h.same
  have HL := Lib.hid h.us.stt
  have HH := Lib.hid hh
  have HS := Lib.hid hsm
  clear h hh hsm
  go_enter Try.func11, Try.ntmps11
  go_wp2_with fail
  refine (rel_c (B := B) x HM.out.us hn hB).mono ?_
  rintro e w5 ⟨rfl, hu, hb, hf⟩
  have HM5 := Lib.hid (HM.out.call hu hb hf)
  clear hu hb hf HM
  have b0 := HM5.out.box.cell 0
  have b1 := HM5.out.box.cell 1
  have b2 := HM5.out.box.cell 2
  have o0 := HM5.out.op.cell 0
  have o1 := HM5.out.op.cell 1
  have o2 := HM5.out.op.cell 2
  simp at b0 b1 b2 o0 o1 o2
  go_wp2_with fail
  refine (rrel_c x HM5.out.rt HM5.out.cap hn HL.out).mono ?_
  rintro e w6 ⟨gr', cap', rfl, hcap, hg, hR, hb⟩
  have hgg : gr' ≠ w.heap.size := by have := HM5.out.lt; have := HM5.out.box.lt; omega
  have c0 := (HM5.out.box.later hb).cell 0
  have c1 := (HM5.out.box.later hb).cell 1
  have c2 := (HM5.out.box.later hb).cell 2
  have k0 := (HM5.out.box.later hb).frozen 0
  have k1 := (HM5.out.box.later hb).frozen 1
  have k2 := (HM5.out.box.later hb).frozen 2
  have e0 := (HM5.out.res.later hb).cell 0
  have e1 := (HM5.out.res.later hb).cell 1
  have e2 := (HM5.out.res.later hb).cell 2
  have z0 := (HM5.out.res.later hb).frozen 0
  have z1 := (HM5.out.res.later hb).frozen 1
  have z2 := (HM5.out.res.later hb).frozen 2
  simp at c0 c1 c2 e0 e1 e2
  have HFin := Lib.hid (HM5.out.fin hcap hg hR hb HH.out HS.out)
  generalize (relS n F x).1 = cd at *
  generalize (relS n F x).2 = F' at *
  clear hg hR hb b0 b1 b2 o0 o1 o2 HM5
  have hcd : (cd == cd) = true := by simp
  go_wp2_with fail
  refine bodyPost_ret (v := .tuple #[rv gr' n cap' size hr, .bool true]) (by simp [results, Try.results11, go_sem, e0, e1, e2]) rfl ⟨_, gr', cap', _, _, rfl, HFin.out.1, HFin.out.2.1, HFin.out.2.2⟩
set_option maxRecDepth 100000 in
set_option maxHeartbeats 4000000 in
theorem dplay_seize (x v : Int) (h : Both w bt g n size hc gr cap hr F) (h1 : 1 ≤ n) (hn : n ≤ 512) (hz : 1 ≤ size ∧ size ≤ 64) (hB : B ≤ g) (hB' : B ≤ bt) :
    Calls Try.prog 11 #[.pointer (some ⟨bt, 0, none⟩), rv gr n cap size hr, .agg #[.int .i64 7, .int .i64 x, .int .i64 v]] w (PlayO B w bt g n size) := by
  have HM := Lib.hid (PlM.start h (by have := h.us.lt.1; omega : B ≤ w.heap.size) 7 x v)
  have hh := h.hh
  have hsm := h.same
  have HH := Lib.hid hh
  have HS := Lib.hid hsm
  clear h hh hsm
  go_enter Try.func11, Try.ntmps11
  go_wp2_with fail
  refine (seize_c (B := B) x HM.out.us hn hB hB').mono ?_
  rintro e w5 ⟨rfl, hu, hb, hf⟩
  have HM5 := Lib.hid (HM.out.call hu hb hf)
  clear hu hb hf HM
  have b0 := HM5.out.box.cell 0
  have b1 := HM5.out.box.cell 1
  have b2 := HM5.out.box.cell 2
  have o0 := HM5.out.op.cell 0
  have o1 := HM5.out.op.cell 1
  have o2 := HM5.out.op.cell 2
  simp at b0 b1 b2 o0 o1 o2
  have HE := Lib.hid (seizS_hands HS.out F x)
  have HE2 := Lib.hid (seizS_hand HH.out F x)
  go_wp2_with fail
  refine (rseiz_c x HM5.out.rt HM5.out.cap hn).mono ?_
  rintro e w6 ⟨gr', cap', rfl, hcap, hg, hR, hb⟩
  rw [HE.out.1]
  rw [← HE.out.2.1] at hR
  have hgg : gr' ≠ w.heap.size := by have := HM5.out.lt; have := HM5.out.box.lt; omega
  have c0 := (HM5.out.box.later hb).cell 0
  have c1 := (HM5.out.box.later hb).cell 1
  have c2 := (HM5.out.box.later hb).cell 2
  have k0 := (HM5.out.box.later hb).frozen 0
  have k1 := (HM5.out.box.later hb).frozen 1
  have k2 := (HM5.out.box.later hb).frozen 2
  have e0 := (HM5.out.res.later hb).cell 0
  have e1 := (HM5.out.res.later hb).cell 1
  have e2 := (HM5.out.res.later hb).cell 2
  have z0 := (HM5.out.res.later hb).frozen 0
  have z1 := (HM5.out.res.later hb).frozen 1
  have z2 := (HM5.out.res.later hb).frozen 2
  simp at c0 c1 c2 e0 e1 e2
  have HFin := Lib.hid (HM5.out.fin hcap hg hR hb HE2.out HE.out.2.2)
  generalize (seizS n hr F x).1 = cd at *
  generalize (seizS n hr F x).2.1 = hr' at *
  generalize (seizS n hc F x).2.1 = hc' at *
  generalize (seizS n hc F x).2.2 = F' at *
  clear hg hR hb b0 b1 b2 o0 o1 o2 HM5 HE HE2
  have hcd : (cd == cd) = true := by simp
  go_wp2_with fail
  refine bodyPost_ret (v := .tuple #[rv gr' n cap' size hr', .bool true]) (by simp [results, Try.results11, go_sem, e0, e1, e2]) rfl ⟨_, gr', cap', _, _, rfl, HFin.out.1, HFin.out.2.1, HFin.out.2.2⟩
set_option maxRecDepth 100000 in
set_option maxHeartbeats 4000000 in
theorem dplay_take (x v : Int) (h : Both w bt g n size hc gr cap hr F) (h1 : 1 ≤ n) (hn : n ≤ 512) (hz : 1 ≤ size ∧ size ≤ 64) (hB : B ≤ g) (hB' : B ≤ bt) :
    Calls Try.prog 11 #[.pointer (some ⟨bt, 0, none⟩), rv gr n cap size hr, .agg #[.int .i64 3, .int .i64 x, .int .i64 v]] w (PlayO B w bt g n size) := by
  have HM := Lib.hid (PlM.start h (by have := h.us.lt.1; omega : B ≤ w.heap.size) 3 x v)
  have hh := h.hh
  have hsm := h.same
  have HH := Lib.hid hh
  have HS := Lib.hid hsm
  clear h hh hsm
  go_enter Try.func11, Try.ntmps11
  go_wp2_with fail
  refine (take_c (B := B) HM.out.us h1 hn hB hB').mono ?_
  rintro e w5 ⟨rfl, hu, hb, hf⟩
  have HM5 := Lib.hid (HM.out.call hu hb hf)
  clear hu hb hf HM
  have b0 := HM5.out.box.cell 0
  have b1 := HM5.out.box.cell 1
  have b2 := HM5.out.box.cell 2
  have o0 := HM5.out.op.cell 0
  have o1 := HM5.out.op.cell 1
  have o2 := HM5.out.op.cell 2
  simp at b0 b1 b2 o0 o1 o2
  have HE := Lib.hid (takeS_hands HS.out F)
  have HE2 := Lib.hid (takeS_hand HH.out h1 F)
  go_wp2_with fail
  refine (rtake_c HM5.out.rt HM5.out.cap h1 hn HH.out).mono ?_
  rintro e w6 ⟨gr', cap', rfl, hcap, hg, hR, hb⟩
  rw [HE.out.1, HE.out.2.1]
  rw [← HE.out.2.2.1] at hR
  have hgg : gr' ≠ w.heap.size := by have := HM5.out.lt; have := HM5.out.box.lt; omega
  have c0 := (HM5.out.box.later hb).cell 0
  have c1 := (HM5.out.box.later hb).cell 1
  have c2 := (HM5.out.box.later hb).cell 2
  have k0 := (HM5.out.box.later hb).frozen 0
  have k1 := (HM5.out.box.later hb).frozen 1
  have k2 := (HM5.out.box.later hb).frozen 2
  have e0 := (HM5.out.res.later hb).cell 0
  have e1 := (HM5.out.res.later hb).cell 1
  have e2 := (HM5.out.res.later hb).cell 2
  have z0 := (HM5.out.res.later hb).frozen 0
  have z1 := (HM5.out.res.later hb).frozen 1
  have z2 := (HM5.out.res.later hb).frozen 2
  simp at c0 c1 c2 e0 e1 e2
  have HFin := Lib.hid (HM5.out.fin hcap hg hR hb HE2.out HE.out.2.2.2)
  generalize (takeS n hr F).1 = sg at *
  generalize (takeS n hr F).2.1 = cd at *
  generalize (takeS n hr F).2.2.1 = hr' at *
  generalize (takeS n hc F).2.2.1 = hc' at *
  generalize (takeS n hc F).2.2.2 = F' at *
  clear hg hR hb b0 b1 b2 o0 o1 o2 HM5 HE HE2
  have hcd : (cd == cd) = true := by simp
  have hsg : (sg == sg) = true := by simp
  go_wp2_with fail
  refine bodyPost_ret (v := .tuple #[rv gr' n cap' size hr', .bool true]) (by simp [results, Try.results11, go_sem, e0, e1, e2]) rfl ⟨_, gr', cap', _, _, rfl, HFin.out.1, HFin.out.2.1, HFin.out.2.2⟩
set_option maxRecDepth 100000 in
set_option maxHeartbeats 4000000 in
theorem dplay_sweep (x v : Int) (h : Both w bt g n size hc gr cap hr F) (h1 : 1 ≤ n) (hn : n ≤ 512) (hz : 1 ≤ size ∧ size ≤ 64) (hB : B ≤ g) (hB' : B ≤ bt) :
    Calls Try.prog 11 #[.pointer (some ⟨bt, 0, none⟩), rv gr n cap size hr, .agg #[.int .i64 6, .int .i64 x, .int .i64 v]] w (PlayO B w bt g n size) := by
  have HM := Lib.hid (PlM.start h (by have := h.us.lt.1; omega : B ≤ w.heap.size) 6 x v)
  have hh := h.hh
  have hsm := h.same
  have HL := Lib.hid h.us.stt
  have HH := Lib.hid hh
  have HS := Lib.hid hsm
  clear h hh hsm
  go_enter Try.func11, Try.ntmps11
  go_wp2_with fail
  refine (sweep_any (B := B) HM.out.us.tb hn hB (by have := HM.out.us.lt.1; omega) HM.out.us.stt).mono ?_
  rintro e w5 ⟨a7, cap7, rfl, hown, ht, hb, hf⟩
  have hu : USt bt g n size hc (swF F n) w5 := ⟨ht, HM.out.us.lv.sweep n, swF_stt HM.out.us.tb.len HM.out.us.stt, HM.out.us.hd⟩
  have HI := Lib.hid hown
  have hbase : w.heap.size < (((w.alloc (.cells #[.slice (some ⟨gr, 0, none⟩) n cap, .int .i64 size, .int .i64 hr] RTB)).alloc (.cells #[.int .i64 6, .int .i64 x, .int .i64 v] OPT)).alloc (.cells #[.slice none 0 0, .int .i64 0, .int .i64 0] RTB)).heap.size := by simp; omega
  clear hown ht
  have HM5 := Lib.hid (HM.out.call hu hb hf)
  clear hu hb hf HM
  have b0 := HM5.out.box.cell 0
  have b1 := HM5.out.box.cell 1
  have b2 := HM5.out.box.cell 2
  have o0 := HM5.out.op.cell 0
  have o1 := HM5.out.op.cell 1
  have o2 := HM5.out.op.cell 2
  simp at b0 b1 b2 o0 o1 o2
  have hll := swL_len F n
  go_wp2_with fail
  refine (rsweep_any HM5.out.rt HM5.out.cap hn HL.out).mono ?_
  rintro e w6 ⟨gr', cap', a8, c8, rfl, hcap, hg, hR, hI8, hb⟩
  have hgg : gr' ≠ w.heap.size := by have := HM5.out.lt; have := HM5.out.box.lt; omega
  have c0 := (HM5.out.box.later hb).cell 0
  have c1 := (HM5.out.box.later hb).cell 1
  have c2 := (HM5.out.box.later hb).cell 2
  have k0 := (HM5.out.box.later hb).frozen 0
  have k1 := (HM5.out.box.later hb).frozen 1
  have k2 := (HM5.out.box.later hb).frozen 2
  have e0 := (HM5.out.res.later hb).cell 0
  have e1 := (HM5.out.res.later hb).cell 1
  have e2 := (HM5.out.res.later hb).cell 2
  have z0 := (HM5.out.res.later hb).frozen 0
  have z1 := (HM5.out.res.later hb).frozen 1
  have z2 := (HM5.out.res.later hb).frozen 2
  simp at c0 c1 c2 e0 e1 e2
  have HFin := Lib.hid (HM5.out.boxed hcap hg hR hb HH.out HS.out)
  have HI7 := Lib.hid (own_box (own_later HI.out hb) hbase (.slice (some ⟨gr', 0, none⟩) n cap') (.int .i64 size) (.int .i64 hr))
  have HI8 := Lib.hid (own_box hI8 (show w.heap.size < w5.heap.size by have := HM5.out.box.lt; omega) (.slice (some ⟨gr', 0, none⟩) n cap') (.int .i64 size) (.int .i64 hr))
  have HLe : Hid ((swL F n).length < 1000000000) := by show _ < _; omega
  generalize swL F n = LL at *
  generalize swF F n = F' at *
  clear hg hR hb hI8 HI b0 b1 b2 o0 o1 o2 HM5
  go_wp2_with fail
  refine (ints_any LL LL a7 a8 _ _ cap7 c8 _ rfl rfl HLe.out HI7.out HI8.out).mono ?_
  rintro e w8 ⟨rfl, hb⟩
  have HF8 := Lib.hid (HFin.out.later hb)
  have hx8 := HF8.out.box
  have hy8 := HF8.out.res
  clear hb c0 c1 c2 k0 k1 k2 e0 e1 e2 z0 z1 z2 HFin HI7 HI8
  have c0 := hx8.cell 0
  have c1 := hx8.cell 1
  have c2 := hx8.cell 2
  have e0 := hy8.cell 0
  have e1 := hy8.cell 1
  have e2 := hy8.cell 2
  have z0 := hy8.frozen 0
  have z1 := hy8.frozen 1
  have z2 := hy8.frozen 2
  simp at c0 c1 c2 e0 e1 e2
  have HFF := Lib.hid HF8.out.fin
  have hdd : decide (LL = LL) = true := by simp
  clear hx8 hy8 HF8
  go_wp2_with fail
  refine bodyPost_ret (v := .tuple #[rv gr' n cap' size hr, .bool true]) (by simp [results, Try.results11, go_sem, e0, e1, e2]) rfl ⟨_, gr', cap', _, _, rfl, HFF.out.1, HFF.out.2.1, HFF.out.2.2⟩
set_option maxRecDepth 100000 in
set_option maxHeartbeats 4000000 in
theorem dplay_other (K x v : Int) (h : Both w bt g n size hc gr cap hr F) (h1 : 1 ≤ n) (hn : n ≤ 512) (hz : 1 ≤ size ∧ size ≤ 64) (hB : B ≤ g) (hB' : B ≤ bt) (n1 : K ≠ 1) (n2 : K ≠ 2) (n3 : K ≠ 3) (n4 : K ≠ 4) (n5 : K ≠ 5) (n6 : K ≠ 6) (n7 : K ≠ 7) :
    Calls Try.prog 11 #[.pointer (some ⟨bt, 0, none⟩), rv gr n cap size hr, .agg #[.int .i64 K, .int .i64 x, .int .i64 v]] w (PlayO B w bt g n size) := by
  have hb := below3 w #[.slice (some ⟨gr, 0, none⟩) n cap, .int .i64 size, .int .i64 hr] #[.int .i64 K, .int .i64 x, .int .i64 v] #[.slice (some ⟨gr, 0, none⟩) n cap, .int .i64 size, .int .i64 hr] RTB OPT RTB
  have hBw : B ≤ w.heap.size := by have := h.us.lt.1; omega
  have HB := Lib.hid hb
  have HO := Lib.hid (h.later hb)
  have m1 : (K == 1) = false := by rw [beq_eq_false_iff_ne]; exact n1
  have m2 : (K == 2) = false := by rw [beq_eq_false_iff_ne]; exact n2
  have m3 : (K == 3) = false := by rw [beq_eq_false_iff_ne]; exact n3
  have m4 : (K == 4) = false := by rw [beq_eq_false_iff_ne]; exact n4
  have m5 : (K == 5) = false := by rw [beq_eq_false_iff_ne]; exact n5
  have m6 : (K == 6) = false := by rw [beq_eq_false_iff_ne]; exact n6
  have m7 : (K == 7) = false := by rw [beq_eq_false_iff_ne]; exact n7
  clear h hb n1 n2 n3 n4 n5 n6 n7
  go_enter Try.func11, Try.ntmps11
  go_wp2_with fail
  exact bodyPost_ret (v := .tuple #[rv gr n cap size hr, .bool true]) (by simp [results, Try.results11, go_sem]) rfl ⟨_, gr, cap, _, _, rfl, HO.out, HB.out.mono hBw, fr2_of_below HB.out⟩
theorem dplay_any (K x v : Int) (h : Both w bt g n size hc gr cap hr F) (h1 : 1 ≤ n) (hn : n ≤ 512) (hz : 1 ≤ size ∧ size ≤ 64) (hB : B ≤ g) (hB' : B ≤ bt) :
    Calls Try.prog 11 #[.pointer (some ⟨bt, 0, none⟩), rv gr n cap size hr, .agg #[.int .i64 K, .int .i64 x, .int .i64 v]] w (PlayO B w bt g n size) := by
  by_cases k1 : K = 1
  · subst k1
    exact dplay_add x v h h1 hn hz hB hB'
  by_cases k2 : K = 2
  · subst k2
    exact dplay_touch x v h h1 hn hz hB hB'
  by_cases k3 : K = 3
  · subst k3
    exact dplay_take x v h h1 hn hz hB hB'
  by_cases k4 : K = 4
  · subst k4
    exact dplay_use x v h h1 hn hz hB hB'
  by_cases k5 : K = 5
  · subst k5
    exact dplay_rel x v h h1 hn hz hB hB'
  by_cases k6 : K = 6
  · subst k6
    exact dplay_sweep x v h h1 hn hz hB hB'
  by_cases k7 : K = 7
  · subst k7
    exact dplay_seize x v h h1 hn hz hB hB'
  exact dplay_other K x v h h1 hn hz hB hB' k1 k2 k3 k4 k5 k6 k7
end
end Go.Proofs.Ytfilbbiiiaodiaa
