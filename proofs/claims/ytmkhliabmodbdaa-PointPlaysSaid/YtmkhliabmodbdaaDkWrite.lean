/-
  The disk's walks: Write.
-/
import Derived.Test.YtmkhliabmodbdaaDkWalks
import Derived.Test.YtmkhliabmodbdaaBuild
import Derived.Deep.RegionLaw
import Derived.Deep.RegionHeld3
import Derived.Deep.DeepCutAuto
import Derived.Laws.Cover3
import Derived.Outline
namespace Go.Proofs.Ytmkhliabmodbdaa
open Go.RowKit

/-- A slice of a block's bytes in memory of its own. -/
def BBlk (w : World) (g : Nat) (l : List Nat) : Prop := Blo w g U8 (cellsB l).toArray ∧ l.length = 64 ∧ ∀ x ∈ l, x < 256
def putD (d : Dm) (i : Nat) (l : List Nat) : Dm := { stepD d with N := updB d.N i l, Q := d.Q ++ [(i, l)] }
section
variable {C : Nat} {w : World} {L : Dl} {d : Dm}
theorem BBlk.range {g : Nat} {l : List Nat} (h : BBlk w g l) : w.rangeAt g 0 (cellsB l) := fun j v hv => by
  rw [Nat.zero_add, h.1.cell, List.getElem?_toArray]; exact hv
theorem BBlk.out {w' : World} {X : Nat → Prop} {g : Nat} {l : List Nat} (h : BBlk w g l) (ho : Out X w w') (hx : ¬ X g) : BBlk w' g l := ⟨ho.blo h.1 hx, h.2⟩
/-- A slice whose first 64 bytes are told, in a block of bytes of whatever length. -/
structure SBlk (w : World) (g : Nat) (l : List Nat) : Prop where
  blk : ∃ cs fr, w.heap[g]? = some (.cells cs U8 fr) ∧ ∀ j, j < 64 → cs[j]? = (cellsB l)[j]?
  len : l.length = 64
  byte : ∀ x ∈ l, x < 256
theorem BBlk.s {g : Nat} {l : List Nat} (h : BBlk w g l) : SBlk w g l := ⟨⟨_, (0, 0), h.1, fun j _ => by rw [List.getElem?_toArray]⟩, h.2.1, h.2.2⟩
theorem SBlk.range {g : Nat} {l : List Nat} (h : SBlk w g l) : w.rangeAt g 0 (cellsB l) := fun j v hv => by
  obtain ⟨cs, fr, h1, h2⟩ := h.blk
  have hj : j < 64 := by
    have := (List.getElem?_eq_some_iff.1 hv).1
    rw [cellsB_length, h.len] at this; exact this
  have hc : w.cell? ⟨g, j, none⟩ = cs[j]? := by simp [World.cell?, h1]
  rw [Nat.zero_add, hc, h2 j hj]; exact hv
theorem SBlk.out {w' : World} {X : Nat → Prop} {g : Nat} {l : List Nat} (h : SBlk w g l) (ho : Out X w w') (hx : ¬ X g) : SBlk w' g l := by
  obtain ⟨cs, fr, h1, h2⟩ := h.blk
  refine ⟨⟨cs, fr, (ho.block g ?_ hx).trans h1, h2⟩, h.len, h.byte⟩
  rcases Nat.lt_or_ge g w.heap.size with h' | h'
  · exact h'
  · rw [Array.getElem?_eq_none h'] at h1; cases h1
theorem typ_apart {w : World} {g g' : Nat} {cs cs' : Array Value} {t t' : TypeId} {fr : Nat × Nat} (h : w.heap[g]? = some (.cells cs t fr)) (h' : Blo w g' t' cs') (hne : t ≠ t') : g ≠ g' := by
  rintro rfl
  unfold Blo at h'
  rw [h] at h'
  injection h' with h'
  injection h' with _ ht
  exact hne ht
theorem SBlk.apart {g : Nat} {l : List Nat} (hb : SBlk w g l) (h : Dk C w L d) : ¬ L.has g := by
  obtain ⟨cs, fr, hg, _⟩ := hb.blk
  rintro (rfl | rfl | rfl | hq)
  · exact typ_apart hg h.top (by decide) rfl
  · obtain ⟨c2, k1, _⟩ := h.sure.blk; exact typ_apart hg k1 (by decide) rfl
  · obtain ⟨c2, k1, _⟩ := h.now.blk; exact typ_apart hg k1 (by decide) rfl
  · rcases id h.queue.2 with ⟨h1, _⟩ | ⟨g', c, cur, h1, _, h3, _⟩
    · rw [h1] at hq; cases hq
    · rw [h1] at hq
      have e : g' = g := by simpa [Value.ownBlock] using hq
      subst e
      exact typ_apart hg (show Blo w g' WRT cur from h3) (by decide) rfl
theorem info_wrt : ∃ i z, Try.prog.info? WRT = some i ∧ i.zero = some z ∧ i.size = 65 ∧ i.bytes = 72 ∧ z.cells.size = 65 := by
  have h1 : (Try.prog.info? WRT).map (fun i => (i.size, i.bytes)) = some (65, 72) := by kernel_rfl
  have h2 : (Try.prog.info? WRT).map (fun i => i.zero.map fun z => z.cells.size) = some (some 65) := by kernel_rfl
  cases hi : Try.prog.info? WRT with
  | none => rw [hi] at h1; cases h1
  | some i =>
    rw [hi] at h1 h2
    simp only [Option.map_some, Option.some.injEq, Prod.mk.injEq] at h1 h2
    cases hz : i.zero with
    | none => rw [hz] at h2; cases h2
    | some z =>
      rw [hz] at h2
      simp only [Option.map_some, Option.some.injEq] at h2
      exact ⟨i, z, rfl, hz, h1.1, h1.2, h2⟩
set_option maxHeartbeats 1000000 in
theorem write_low (k : Int) (a : Option Addr) (m cap : Nat) (hk : k < 0) (h : Dk C w L d) : Calls Try.prog 21 #[.pointer (some ⟨L.bd, 0, none⟩), .int .i64 k, .slice a m cap] w (CodeO C w L d 22) := by
  have H := Lib.hid h
  clear h
  go_enter Try.func21, Try.ntmps21
  go_wp2
  go_ret
  exact CodeO.stay H.out 22
set_option maxHeartbeats 1000000 in
theorem write_high (k : Int) (a : Option Addr) (m cap : Nat) (hk : (d.n : Int) ≤ k) (h : Dk C w L d) : Calls Try.prog 21 #[.pointer (some ⟨L.bd, 0, none⟩), .int .i64 k, .slice a m cap] w (CodeO C w L d 22) := by
  have H := Lib.hid h
  have t1 := h.top.cell 1
  have k0 : ¬ k < 0 := by omega
  simp at t1
  clear h
  go_enter Try.func21, Try.ntmps21
  go_wp2
  go_ret
  exact CodeO.stay H.out 22
set_option maxHeartbeats 1000000 in
theorem write_len (i : Nat) (a : Option Addr) (m cap : Nat) (hi : i < d.n) (hm : m ≠ 64) (hm2 : m ≤ 9223372036854775807) (h : Dk C w L d) : Calls Try.prog 21 #[.pointer (some ⟨L.bd, 0, none⟩), .int .i64 i, .slice a m cap] w (CodeO C w L d 22) := by
  have H := Lib.hid h
  have t1 := h.top.cell 1
  have k0 : (0 : Int) ≤ (i : Int) := by omega
  have k1 : (i : Int) < (d.n : Int) := by omega
  have k2 : ((m : Int) != 64) = true := by rw [bne_iff_ne]; omega
  simp at t1
  clear h
  go_enter Try.func21, Try.ntmps21
  go_wp2
  go_ret
  exact CodeO.stay H.out 22
set_option maxHeartbeats 1000000 in
theorem write_dead (i : Nat) (a : Option Addr) (cap : Nat) (hi : i < d.n) (hd : deadB d = true) (h : Dk C w L d) : Calls Try.prog 21 #[.pointer (some ⟨L.bd, 0, none⟩), .int .i64 i, .slice a 64 cap] w (CodeO C w L d 102) := by
  have H := Lib.hid h
  have HD := Lib.hid (dead_any h)
  rw [hd] at HD
  have t1 := h.top.cell 1
  have k0 : (0 : Int) ≤ (i : Int) := by omega
  have k1 : (i : Int) < (d.n : Int) := by omega
  simp at t1
  clear h hd
  go_enter Try.func21, Try.ntmps21
  go_wp2_with fail
  refine HD.out.mono ?_
  rintro e w' ⟨rfl, rfl⟩
  clear HD
  go_wp2
  go_ret
  exact CodeO.stay H.out 102
theorem Dk.putNow (h : Dk C w L d) {i : Nat} {l : List Nat} (hi : i < d.n) (hl : l.length = 64) (hb : ∀ x ∈ l, x < 256) : Dk C (w.setCells L.gn (i * 64) (cellsB l)) L { d with N := updB d.N i l } ∧ Out L.has w (w.setCells L.gn (i * 64) (cellsB l)) := by
  have ho : Out (fun j => j = L.gn) w (w.setCells L.gn (i * 64) (cellsB l)) := out_cells _ _ _ rfl
  refine ⟨⟨ho.blo h.top (fun e => h.bd_gn e), h.sure.out ho (fun e => h.ne e), h.now.put hi hl hb, ho.own h.queue (fun g hg e => h.q_gn (by rw [hg, e])), h.good, h.ne, h.low, h.few, h.stp, h.lft, h.len⟩, ho.mono (fun j _ e => .inr (.inr (.inl e)))⟩
theorem Dk.appended {w3 : World} {v : Value} {n : Nat} {p : Nat × List Nat} (h : Dk C w L d) (ho : w3.ownsRow C WRT 65 v (n + 1) (cellsW d.Q ++ wrtC p)) (hg : w.grownBy w3 L.qv.ownBlock) (hp : GoodW d.n p) (hn : n = d.Q.length) (hlt : d.Q.length < 1000000) :
    Dk C (w3.setCell ⟨L.bd, 2, none⟩ v) { L with qv := v } { d with Q := d.Q ++ [p] } ∧ Out L.has w (w3.setCell ⟨L.bd, 2, none⟩ v) := by
  have h1 : Out (fun j => L.qv.ownBlock = some j) w w3 := Out.of_grown hg (fun g e => e)
  have h2 : Out (fun j => j = L.bd) w3 (w3.setCell ⟨L.bd, 2, none⟩ v) := out_put w3 ⟨L.bd, 2, none⟩ v rfl
  have ht := h1.blo h.top (fun e => h.q_bd e)
  have hvb := own_type ho ht (by decide)
  subst hn
  refine ⟨⟨?_, (h.sure.out h1 (fun e => h.q_gs e)).out h2 (fun e => h.bd_gs e.symm), (h.now.out h1 (fun e => h.q_gn e)).out h2 (fun e => h.bd_gn e.symm), ?_, ?_, h.ne, h.low, h.few, h.stp, h.lft, by simp; omega⟩, ?_⟩
  · have := ht.put 2 v
    exact this
  · have := h2.own ho (fun g hg2 e => hvb (by rw [hg2, e]))
    rw [show (cellsW d.Q ++ wrtC p) = cellsW (d.Q ++ [p]) by rw [← cellsW_append, cellsW_one]] at this
    show World.ownsRow _ C WRT 65 v (d.Q ++ [p]).length (cellsW (d.Q ++ [p]))
    rw [List.length_append]
    exact this
  · intro q hq
    rcases List.mem_append.1 hq with hq | hq
    · exact h.good q hq
    · rw [List.mem_singleton.1 hq]; exact hp
  · exact (h1.mono (fun j _ e => Or.inr (Or.inr (Or.inr e)))).trans h2 (fun j _ e => Or.inl e)
theorem range_put {w : World} {b o : Nat} {cs : List Value} (h : w.rangeAt b o cs) (p : Addr) (u : Value) (hp : p.block ≠ b) : (w.setCell p u).rangeAt b o cs := fun j v hv => by
  rw [World.cell?_setCell_other _ _ _ _ (fun e => hp (by rw [e]))]
  exact h j v hv
theorem write_fin {w w2 wp w3 : World} {i : Nat} {l : List Nat} {g cap : Nat} (hO : Out L.has w w2) (hb : Below w2.heap.size w2 wp) (hD : Dk C wp L { stepD d with N := updB d.N i l })
    (ho : w3.ownsRow C WRT 65 (.slice (some ⟨g, 0, none⟩) (d.Q.length + 1) cap) (d.Q.length + 1) (cellsW d.Q ++ wrtC (i, l))) (hg : wp.grownBy w3 L.qv.ownBlock) (hp : GoodW d.n (i, l)) (hlt : d.Q.length < 1000000) (hat : L.qv.ownBlock = some g ∨ g = w2.heap.size + 1) :
    CodeO C w L (putD d i l) 0 (.returned (.int .i64 0)) (w3.setCell ⟨L.bd, 2, none⟩ (.slice (some ⟨g, 0, none⟩) (d.Q.length + 1) cap)) := by
  obtain ⟨h1, h2⟩ := hD.appended (n := d.Q.length) (p := (i, l)) ho hg hp rfl hlt
  refine ⟨rfl, _, h1, (hO.trans (Out.of_below hb) (fun _ _ h => h)).trans h2 (fun _ _ h => h), fun g2 e => ?_⟩
  have e2 : g = g2 := by simpa [Value.ownBlock] using e
  subst e2
  rcases hat with h | h
  · exact .inl h
  · have := hO.size; right; omega
structure AppF (C : Nat) (w3 : World) (L : Dl) (gb : Nat) (l : List Nat) : Prop where
  r : w3.rangeAt gb 0 (cellsB l)
  t : w3.cell? ⟨L.bd, 2, none⟩ = some L.qv
  f : w3.frozen? ⟨L.bd, 2, none⟩ = false
theorem appF {wp w3 : World} {gb : Nat} {l : List Nat} {d' : Dm} (hD : Dk C wp L d') (hB : SBlk wp gb l) (hG : ¬ L.has gb) (hg : wp.grownBy w3 L.qv.ownBlock) : AppF C w3 L gb l := by
  have h1 : Out (fun j => L.qv.ownBlock = some j) wp w3 := Out.of_grown hg (fun g e => e)
  have ht := h1.blo hD.top (fun e => hD.q_bd e)
  exact ⟨(hB.out h1 (fun e => hG (.inr (.inr (.inr e))))).range, by simpa using ht.cell 2, ht.frozen 2⟩
theorem wrt_bind : ∃ z, (Try.prog.info? WRT).bind (·.zero) = some z ∧ z.cells.size = 1 + 64 := by
  obtain ⟨i, z, h1, h2, h3, h4, h5⟩ := info_wrt
  exact ⟨z, by rw [h1]; exact h2, h5⟩
theorem run_build_wrt (w : World) (i : Int) (l : List Nat) (hl : l.length = 64) : (Instr.build WRT #[(0, .int .i64 i), (1, .agg (cellsB l).toArray)]).run Try.prog w = .ok (.agg (.int .i64 i :: cellsB l).toArray) w := by
  obtain ⟨z, h1, h2⟩ := wrt_bind
  exact run_build_two w WRT z _ _ _ 64 h1 Try.underlying91 (by kernel_rfl) rfl (by rw [cellsB_length]; exact hl) h2
theorem run_bslice_wrt (w : World) (i : Int) (l : List Nat) (hl : l.length = 64) : (Instr.buildSlice 82 1 #[(0, .agg (.int .i64 i :: cellsB l).toArray)]).run Try.prog w = .ok (.slice (some ⟨w.heap.size, 0, none⟩) 1 1) (w.alloc (.cells (.int .i64 i :: cellsB l).toArray WRT)) := by
  obtain ⟨ie, z, h1, h2, h3, h4, h5⟩ := info_wrt
  exact run_bslice_one w 82 WRT _ ie z Try.underlying82 h1 h2 (by rw [h3, List.length_cons, cellsB_length, hl]) (by simp) (by rw [List.length_cons, cellsB_length, hl]; decide)
theorem exec_build_wrt (ρ : Operand → Value) (x y : Operand) (i : Int) (l : List Nat) (hl : l.length = 64) (hx : ρ x = .int .i64 i) (hy : ρ y = .agg (cellsB l).toArray) (d : Option Tmp) (ty : TypeId) (pos : String) (af : Array Edge) (g : Option (Nat × Bool)) (w : World) :
    (execOp ρ ⟨d, .build WRT #[(0, x), (1, y)], ty, pos, af, g⟩).run Try.prog w = .ok (.value (.agg (.int .i64 i :: cellsB l).toArray)) w := by
  have := run_build_wrt w i l hl
  simp [execOp, hx, hy, this]
theorem step_bslice_wrt {ops : Array Oper} {o : Oper} {a : Act} {w : World} {K : Act → World → Prop} {Q : Exit → Act → World → Prop} {E : Prop} (hg : o.guard = none) (x : Operand) (ho : o.op = .buildSlice 82 1 #[(0, x)])
    (i : Int) (l : List Nat) (hl : l.length = 64) (hx : a.eval x = .agg (.int .i64 i :: cellsB l).toArray) (h : K (a.put o.dst (.slice (some ⟨w.heap.size, 0, none⟩) 1 1)) (w.alloc (.cells (.int .i64 i :: cellsB l).toArray WRT))) :
    if Region.wanted o (yielded ops a.tmps) = true then Oper.wp Try.prog o a w K Q else E := by
  rw [if_pos (by simp [Region.wanted, hg])]
  unfold Oper.wp
  have := run_bslice_wrt w i l hl
  simp [execOp, ho, hx, this]
  exact h
set_option maxRecDepth 100000 in
set_option maxHeartbeats 2000000 in
theorem write_sl (i gb cap : Nat) (l : List Nat) (hi : i < d.n) (hd : deadB d = false) (hl0 : 0 ≤ d.left) (hs : d.steps < 1000000) (hq : d.Q.length < 1000000) (hb : SBlk w gb l) (h : Dk C w L d) :
    Calls Try.prog 21 #[.pointer (some ⟨L.bd, 0, none⟩), .int .i64 i, .slice (some ⟨gb, 0, none⟩) 64 cap] w (CodeO C w L (putD d i l) 0) := by
  have H := Lib.hid h
  have HD := Lib.hid (dead_any h)
  rw [hd] at HD
  have HS := Lib.hid (step_any h hs hd hl0)
  have t1 := h.top.cell 1
  have k0 : (0 : Int) ≤ (i : Int) := by omega
  have k1 : (i : Int) < (d.n : Int) := by omega
  have hn := h.few.2
  simp at t1
  have hgb := hb.apart h
  have HGb := Lib.hid hgb
  have HBk := Lib.hid hb
  have hlen := hb.len
  have hix : (Try.prog.info? BLK).map (·.size) = some (cellsB l).length := by rw [cellsB_length, hlen]; exact size_blk
  have HIx := Lib.hid hix
  have HQ := Lib.hid hq
  have HLen := Lib.hid hlen
  have harr : ∀ W : World, (Instr.arrayAt BLK (.slice (some ⟨gb, 0, none⟩) 64 cap)).run Try.prog W = .ok (.pointer (some ⟨gb, 0, none⟩)) W := fun W => run_arrayAt (P := Try.prog) (w := W) BLK _ 64 _ 64 cap Try.underlying89 (Nat.le_refl _)
  clear h hd hs hl0 hgb hb hlen hix hq
  go_enter Try.func21, Try.ntmps21
  go_wp2_with fail
  refine HD.out.mono ?_
  rintro e w' ⟨rfl, rfl⟩
  clear HD
  go_wp2_with fail
  refine HS.out.mono ?_
  rintro e w1 ⟨rfl, h1, ho1⟩
  have H1 := Lib.hid h1
  have HO1 := Lib.hid ho1
  have HB1 := Lib.hid (HBk.out.out ho1 HGb.out)
  have t1 := h1.top.cell 1
  have t2 := h1.top.cell 2
  have f2 := h1.top.frozen 2
  simp [stepD] at t1 t2
  clear h1 ho1 HS
  go_wp2_with fail
  have n1 : gb ≠ L.gn := fun e => HGb.out (.inr (.inr (.inl e)))
  have n2 : L.bd ≠ L.gn := H1.out.bd_gn
  have hu := Try.underlying89
  have hi2 := HIx.out
  have hl64 : (cellsB l).length = 64 := by rw [cellsB_length]; exact HLen.out
  have hone := cellsB_one l
  have hr1 := HB1.out.range
  have hr2 := H1.out.now.there hi
  have hr2 : w1.there L.gn (i * 64) 64 := hr2
  go_region_held3 (fun W => W.rangeAt gb 0 (cellsB l) ∧ W.there L.gn (i * 64) 64 ∧ W.cell? ⟨L.bd, 1, none⟩ = some (.slice (some ⟨L.gn, 0, none⟩) d.n d.n)) ((go_split_ands; simp only [World.rangeAt_drew, World.there_drew, World.cell?_drew] at *; (repeat' constructor) <;> first | assumption | (apply World.there_setCells; assumption) | (refine World.rangeAt_setCells_apart (by assumption) _ _ _ (by omega)) | (rw [World.cell?_setCells_out _ _ _ _ _ (fun hh _ => absurd hh n2)]; assumption))) (fail)
  clear hr1 hr2 t1 n2 f2
  obtain ⟨hp1, hp2⟩ := (H1.out.later ((Below.refl _ _).drew)).putNow hi HLen.out HBk.out.byte
  have ho3 := ((Out.of_below (X := L.has) ((Below.refl w1.heap.size w1).drew)).trans hp2 (fun _ _ h => h))
  have H3 := Lib.hid hp1
  have HO3 := Lib.hid (HO1.out.trans ho3 (fun _ _ h => h))
  have HB3 := Lib.hid (HB1.out.out ho3 HGb.out)
  have t2 := H3.out.top.cell 2
  have f2 := H3.out.top.frozen 2
  simp at t2
  clear hp1 hp2 ho3 H1
  generalize w1.drew.setCells L.gn (i * 64) (cellsB l) = w2 at *
  have hr1 := HB3.out.range
  have hl64' := HLen.out
  obtain ⟨wi, wz, wi1, wi2, wi3, wi4, wi5⟩ := info_wrt
  have HI1 := Lib.hid wi1
  have HI2 := Lib.hid wi2
  have HI3 := Lib.hid wi3
  have HI4 := Lib.hid wi4
  have HI5 := Lib.hid wi5
  clear wi1 wi2 wi3 wi4 wi5 HB1 HO1
  have hKeep : ∀ W o, Below w2.heap.size w2 W → Dk C (W.alloc o) L _ := fun W o hb => H3.out.later (hb.alloc hb.size o)
  have HKeep := Lib.hid hKeep
  clear hKeep
  go_wp2_with fail
  have hlen64 : l.length = 64 := hl64'
  have HN2 : Hid (L.bd ≠ gb) := fun e => HGb.out (.inl e.symm)
  have t2b : ∀ o, (w2.alloc o).cell? ⟨L.bd, 2, none⟩ = some L.qv := fun o => by have := (HKeep.out _ o (Below.refl _ _)).top.cell 2; simpa using this
  refine wp_region_held_drew (S := fun W => W.rangeAt gb 0 (cellsB l)) (by kernel_rfl) ((World.rangeAt_drew _ _ _ _).2 hr1) (fun hHeld => ?_)
  refine wpAnyH_take (i := 0) (oi := ⟨some 36, _, _, _, _, _⟩) (v := ?_) rfl (by kernel_rfl) (by kernel_rfl) (by kernel_rfl) (fun _ _ _ h => h) (Or.inl ⟨by rfl, fun W hW => ?_⟩) (by assumption) ?_
  rotate_left
  · skip; go_simp; try with_reducible rfl
  simp only [Act.put, List.setIfInBounds_toArray, List.set_cons_zero, List.set_cons_succ]
  refine wpAnyH_take (i := 1) (oi := ⟨some 37, _, _, _, _, _⟩) (v := ?_) rfl (by kernel_rfl) (by kernel_rfl) (by kernel_rfl) (fun _ _ _ h => h) (Or.inl ⟨by rfl, fun W hW => ?_⟩) (by assumption) ?_
  rotate_left
  · skip; go_simp; try with_reducible rfl
  simp only [Act.put, List.setIfInBounds_toArray, List.set_cons_zero, List.set_cons_succ]
  refine wpAnyH_take (i := 2) (oi := ⟨some 38, _, _, _, _, _⟩) (v := ?_) rfl (by kernel_rfl) (by kernel_rfl) (by kernel_rfl) (fun _ _ _ h => h) (Or.inl ⟨by rfl, fun W hW => ?_⟩) (by assumption) ?_
  rotate_left
  · skip; go_simp; try with_reducible rfl
  simp only [Act.put, List.setIfInBounds_toArray, List.set_cons_zero, List.set_cons_succ]
  refine wpAnyH_take (i := 3) (oi := ⟨some 39, _, _, _, _, _⟩) (v := ?_) rfl (by kernel_rfl) (by kernel_rfl) (by kernel_rfl) (fun _ _ _ h => h) (Or.inl ⟨by rfl, fun W hW => ?_⟩) (by assumption) ?_
  rotate_left
  · skip; go_simp; try with_reducible rfl
  simp only [Act.put, List.setIfInBounds_toArray, List.set_cons_zero, List.set_cons_succ]
  refine wpAnyH_take (i := 5) (oi := ⟨some 41, _, _, _, _, _⟩) (v := ?_) rfl (by kernel_rfl) (by kernel_rfl) (by kernel_rfl) (fun _ _ _ h => h) (Or.inl ⟨by rfl, fun W hW => ?_⟩) (by assumption) ?_
  rotate_left
  · skip; go_simp; try with_reducible rfl
  simp only [Act.put, List.setIfInBounds_toArray, List.set_cons_zero, List.set_cons_succ]
  refine wpAnyH_take (i := 6) (oi := ⟨some 42, _, _, _, _, _⟩) (v := ?_) rfl (by kernel_rfl) (by kernel_rfl) (by kernel_rfl) (fun _ _ _ h => h) (Or.inl ⟨by rfl, fun W hW => ?_⟩) (by assumption) ?_
  rotate_left
  · skip; go_simp; try with_reducible rfl
  simp only [Act.put, List.setIfInBounds_toArray, List.set_cons_zero, List.set_cons_succ]
  refine wpAnyH_take (i := 7) (oi := ⟨some 43, _, _, _, _, _⟩) (v := ?_) rfl (by kernel_rfl) (by kernel_rfl) (by kernel_rfl) (fun _ _ _ h => h) (Or.inl ⟨by rfl, fun W hW => ?_⟩) (by assumption) ?_
  rotate_left
  · skip; go_simp; try with_reducible rfl
  simp only [Act.put, List.setIfInBounds_toArray, List.set_cons_zero, List.set_cons_succ]
  refine wpAnyH_take (i := 8) (oi := ⟨some 44, _, _, _, _, _⟩) rfl (by kernel_rfl) (by kernel_rfl) (by kernel_rfl) (fun _ _ _ h => h) (yieldsIf_load_mid (by rfl) _ _ rfl _ _ (by simp [go_sem]) _ _ (fun W hW => hW) Try.underlying89 rfl hi2) (by assumption) ?_
  simp only [Act.put, List.setIfInBounds_toArray, List.set_cons_zero, List.set_cons_succ]
  refine wpAnyH_take (i := 9) (oi := ⟨some 45, _, _, _, _, _⟩) (v := ?_) rfl (by kernel_rfl) (by kernel_rfl) (by kernel_rfl) (fun _ _ _ h => h) (Or.inl ⟨by rfl, fun W hW => ?_⟩) (by assumption) ?_
  rotate_left
  · (refine exec_build_wrt _ _ _ (i : Int) l hl64' ?_ ?_ _ _ _ _ _ _) <;> (first | rfl | simp [Act.eval])
  simp only [Act.put, List.setIfInBounds_toArray, List.set_cons_zero, List.set_cons_succ]
  refine wpAnyH_ready (rs := [4, 10]) (by kernel_rfl) (by simp) ?_
  refine AllReadyH.cons (o := ⟨some 40, _, _, _, _, _⟩) rfl (fun K hK => ?_) ?_
  · go_simp
    refine hK.out _ _ (by assumption) (fun hHeld => ?_)
    clear hK K
    try simp only [Act.put, List.setIfInBounds_toArray, List.set_cons_zero, List.set_cons_succ]
    refine wpAnyH_ready (rs := [10]) (by kernel_rfl) (by simp) ?_
    refine AllReadyH.cons (o := ⟨some 46, _, _, _, _, _⟩) rfl (fun K hK => ?_) AllReadyH.nil
    refine step_bslice_wrt (by rfl) _ (by rfl) (i : Int) l hl64' (by first | rfl | simp [go_sem]) ?_
    refine hK.out _ _ (World.rangeAt_alloc hHeld _) (fun hHeld => ?_)
    clear hK K
    try simp only [Act.put, List.setIfInBounds_toArray, List.set_cons_zero, List.set_cons_succ]
    refine wpAnyH_ready (rs := [11]) (by kernel_rfl) (by simp) ?_
    refine AllReadyH.cons (o := ⟨some 47, _, _, _, _, _⟩) rfl (fun K hK => ?_) AllReadyH.nil
    refine step_append_lies _ (by rfl) (.tmp 40) (.tmp 46) 82 (by rfl) C WRT wi wz 65 72 Try.underlying82 HI1.out HI2.out HI3.out HI4.out HI5.out (by decide) L.qv d.Q.length (cellsW d.Q) (by simp [go_sem]) (HKeep.out _ _ ((Below.refl _ _).drew)).queue ⟨w2.heap.size, 0, none⟩ 1 1 (wrtC (i, l)) (by simp [go_sem]) (wrtC_length ⟨hi, hlen64, HBk.out.byte⟩) (World.news_of_block (cs := (wrtC (i, l)).toArray) (t := WRT) (fr := (0, 0)) (heap_alloc_new w2.drew _)) (wrtC_one _) (by decide) (by have := HQ.out; unfold maxLen; omega) (by have := HQ.out; omega) (by have := H3.out.low.1; have := H3.out.top.lt; simp; omega) (w2.heap.size + 1) (by simp) ?_
    intro g1 cap1 w3 hown hgrow hat hlt1
    have HW := HKeep.out w2.drew (.cells (.int .i64 i :: cellsB l).toArray WRT) ((Below.refl _ _).drew)
    have hbw := (show Below w2.heap.size w2 (w2.drew.alloc (.cells (.int .i64 i :: cellsB l).toArray WRT)) from ((Below.refl w2.heap.size w2).drew).alloc (Nat.le_refl _) _)
    have hAF := appF HW (HB3.out.out (X := fun _ => False) (Out.of_below hbw) (fun h => h)) HGb.out hgrow
    have HF := Lib.hid (write_fin HO3.out hbw HW hown hgrow ⟨hi, hlen64, HBk.out.byte⟩ HQ.out hat)
    have HR3 := Lib.hid hAF.r
    have t2c := hAF.t
    have f2c := hAF.f
    clear hown hgrow hat hlt1 HW hbw hAF
    refine hK.out _ _ HR3.out (fun hHeld => ?_)
    clear hK K
    try simp only [Act.put, List.setIfInBounds_toArray, List.set_cons_zero, List.set_cons_succ]
    refine wpAnyH_take (i := 12) (oi := ⟨some 48, _, _, _, _, _⟩) (v := ?_) rfl (by kernel_rfl) (by kernel_rfl) (by kernel_rfl) (fun _ _ _ h => h) (Or.inl ⟨by rfl, fun W hW => ?_⟩) (by assumption) ?_
    rotate_left
    · skip; go_simp; try with_reducible rfl
    simp only [Act.put, List.setIfInBounds_toArray, List.set_cons_zero, List.set_cons_succ]
    refine wpAnyH_take (i := 13) (oi := ⟨some 49, _, _, _, _, _⟩) (v := ?_) rfl (by kernel_rfl) (by kernel_rfl) (by kernel_rfl) (fun _ _ _ h => h) (Or.inl ⟨by rfl, fun W hW => ?_⟩) (by assumption) ?_
    rotate_left
    · skip; go_simp; try with_reducible rfl
    simp only [Act.put, List.setIfInBounds_toArray, List.set_cons_zero, List.set_cons_succ]
    refine wpAnyH_ready (rs := [14]) (by kernel_rfl) (by simp) ?_
    refine AllReadyH.cons (o := ⟨none, _, _, _, _, _⟩) rfl (fun K hK => ?_) AllReadyH.nil
    go_simp
    refine hK.out _ _ (range_put HR3.out _ _ HN2.out) (fun hHeld => ?_)
    clear hK K
    try simp only [Act.put, List.setIfInBounds_toArray, List.set_cons_zero, List.set_cons_succ]
    refine wpAnyH_done (by kernel_rfl) ?_ _
    clear t2c f2c
    go_wp2
    go_ret
    exact HF.out
  refine AllReadyH.cons (o := ⟨some 46, _, _, _, _, _⟩) rfl (fun K hK => ?_) AllReadyH.nil
  refine step_bslice_wrt (by rfl) _ (by rfl) (i : Int) l hl64' (by first | rfl | simp [go_sem]) ?_
  refine hK.out _ _ (World.rangeAt_alloc hHeld _) (fun hHeld => ?_)
  clear hK K
  try simp only [Act.put, List.setIfInBounds_toArray, List.set_cons_zero, List.set_cons_succ]
  refine wpAnyH_ready (rs := [4]) (by kernel_rfl) (by simp) ?_
  refine AllReadyH.cons (o := ⟨some 40, _, _, _, _, _⟩) rfl (fun K hK => ?_) AllReadyH.nil
  go_simp
  refine hK.out _ _ (by assumption) (fun hHeld => ?_)
  clear hK K
  try simp only [Act.put, List.setIfInBounds_toArray, List.set_cons_zero, List.set_cons_succ]
  refine wpAnyH_ready (rs := [11]) (by kernel_rfl) (by simp) ?_
  refine AllReadyH.cons (o := ⟨some 47, _, _, _, _, _⟩) rfl (fun K hK => ?_) AllReadyH.nil
  refine step_append_lies _ (by rfl) (.tmp 40) (.tmp 46) 82 (by rfl) C WRT wi wz 65 72 Try.underlying82 HI1.out HI2.out HI3.out HI4.out HI5.out (by decide) L.qv d.Q.length (cellsW d.Q) (by simp [go_sem]) (HKeep.out _ _ ((Below.refl _ _).drew)).queue ⟨w2.heap.size, 0, none⟩ 1 1 (wrtC (i, l)) (by simp [go_sem]) (wrtC_length ⟨hi, hlen64, HBk.out.byte⟩) (World.news_of_block (cs := (wrtC (i, l)).toArray) (t := WRT) (fr := (0, 0)) (heap_alloc_new w2.drew _)) (wrtC_one _) (by decide) (by have := HQ.out; unfold maxLen; omega) (by have := HQ.out; omega) (by have := H3.out.low.1; have := H3.out.top.lt; simp; omega) (w2.heap.size + 1) (by simp) ?_
  intro g1 cap1 w3 hown hgrow hat hlt1
  have HW := (HKeep.out w2 (.cells (.int .i64 i :: cellsB l).toArray WRT) (Below.refl _ _)).later ((Below.refl _ _).drew)
  have hbw := (show Below w2.heap.size w2 (w2.alloc (.cells (.int .i64 i :: cellsB l).toArray WRT)).drew from ((Below.refl w2.heap.size w2).alloc (Nat.le_refl _) _).drew)
  have hAF := appF HW (HB3.out.out (X := fun _ => False) (Out.of_below hbw) (fun h => h)) HGb.out hgrow
  have HF := Lib.hid (write_fin HO3.out hbw HW hown hgrow ⟨hi, hlen64, HBk.out.byte⟩ HQ.out hat)
  have HR3 := Lib.hid hAF.r
  have t2c := hAF.t
  have f2c := hAF.f
  clear hown hgrow hat hlt1 HW hbw hAF
  refine hK.out _ _ HR3.out (fun hHeld => ?_)
  clear hK K
  try simp only [Act.put, List.setIfInBounds_toArray, List.set_cons_zero, List.set_cons_succ]
  refine wpAnyH_take (i := 12) (oi := ⟨some 48, _, _, _, _, _⟩) (v := ?_) rfl (by kernel_rfl) (by kernel_rfl) (by kernel_rfl) (fun _ _ _ h => h) (Or.inl ⟨by rfl, fun W hW => ?_⟩) (by assumption) ?_
  rotate_left
  · skip; go_simp; try with_reducible rfl
  simp only [Act.put, List.setIfInBounds_toArray, List.set_cons_zero, List.set_cons_succ]
  refine wpAnyH_take (i := 13) (oi := ⟨some 49, _, _, _, _, _⟩) (v := ?_) rfl (by kernel_rfl) (by kernel_rfl) (by kernel_rfl) (fun _ _ _ h => h) (Or.inl ⟨by rfl, fun W hW => ?_⟩) (by assumption) ?_
  rotate_left
  · skip; go_simp; try with_reducible rfl
  simp only [Act.put, List.setIfInBounds_toArray, List.set_cons_zero, List.set_cons_succ]
  refine wpAnyH_ready (rs := [14]) (by kernel_rfl) (by simp) ?_
  refine AllReadyH.cons (o := ⟨none, _, _, _, _, _⟩) rfl (fun K hK => ?_) AllReadyH.nil
  go_simp
  refine hK.out _ _ (range_put HR3.out _ _ HN2.out) (fun hHeld => ?_)
  clear hK K
  try simp only [Act.put, List.setIfInBounds_toArray, List.set_cons_zero, List.set_cons_succ]
  refine wpAnyH_done (by kernel_rfl) ?_ _
  clear t2c f2c
  go_wp2
  go_ret
  exact HF.out
theorem write_yes (i gb cap : Nat) (l : List Nat) (hi : i < d.n) (hd : deadB d = false) (hl0 : 0 ≤ d.left) (hs : d.steps < 1000000) (hq : d.Q.length < 1000000) (hb : BBlk w gb l) (h : Dk C w L d) :
    Calls Try.prog 21 #[.pointer (some ⟨L.bd, 0, none⟩), .int .i64 i, .slice (some ⟨gb, 0, none⟩) 64 cap] w (CodeO C w L (putD d i l) 0) :=
  write_sl i gb cap l hi hd hl0 hs hq hb.s h
end
end Go.Proofs.Ytmkhliabmodbdaa
