/-
  The disk's walks: Barrier.
-/
import Derived.Test.YtmkhliabmodbdaaDkWrite
namespace Go.Proofs.Ytmkhliabmodbdaa
open Go.RowKit

def flushQ (S : Nat → List Nat) (Q : List (Nat × List Nat)) : Nat → List Nat := Q.foldl (fun S p => updB S p.1 p.2) S
theorem flushQ_snoc (S : Nat → List Nat) (Q : List (Nat × List Nat)) (p : Nat × List Nat) : flushQ S (Q ++ [p]) = updB (flushQ S Q) p.1 p.2 := by simp [flushQ]
theorem take_snoc' {α : Type} (Q : List α) (k : Nat) (h : k < Q.length) : Q.take (k + 1) = Q.take k ++ [Q[k]] := by
  rw [List.take_succ_eq_append_getElem h]
def clrD (d : Dm) : Dm := { d with S := flushQ d.S d.Q, Q := [] }
def barD (d : Dm) : Dm := clrD (stepD d)
theorem stepD_n (d : Dm) : (stepD d).n = d.n := rfl
section
variable {C : Nat} {w w' : World} {L : Dl} {d : Dm}
theorem Dk.putSure (h : Dk C w L d) {i : Nat} {l : List Nat} (hi : i < d.n) (hl : l.length = 64) (hb : ∀ x ∈ l, x < 256) : Dk C (w.setCells L.gs (i * 64) (cellsB l)) L { d with S := updB d.S i l } ∧ Out L.has w (w.setCells L.gs (i * 64) (cellsB l)) := by
  have ho : Out (fun j => j = L.gs) w (w.setCells L.gs (i * 64) (cellsB l)) := out_cells _ _ _ rfl
  refine ⟨⟨ho.blo h.top (fun e => h.bd_gs e), h.sure.put hi hl hb, h.now.out ho (fun e => h.ne e.symm), ho.own h.queue (fun g hg e => h.q_gs (by rw [hg, e])), h.good, h.ne, h.low, h.few, h.stp, h.lft, h.len⟩, ho.mono (fun j _ e => .inr (.inl e))⟩
theorem Dk.cleared (h : Dk C w L d) : Dk C (w.setCell ⟨L.bd, 2, none⟩ (.slice none 0 0)) { L with qv := .slice none 0 0 } { d with Q := [] } ∧ Out L.has w (w.setCell ⟨L.bd, 2, none⟩ (.slice none 0 0)) := by
  have h2 : Out (fun j => j = L.bd) w (w.setCell ⟨L.bd, 2, none⟩ (.slice none 0 0)) := out_put w ⟨L.bd, 2, none⟩ _ rfl
  exact ⟨⟨h.top.put 2 _, h.sure.out h2 (fun e => h.bd_gs e.symm), h.now.out h2 (fun e => h.bd_gn e.symm), ⟨rfl, .inl ⟨rfl, rfl⟩⟩, by simp, h.ne, h.low, h.few, h.stp, h.lft, by simp⟩, h2.mono (fun j _ e => .inl e)⟩
/-- One write of the queue, where it lies. -/
theorem Dk.at (h : Dk C w L d) {k : Nat} (hk : k < d.Q.length) : ∃ g cap, L.qv = .slice (some ⟨g, 0, none⟩) d.Q.length cap ∧ w.rangeAt g (k * 65) (wrtC d.Q[k]) ∧ GoodW d.n d.Q[k] := by
  rcases id h.queue.2 with ⟨_, h0⟩ | ⟨g, cap, cur, hv, _, hh, hc, _, hs, ht⟩
  · omega
  · refine ⟨g, cap, hv, fun j v hj => ?_, h.good _ (List.getElem_mem hk)⟩
    have hgd := h.good _ (List.getElem_mem hk)
    have hj65 : j < 65 := by
      have := (List.getElem?_eq_some_iff.1 hj).1
      rw [wrtC_length hgd] at this; exact this
    have h1 := cellsW_at d.Q h.good k hk j hj65
    rw [← ht, List.getElem?_take_of_lt (by omega), Array.getElem?_toList] at h1
    rw [Blo.cell (t := WRT) hh, h1]
    exact hj
theorem zero_wrt : ∃ Z : Array Value, (∀ w, (zeroValue WRT).run Try.prog w = .ok (.agg Z) w) ∧ Z.size = 65 := by
  obtain ⟨i, z, h1, h2, h3, h4, h5⟩ := info_wrt
  cases z with
  | agg Z => exact ⟨Z, fun w => by simp [zeroValue, typeInfo, h1, h2], h5⟩
  | _ => simp [Value.cells] at h5
theorem wrt_pair (p : Nat × List Nat) : wrtC p = .int .i64 p.1 :: cellsB p.2 := rfl
def BarR (C : Nat) (w : World) (L : Dl) (d : Dm) (i : Value) (wr : World) : Prop :=
  ∃ k : Nat, k ≤ d.Q.length ∧ i = .int .i64 k ∧ Dk C wr L { d with S := flushQ d.S (d.Q.take k) } ∧ Out L.has w wr
theorem below_row {B : Nat} {w0 : World} {g : Nat} (h : Below B w0 w) (hg : B ≤ g) (cells : Array Value) : Below B w0 (w.setRow g cells) := by
  refine ⟨h.os, h.tape, h.output, by have := h.size; simp [World.setRow]; omega, fun k hk => ?_⟩
  rw [← h.block k hk]
  simp only [World.setRow]
  rw [Array.getElem?_modify, if_neg (by omega)]
theorem blo_range {t : TypeId} {g : Nat} {cs : List Value} (h : Blo w g t cs.toArray) : w.rangeAt g 0 cs := fun j v hv => by
  rw [Nat.zero_add, h.cell, List.getElem?_toArray]; exact hv
structure VarW (w : World) (g : Nat) (p : Nat × List Nat) : Prop where
  b : Blo w g WRT (wrtC p).toArray
theorem VarW.at0 {g : Nat} {p : Nat × List Nat} (h : VarW w g p) : w.cell? ⟨g, 0, none⟩ = some (.int .i64 p.1) := by rw [h.b.cell]; rfl
theorem VarW.data {g : Nat} {p : Nat × List Nat} (h : VarW w g p) : w.rangeAt g 1 (cellsB p.2) := fun j v hv => by
  rw [h.b.cell, List.getElem?_toArray, Nat.add_comm, wrt_pair, List.getElem?_cons_succ]; exact hv
theorem varW_new (w : World) (Z : Array Value) (p : Nat × List Nat) : VarW ((w.alloc (.cells Z WRT)).setRow w.heap.size (wrtC p).toArray) w.heap.size p := ⟨blo_row (blo_laid w WRT Z) _⟩
set_option maxHeartbeats 400000 in
theorem bar_dead (h : Dk C w L d) (hd : deadB d = true) : Calls Try.prog 38 #[.pointer (some ⟨L.bd, 0, none⟩)] w (CodeO C w L d 102) := by
  have H := Lib.hid h
  have HD := Lib.hid (dead_any h)
  rw [hd] at HD
  clear h hd
  go_enter Try.func38, Try.ntmps38
  go_wp2_with fail
  refine HD.out.mono ?_
  rintro e w' ⟨rfl, rfl⟩
  clear HD
  go_wp2
  go_ret
  exact CodeO.stay H.out 102
set_option maxRecDepth 100000 in
set_option maxHeartbeats 2000000 in
theorem bar_yes (h : Dk C w L d) (hd : deadB d = false) (hl0 : 0 ≤ d.left) (hs : d.steps < 1000000) : Calls Try.prog 38 #[.pointer (some ⟨L.bd, 0, none⟩)] w (CodeO C w L (barD d) 0) := by
  show Calls _ _ _ _ (CodeO C w L (clrD (stepD d)) 0)
  have HD := Lib.hid (dead_any h)
  rw [hd] at HD
  have HS := Lib.hid (step_any h hs hd hl0)
  have hn := h.few.2
  clear h hd hs hl0
  go_enter Try.func38, Try.ntmps38
  go_wp2_with fail
  refine HD.out.mono ?_
  rintro e w' ⟨rfl, rfl⟩
  clear HD
  go_wp2_with fail
  refine HS.out.mono ?_
  rintro e w1 ⟨rfl, h1, ho1⟩
  have hn1 : (stepD d).n ≤ 4096 := hn
  clear hn
  generalize stepD d = d1 at *
  have H1 := Lib.hid h1
  have HO1 := Lib.hid ho1
  clear HS ho1
  obtain ⟨qa, qc, hqv, hqc⟩ := own_slice h1.queue
  have t2 := h1.top.cell 2
  simp at t2
  rw [hqv] at t2
  have hqn : d1.Q.length ≤ 1000000 := h1.len
  have HQv := Lib.hid hqv
  have HSt : Hid (BarR C w L d1 (.int .i64 0) w1) := ⟨0, Nat.zero_le _, rfl, H1.out, HO1.out⟩
  clear hqv hqc h1 H1 HO1
  obtain ⟨Z, hZ, hZs⟩ := zero_wrt
  have HZs := Lib.hid hZs
  clear hZs
  go_wp2_with fail
  clear t2
  go_loopw [14] (fun i wr => BarR C w L d1 i wr) (fun i _ => d1.Q.length - (intOf i).toNat)
  case atStart => exact HSt.out
  case round =>
    clear HSt
    obtain ⟨k, hk, rfl, hD, hO⟩ := hrel
    have hk' : k ≤ d1.Q.length := hk
    have HD := Lib.hid hD
    have HO := Lib.hid hO
    clear hO hk
    by_cases hlt : k < d1.Q.length
    · obtain ⟨g, cp, hv, hr, hg⟩ := hD.at (k := k) hlt
      rw [HQv.out] at hv
      injection hv with q1 q2 q3
      subst q1
      have hr : wr.rangeAt g (k * 65) (wrtC d1.Q[k]) := hr
      have hg : GoodW d1.n d1.Q[k] := hg
      have hi2 : (Try.prog.info? WRT).map (·.size) = some (wrtC d1.Q[k]).length := by rw [wrtC_length hg]; exact size_wrt
      have HI2 := Lib.hid hi2
      have HI3 : Hid ((Try.prog.info? WRT).map (·.size) = some (wrtC d1.Q[k]).toArray.size) := by rw [List.size_toArray]; exact hi2
      have HR := Lib.hid hr
      have HG := Lib.hid hg
      have k0 : (0 : Int) ≤ (k : Int) := by omega
      clear hi2 hr hg hD q2 q3
      go_wp2_with (first | (refine wpList_load_mid rfl WRT (.tmp 16) rfl g (k * 65) (by first | rfl | simp [go_sem]) (wrtC d1.Q[k]) _ HR.out Try.underlying91 rfl HI2.out ?_) | (refine wpList_store_row rfl WRT (.tmp 4) (.tmp 17) rfl wr.heap.size (wrtC d1.Q[k]).toArray (by first | rfl | simp [go_sem]) (by first | rfl | simp [go_sem]) WRT _ (heap_alloc_new wr _) HI3.out (by show Z.size = (wrtC d1.Q[k]).length; rw [wrtC_length HG.out]; exact HZs.out) (all_oneCell_toArray (wrtC_one _)) ?_))
      have hb5 : Below wr.heap.size wr ((wr.alloc (.cells Z WRT)).setRow wr.heap.size (wrtC d1.Q[k]).toArray) := below_row ((Below.refl _ _).alloc (Nat.le_refl _) _) (Nat.le_refl _) _
      have HD5 := Lib.hid (HD.out.later hb5)
      have HO5 := Lib.hid (HO.out.trans (Out.of_below (X := L.has) hb5) (fun _ _ h => h))
      have HV := Lib.hid (varW_new wr Z d1.Q[k])
      have HNx : Hid (¬ L.has wr.heap.size) := fun h => by have := (HD.out.has_lt h).2; omega
      clear hb5
      generalize ((wr.alloc (.cells Z WRT)).setRow wr.heap.size (wrtC d1.Q[k]).toArray) = w5 at *
      generalize wr.heap.size = gx at *
      obtain ⟨pa, pl, hp⟩ : ∃ a l, d1.Q[k] = (a, l) := ⟨_, _, rfl⟩
      have HP := Lib.hid hp
      rw [hp] at HV HG
      obtain ⟨g1, g2, g3⟩ := HG.out
      clear hp HR HI2 HI3 HG HD HO
      have n1 : gx ≠ L.gs := fun e => HNx.out (.inr (.inl e))
      have n2 : L.bd ≠ L.gs := HD5.out.bd_gs
      have hu := Try.underlying89
      have hi2 : (Try.prog.info? BLK).map (·.size) = some (cellsB pl).length := by rw [cellsB_length, g2]; exact size_blk
      have hl64 : (cellsB pl).length = 64 := by rw [cellsB_length]; exact g2
      have hone := cellsB_one pl
      have hr1 := HV.out.data
      have hr2 := HD5.out.sure.there g1
      have hr2 : w5.there L.gs (pa * 64) 64 := hr2
      have hc1 := HV.out.at0
      have hc2 := HD5.out.top.cell 0
      simp at hc1 hc2
      have p0 : (0 : Int) ≤ (pa : Int) := by omega
      have p1 : (pa : Int) < (d1.n : Int) := by have g1 : pa < d1.n := g1; omega
      have G1 := Lib.hid g1
      have G2 := Lib.hid g2
      have G3 := Lib.hid g3
      clear g1 g2 g3
      go_region_held3 (fun W => W.rangeAt gx 1 (cellsB pl) ∧ W.there L.gs (pa * 64) 64 ∧ W.cell? ⟨gx, 0, none⟩ = some (.int .i64 pa) ∧ W.cell? ⟨L.bd, 0, none⟩ = some (.slice (some ⟨L.gs, 0, none⟩) d1.n d1.n)) ((go_split_ands; simp only [World.rangeAt_drew, World.there_drew, World.cell?_drew] at *; (repeat' constructor) <;> first | assumption | (apply World.there_setCells; assumption) | (refine World.rangeAt_setCells_apart (by assumption) _ _ _ (by omega)) | (rw [World.cell?_setCells_out _ _ _ _ _ (fun hh _ => absurd hh n2)]; assumption) | (rw [World.cell?_setCells_out _ _ _ _ _ (fun hh _ => absurd hh n1)]; assumption))) (fail)
      clear hr1 hr2 hc1 hc2 n1 n2 hu hi2 hl64 hone
      obtain ⟨hp1, hp2⟩ := (HD5.out.later ((Below.refl _ _).drew)).putSure G1.out G2.out G3.out
      have HD6 : Hid (Dk C (w5.drew.setCells L.gs (pa * 64) (cellsB pl)) L { d1 with S := flushQ d1.S (d1.Q.take (k + 1)) }) := by
        rw [take_snoc' d1.Q k hlt, flushQ_snoc, HP.out]; exact hp1
      have HO6 := Lib.hid ((HO5.out.trans (Out.of_below (X := L.has) ((Below.refl w5.heap.size w5).drew)) (fun _ _ h => h)).trans hp2 (fun _ _ h => h))
      clear hp1 hp2 HD5 HO5
      go_wp2_with fail
      go_roundw
      case rel => exact ⟨k + 1, hlt, by simp, HD6.out, HO6.out⟩
      case measure => simp [intOf]; omega
    · have hke : k = d1.Q.length := by omega
      have HD7 : Hid (Dk C wr L { d1 with S := flushQ d1.S d1.Q }) := by
        have := HD.out
        rw [hke, List.take_length] at this
        exact this
      have t2 := HD7.out.top.cell 2
      have f2 := HD7.out.top.frozen 2
      simp at t2
      obtain ⟨hc1, hc2⟩ := HD7.out.cleared
      have HF : Hid (CodeO C w L (clrD d1) 0 (.returned (.int .i64 0)) (wr.setCell ⟨L.bd, 2, none⟩ (.slice none 0 0))) := ⟨rfl, _, hc1, HO.out.trans hc2 (fun _ _ h => h), fun g hg => by simp [Value.ownBlock] at hg⟩
      clear hc1 hc2 hD HD HD7 HO hke
      go_wp2
      go_ret
      exact HF.out
end
end Go.Proofs.Ytmkhliabmodbdaa
