/-
  DkBar · DkAll · DkRead · Lists · Quiet · SgPut · Fis · IxLev: these texts in one.
-/
import Derived.Test.YtlkgaefabahkoaaDoorPk00
import Derived.Deep.Slices
import Derived.OpenShut
import Derived.ChangeArms
import Derived.BigQuiet
import Derived.Below
import Derived.Deep.DeepCutAuto
import Derived.Deep.QuietTactic
import Derived.Test.YtlkgaefabahkoaaDoorRows
import Derived.StillTailTactics
import Derived.WalkKit
import Derived.WalkSpells
import Derived.WalkLawsBesides
import Derived.IntWalk
import Derived.Lib.Hide
import Derived.Deep.RegionHeld
import Derived.Deep.RegionWith
/-
  The disk's walks: Barrier.
-/
namespace Go.Proofs.YtlkgaefabahkoaaDoor
open Go.RowKit

def flushQ (S : Nat → List Nat) (Q : List (Nat × List Nat)) : Nat → List Nat := Q.foldl (fun S p => updB S p.1 p.2) S
theorem flushQ_snoc (S : Nat → List Nat) (Q : List (Nat × List Nat)) (p : Nat × List Nat) : flushQ S (Q ++ [p]) = updB (flushQ S Q) p.1 p.2 := by simp [flushQ]
theorem take_snoc' {α : Type} (Q : List α) (k : Nat) (h : k < Q.length) : Q.take (k + 1) = Q.take k ++ [Q[k]] := by
  rw [List.take_succ_eq_append_getElem h]
def clrD (d : Dm) : Dm := { d with S := flushQ d.S d.Q, Q := [] }
def barD (d : Dm) : Dm := clrD (stepD d)
theorem stepD_n (d : Dm) : (stepD d).n = d.n := rfl
section
variable {C : Nat} {w w' : World} {L : Dl} {d : Dm}
theorem Dk.putSure (h : Dk C w L d) {i : Nat} {l : List Nat} (hi : i < d.n) (hl : l.length = 64) (hb : ∀ x ∈ l, x < 256) : Dk C (w.setCells L.gs (i * 64) (cellsB l)) L { d with S := updB d.S i l } ∧ Out L.has w (w.setCells L.gs (i * 64) (cellsB l)) := by
  have ho : Out (fun j => j = L.gs) w (w.setCells L.gs (i * 64) (cellsB l)) := out_cells _ _ _ rfl
  refine ⟨⟨ho.blo h.top (fun e => h.bd_gs e), h.sure.put hi hl hb, h.now.out ho (fun e => h.ne e.symm), ho.own h.queue (fun g hg e => h.q_gs (by rw [hg, e])), h.good, h.ne, h.low, h.few, h.stp, h.lft, h.len⟩, ho.mono (fun j _ e => .inr (.inl e))⟩
theorem Dk.cleared (h : Dk C w L d) : Dk C (w.setCell ⟨L.bd, 2, none⟩ (.slice none 0 0)) { L with qv := .slice none 0 0 } { d with Q := [] } ∧ Out L.has w (w.setCell ⟨L.bd, 2, none⟩ (.slice none 0 0)) := by
  have h2 : Out (fun j => j = L.bd) w (w.setCell ⟨L.bd, 2, none⟩ (.slice none 0 0)) := out_put w ⟨L.bd, 2, none⟩ _ rfl
  exact ⟨⟨h.top.put 2 _, h.sure.out h2 (fun e => h.bd_gs e.symm), h.now.out h2 (fun e => h.bd_gn e.symm), ⟨rfl, .inl ⟨rfl, rfl⟩⟩, by simp, h.ne, h.low, h.few, h.stp, h.lft, by simp⟩, h2.mono (fun j _ e => .inl e)⟩
/-- One write of the queue, where it lies. -/
theorem Dk.at (h : Dk C w L d) {k : Nat} (hk : k < d.Q.length) : ∃ g cap, L.qv = .slice (some ⟨g, 0, none⟩) d.Q.length cap ∧ w.rangeAt g (k * 65) (wrtC d.Q[k]) ∧ GoodW d.n d.Q[k] := by
  rcases id h.queue.2 with ⟨_, h0⟩ | ⟨g, cap, cur, hv, _, hh, hc, _, hs, ht⟩
  · omega
  · refine ⟨g, cap, hv, fun j v hj => ?_, h.good _ (List.getElem_mem hk)⟩
    have hgd := h.good _ (List.getElem_mem hk)
    have hj65 : j < 65 := by
      have := (List.getElem?_eq_some_iff.1 hj).1
      rw [wrtC_length hgd] at this; exact this
    have h1 := cellsW_at d.Q h.good k hk j hj65
    rw [← ht, List.getElem?_take_of_lt (by omega), Array.getElem?_toList] at h1
    rw [Blo.cell (t := WRT) hh, h1]
    exact hj
theorem zero_wrt : ∃ Z : Array Value, (∀ w, (zeroValue WRT).run Tryd.prog w = .ok (.agg Z) w) ∧ Z.size = 65 := by
  obtain ⟨i, z, h1, h2, h3, h4, h5⟩ := info_wrt
  cases z with
  | agg Z => exact ⟨Z, fun w => by simp [zeroValue, typeInfo, h1, h2], h5⟩
  | _ => simp [Value.cells] at h5
theorem wrt_pair (p : Nat × List Nat) : wrtC p = .int .i64 p.1 :: cellsB p.2 := rfl
def BarR (C : Nat) (w : World) (L : Dl) (d : Dm) (i : Value) (wr : World) : Prop :=
  ∃ k : Nat, k ≤ d.Q.length ∧ i = .int .i64 k ∧ Dk C wr L { d with S := flushQ d.S (d.Q.take k) } ∧ Out L.has w wr
theorem below_row {B : Nat} {w0 : World} {g : Nat} (h : Below B w0 w) (hg : B ≤ g) (cells : Array Value) : Below B w0 (w.setRow g cells) := by
  refine ⟨h.os, h.tape, h.output, by have := h.size; simp [World.setRow]; omega, fun k hk => ?_⟩
  rw [← h.block k hk]
  simp only [World.setRow]
  rw [Array.getElem?_modify, if_neg (by omega)]
theorem blo_range {t : TypeId} {g : Nat} {cs : List Value} (h : Blo w g t cs.toArray) : w.rangeAt g 0 cs := fun j v hv => by
  rw [Nat.zero_add, h.cell, List.getElem?_toArray]; exact hv
structure VarW (w : World) (g : Nat) (p : Nat × List Nat) : Prop where
  b : Blo w g WRT (wrtC p).toArray
theorem VarW.at0 {g : Nat} {p : Nat × List Nat} (h : VarW w g p) : w.cell? ⟨g, 0, none⟩ = some (.int .i64 p.1) := by rw [h.b.cell]; rfl
theorem VarW.data {g : Nat} {p : Nat × List Nat} (h : VarW w g p) : w.rangeAt g 1 (cellsB p.2) := fun j v hv => by
  rw [h.b.cell, List.getElem?_toArray, Nat.add_comm, wrt_pair, List.getElem?_cons_succ]; exact hv
theorem varW_new (w : World) (Z : Array Value) (p : Nat × List Nat) : VarW ((w.alloc (.cells Z WRT)).setRow w.heap.size (wrtC p).toArray) w.heap.size p := ⟨blo_row (blo_laid w WRT Z) _⟩
set_option maxHeartbeats 400000 in
theorem bar_dead (h : Dk C w L d) (hd : deadB d = true) : Calls Tryd.prog 84 #[.pointer (some ⟨L.bd, 0, none⟩)] w (CodeO C w L d 102) := by
  have H := Lib.hid h
  have HD := Lib.hid (dead_any h)
  rw [hd] at HD
  clear h hd
  go_enter Tryd.func84, Tryd.ntmps84
  go_wp2_with fail
  refine HD.out.mono ?_
  rintro e w' ⟨rfl, rfl⟩
  clear HD
  go_wp2
  go_ret
  exact CodeO.stay H.out 102
set_option maxRecDepth 100000 in
set_option maxHeartbeats 2000000 in
theorem bar_yes (h : Dk C w L d) (hd : deadB d = false) (hl0 : 0 ≤ d.left) (hs : d.steps < 1000000) : Calls Tryd.prog 84 #[.pointer (some ⟨L.bd, 0, none⟩)] w (CodeO C w L (barD d) 0) := by
  show Calls _ _ _ _ (CodeO C w L (clrD (stepD d)) 0)
  have HD := Lib.hid (dead_any h)
  rw [hd] at HD
  have HS := Lib.hid (dstep_any h hs hd hl0)
  have hn := h.few.2
  clear h hd hs hl0
  go_enter Tryd.func84, Tryd.ntmps84
  go_wp2_with fail
  refine HD.out.mono ?_
  rintro e w' ⟨rfl, rfl⟩
  clear HD
  go_wp2_with fail
  refine HS.out.mono ?_
  rintro e w1 ⟨rfl, h1, ho1⟩
  have hn1 : (stepD d).n ≤ 4096 := hn
  clear hn
  generalize stepD d = d1 at *
  have H1 := Lib.hid h1
  have HO1 := Lib.hid ho1
  clear HS ho1
  obtain ⟨qa, qc, hqv, hqc⟩ := own_slice h1.queue
  have t2 := h1.top.cell 2
  simp at t2
  rw [hqv] at t2
  have hqn : d1.Q.length ≤ 1000000 := h1.len
  have HQv := Lib.hid hqv
  have HSt : Hid (BarR C w L d1 (.int .i64 0) w1) := ⟨0, Nat.zero_le _, rfl, H1.out, HO1.out⟩
  clear hqv hqc h1 H1 HO1
  obtain ⟨Z, hZ, hZs⟩ := zero_wrt
  have HZs := Lib.hid hZs
  clear hZs
  go_wp2_with fail
  clear t2
  go_loopw [14] (fun i wr => BarR C w L d1 i wr) (fun i _ => d1.Q.length - (intOf i).toNat)
  case atStart => exact HSt.out
  case round =>
    clear HSt
    obtain ⟨k, hk, rfl, hD, hO⟩ := hrel
    have hk' : k ≤ d1.Q.length := hk
    have HD := Lib.hid hD
    have HO := Lib.hid hO
    clear hO hk
    by_cases hlt : k < d1.Q.length
    · obtain ⟨g, cp, hv, hr, hg⟩ := hD.at (k := k) hlt
      rw [HQv.out] at hv
      injection hv with q1 q2 q3
      subst q1
      have hr : wr.rangeAt g (k * 65) (wrtC d1.Q[k]) := hr
      have hg : GoodW d1.n d1.Q[k] := hg
      have hi2 : (Tryd.prog.info? WRT).map (·.size) = some (wrtC d1.Q[k]).length := by rw [wrtC_length hg]; exact size_wrt
      have HI2 := Lib.hid hi2
      have HI3 : Hid ((Tryd.prog.info? WRT).map (·.size) = some (wrtC d1.Q[k]).toArray.size) := by rw [List.size_toArray]; exact hi2
      have HR := Lib.hid hr
      have HG := Lib.hid hg
      have k0 : (0 : Int) ≤ (k : Int) := by omega
      clear hi2 hr hg hD q2 q3
      go_wp2_with (first | (refine wpList_load_mid rfl WRT (.tmp 16) rfl g (k * 65) (by first | rfl | simp [go_sem]) (wrtC d1.Q[k]) _ HR.out Tryd.underlying125 rfl HI2.out ?_) | (refine wpList_store_row rfl WRT (.tmp 4) (.tmp 17) rfl wr.heap.size (wrtC d1.Q[k]).toArray (by first | rfl | simp [go_sem]) (by first | rfl | simp [go_sem]) WRT _ (heap_alloc_new wr _) HI3.out (by show Z.size = (wrtC d1.Q[k]).length; rw [wrtC_length HG.out]; exact HZs.out) (all_oneCell_toArray (wrtC_one _)) ?_))
      have hb5 : Below wr.heap.size wr ((wr.alloc (.cells Z WRT)).setRow wr.heap.size (wrtC d1.Q[k]).toArray) := below_row ((Below.refl _ _).alloc (Nat.le_refl _) _) (Nat.le_refl _) _
      have HD5 := Lib.hid (HD.out.later hb5)
      have HO5 := Lib.hid (HO.out.trans (Out.of_below (X := L.has) hb5) (fun _ _ h => h))
      have HV := Lib.hid (varW_new wr Z d1.Q[k])
      have HNx : Hid (¬ L.has wr.heap.size) := fun h => by have := (HD.out.has_lt h).2; omega
      clear hb5
      generalize ((wr.alloc (.cells Z WRT)).setRow wr.heap.size (wrtC d1.Q[k]).toArray) = w5 at *
      generalize wr.heap.size = gx at *
      obtain ⟨pa, pl, hp⟩ : ∃ a l, d1.Q[k] = (a, l) := ⟨_, _, rfl⟩
      have HP := Lib.hid hp
      rw [hp] at HV HG
      obtain ⟨g1, g2, g3⟩ := HG.out
      clear hp HR HI2 HI3 HG HD HO
      have n1 : gx ≠ L.gs := fun e => HNx.out (.inr (.inl e))
      have n2 : L.bd ≠ L.gs := HD5.out.bd_gs
      have hu := Tryd.underlying123
      have hi2 : (Tryd.prog.info? BLK).map (·.size) = some (cellsB pl).length := by rw [cellsB_length, g2]; exact size_blk
      have hl64 : (cellsB pl).length = 64 := by rw [cellsB_length]; exact g2
      have hone := cellsB_one pl
      have hr1 := HV.out.data
      have hr2 := HD5.out.sure.there g1
      have hr2 : w5.there L.gs (pa * 64) 64 := hr2
      have hc1 := HV.out.at0
      have hc2 := HD5.out.top.cell 0
      simp at hc1 hc2
      have p0 : (0 : Int) ≤ (pa : Int) := by omega
      have p1 : (pa : Int) < (d1.n : Int) := by have g1 : pa < d1.n := g1; omega
      have G1 := Lib.hid g1
      have G2 := Lib.hid g2
      have G3 := Lib.hid g3
      clear g1 g2 g3
      go_region_held3 (fun W => W.rangeAt gx 1 (cellsB pl) ∧ W.there L.gs (pa * 64) 64 ∧ W.cell? ⟨gx, 0, none⟩ = some (.int .i64 pa) ∧ W.cell? ⟨L.bd, 0, none⟩ = some (.slice (some ⟨L.gs, 0, none⟩) d1.n d1.n)) ((go_split_ands; simp only [World.rangeAt_drew, World.there_drew, World.cell?_drew] at *; (repeat' constructor) <;> first | assumption | (apply World.there_setCells; assumption) | (refine World.rangeAt_setCells_apart (by assumption) _ _ _ (by omega)) | (rw [World.cell?_setCells_out _ _ _ _ _ (fun hh _ => absurd hh n2)]; assumption) | (rw [World.cell?_setCells_out _ _ _ _ _ (fun hh _ => absurd hh n1)]; assumption))) (fail)
      clear hr1 hr2 hc1 hc2 n1 n2 hu hi2 hl64 hone
      obtain ⟨hp1, hp2⟩ := (HD5.out.later ((Below.refl _ _).drew)).putSure G1.out G2.out G3.out
      have HD6 : Hid (Dk C (w5.drew.setCells L.gs (pa * 64) (cellsB pl)) L { d1 with S := flushQ d1.S (d1.Q.take (k + 1)) }) := by
        rw [take_snoc' d1.Q k hlt, flushQ_snoc, HP.out]; exact hp1
      have HO6 := Lib.hid ((HO5.out.trans (Out.of_below (X := L.has) ((Below.refl w5.heap.size w5).drew)) (fun _ _ h => h)).trans hp2 (fun _ _ h => h))
      clear hp1 hp2 HD5 HO5
      go_wp2_with fail
      go_roundw
      case rel => exact ⟨k + 1, hlt, by simp, HD6.out, HO6.out⟩
      case measure => simp [intOf]; omega
    · have hke : k = d1.Q.length := by omega
      have HD7 : Hid (Dk C wr L { d1 with S := flushQ d1.S d1.Q }) := by
        have := HD.out
        rw [hke, List.take_length] at this
        exact this
      have t2 := HD7.out.top.cell 2
      have f2 := HD7.out.top.frozen 2
      simp at t2
      obtain ⟨hc1, hc2⟩ := HD7.out.cleared
      have HF : Hid (CodeO C w L (clrD d1) 0 (.returned (.int .i64 0)) (wr.setCell ⟨L.bd, 2, none⟩ (.slice none 0 0))) := ⟨rfl, _, hc1, HO.out.trans hc2 (fun _ _ h => h), fun g hg => by simp [Value.ownBlock] at hg⟩
      clear hc1 hc2 hD HD HD7 HO hke
      go_wp2
      go_ret
      exact HF.out
end
end Go.Proofs.YtlkgaefabahkoaaDoor
/-
  The disk's calls, each told for every input by one function on the model's disk.
-/
namespace Go.Proofs.YtlkgaefabahkoaaDoor
open Go.RowKit

def writeD (d : Dm) (k : Int) (l : List Nat) : Dm × Int :=
  if k < 0 ∨ (d.n : Int) ≤ k ∨ l.length ≠ 64 then (d, 22) else if deadB d = true then (d, 102) else (putD d k.toNat l, 0)
def barrD (d : Dm) : Dm × Int := if deadB d = true then (d, 102) else (barD d, 0)
def armsD (d : Dm) (k : Int) : Dm × Int := if k < 0 then (d, 22) else if deadB d = true then (d, 102) else (armD d k, 0)
theorem bool_no {b : Bool} (h : ¬ b = true) : b = false := by cases b with
  | true => exact absurd rfl h
  | false => rfl
theorem putD_pos {d : Dm} {i : Nat} {l : List Nat} (h : 0 ≤ d.left) (hd : deadB d = false) : 0 ≤ (putD d i l).left := by
  show 0 ≤ (if d.armed then d.left - 1 else d.left)
  unfold deadB at hd
  cases ha : d.armed with
  | false => simpa using h
  | true =>
    rw [ha] at hd
    simp at hd ⊢
    omega
theorem barD_pos {d : Dm} (h : 0 ≤ d.left) (hd : deadB d = false) : 0 ≤ (barD d).left := by
  show 0 ≤ (if d.armed then d.left - 1 else d.left)
  unfold deadB at hd
  cases ha : d.armed with
  | false => simpa using h
  | true =>
    rw [ha] at hd
    simp at hd ⊢
    omega
/-- Room for so many steps more. -/
structure Rm (d : Dm) (k : Nat) : Prop where
  lf : 0 ≤ d.left
  st : d.steps + k ≤ 1000000
  ql : d.Q.length + k ≤ 1000000
theorem Rm.mono {d : Dm} {j k : Nat} (h : Rm d k) (hj : j ≤ k) : Rm d j := ⟨h.lf, by have := h.st; omega, by have := h.ql; omega⟩
theorem Rm.write {d : Dm} {k : Nat} (h : Rm d (k + 1)) (i : Int) (l : List Nat) : Rm (writeD d i l).1 k := by
  unfold writeD
  split
  · exact h.mono (by omega)
  · split
    · exact h.mono (by omega)
    · rename_i hd
      exact ⟨putD_pos h.lf (bool_no hd), by have := h.st; show d.steps + 1 + (k : Int) ≤ 1000000; omega, by have := h.ql; show (d.Q ++ [_]).length + k ≤ _; simp; omega⟩
theorem Rm.bar {d : Dm} {k : Nat} (h : Rm d (k + 1)) : Rm (barrD d).1 k := by
  unfold barrD
  split
  · exact h.mono (by omega)
  · rename_i hd
    exact ⟨barD_pos h.lf (bool_no hd), by have := h.st; show d.steps + 1 + (k : Int) ≤ 1000000; omega, by have := h.ql; show ([] : List (Nat × List Nat)).length + k ≤ _; simp; omega⟩
theorem writeD_n (d : Dm) (i : Int) (l : List Nat) : (writeD d i l).1.n = d.n := by
  unfold writeD
  split
  · rfl
  · split <;> rfl
theorem barrD_n (d : Dm) : (barrD d).1.n = d.n := by
  unfold barrD
  split <;> rfl
section
variable {C : Nat} {w w' : World} {L : Dl} {d : Dm}
/-- Write of sixty-four bytes, wherever they stand. -/
theorem write_alo (k : Int) (g o cap : Nat) (l : List Nat) (hr : Rm d 1) (hb : SBO w g o l) (hgb : ¬ L.has g) (h : Dk C w L d) :
    Calls Tryd.prog 83 #[.pointer (some ⟨L.bd, 0, none⟩), .int .i64 k, .slice (some ⟨g, o, none⟩) 64 cap] w (CodeO C w L (writeD d k l).1 (writeD d k l).2) := by
  unfold writeD
  by_cases h1 : k < 0
  · rw [if_pos (.inl h1)]; exact write_low k _ _ cap h1 h
  · by_cases h2 : (d.n : Int) ≤ k
    · rw [if_pos (.inr (.inl h2))]; exact write_high k _ _ cap h2 h
    · obtain ⟨i, rfl⟩ : ∃ i : Nat, k = (i : Int) := ⟨k.toNat, by omega⟩
      have hin : i < d.n := by omega
      have hl := hb.len
      rw [if_neg (by rintro (q | q | q) <;> omega)]
      by_cases h4 : deadB d = true
      · rw [if_pos h4]; exact write_dead i _ cap hin h4 h
      · rw [if_neg h4]
        have := write_slo i g o cap l hin (bool_no h4) hr.lf (by have := hr.st; omega) (by have := hr.ql; omega) hb hgb h
        simpa using this
theorem barr_any (hl0 : 0 ≤ d.left) (hs : d.steps < 1000000) (h : Dk C w L d) : Calls Tryd.prog 84 #[.pointer (some ⟨L.bd, 0, none⟩)] w (CodeO C w L (barrD d).1 (barrD d).2) := by
  unfold barrD
  by_cases h4 : deadB d = true
  · rw [if_pos h4]; exact bar_dead h h4
  · rw [if_neg h4]; exact bar_yes h (bool_no h4) hl0 hs
theorem arms_any (k : Int) (hk2 : k ≤ 9223372036854775807) (h : Dk C w L d) : Calls Tryd.prog 22 #[.pointer (some ⟨L.bd, 0, none⟩), .int .i64 k] w (CodeO C w L (armsD d k).1 (armsD d k).2) := by
  unfold armsD
  by_cases h1 : k < 0
  · rw [if_pos h1]; exact arm_low k h1 h
  · rw [if_neg h1]
    by_cases h4 : deadB d = true
    · rw [if_pos h4]; exact arm_dead k (by omega) h h4
    · rw [if_neg h4]; exact arm_yes k (by omega) hk2 h (bool_no h4)
theorem CodeO.before {code : Int} {e : Ending} {d' : Dm} {w0 : World} (h : CodeO C w L d' code e w') (hb : Below w0.heap.size w0 w) : CodeO C w0 L d' code e w' := by
  obtain ⟨h1, q, h2, h3, h4⟩ := h
  exact ⟨h1, q, h2, (Out.of_below hb).trans h3 (fun _ _ h => h), fun g hg => by
    rcases h4 g hg with h | h
    · exact .inl h
    · exact .inr (Nat.le_trans hb.size h)⟩
/-- Where a disk lies behind a call: its queue may have gone to new memory. -/
def QvO (w : World) (L : Dl) (q : Value) : Prop := ∀ g, q.ownBlock = some g → L.qv.ownBlock = some g ∨ w.heap.size ≤ g
theorem QvO.refl (w : World) (L : Dl) : QvO w L L.qv := fun _ h => .inl h
theorem QvO.not {q : Value} (h : QvO w L q) {g : Nat} (hg : g < w.heap.size) (hn : ¬ L.has g) : ¬ ({ L with qv := q } : Dl).has g := by
  rintro (e | e | e | e)
  · exact hn (.inl e)
  · exact hn (.inr (.inl e))
  · exact hn (.inr (.inr (.inl e)))
  · rcases h g e with h' | h'
    · exact hn (.inr (.inr (.inr h')))
    · omega
theorem Out.next {q : Value} {w1 w2 : World} (h3 : Out L.has w w1) (h4 : QvO w L q) (k : Out ({ L with qv := q } : Dl).has w1 w2) : Out L.has w w2 :=
  h3.trans k (fun i hi hx => Classical.byContradiction fun hn => h4.not hi hn hx)
theorem QvO.next {q q2 : Value} {w1 : World} (h3 : Out L.has w w1) (h4 : QvO w L q) (k : QvO w1 { L with qv := q } q2) : QvO w L q2 := fun g hg => by
  rcases k g hg with h | h
  · exact h4 g h
  · exact .inr (Nat.le_trans h3.size h)
theorem CodeO.seq {c2 : Int} {e2 : Ending} {d2 : Dm} {w1 w2 : World} {q : Value} (h3 : Out L.has w w1) (h4 : QvO w L q) (k : CodeO C w1 { L with qv := q } d2 c2 e2 w2) : CodeO C w L d2 c2 e2 w2 := by
  obtain ⟨k1, q2, k2, k3, k4⟩ := k
  exact ⟨k1, q2, k2, h3.next h4 k3, QvO.next h3 h4 k4⟩
end
end Go.Proofs.YtlkgaefabahkoaaDoor
/-
  The disk's walks: Read, Queue.
-/
namespace Go.Proofs.YtlkgaefabahkoaaDoor
open Go.RowKit

def Z64 : Array Value := (cellsB zeroB).toArray
theorem size_u8d : (Tryd.prog.info? U8).map (·.size) = some 1 := by kernel_rfl
theorem run_make64 : ∀ W : World, (Instr.makeSlice 49 (.int .i64 64) (.int .i64 64)).run Tryd.prog W = .ok (.slice (some ⟨W.heap.size, 0, none⟩) 64 64) (W.alloc (.cells Z64 U8)) := fun _ => by kernel_rfl
theorem bblk_zero (w : World) : BBlk (w.alloc (.cells Z64 U8)) w.heap.size zeroB := ⟨blo_laid w U8 Z64, by decide, zeroB_byte⟩
theorem BBlk.there {w : World} {g : Nat} {l : List Nat} (h : BBlk w g l) : w.there g 0 64 := fun j hj =>
  ⟨by rw [Nat.zero_add, h.1.cell, List.getElem?_toArray, cellsB_get _ _ (by rw [h.2.1]; exact hj)]; rfl, h.1.frozen _⟩
/-- A block whose bytes are all written. -/
theorem BBlk.filled {w : World} {g : Nat} {l m : List Nat} (h : BBlk w g l) (hm : m.length = 64) (hb : ∀ x ∈ m, x < 256) : BBlk (w.setCells g 0 (cellsB m)) g m := by
  obtain ⟨cs, h1, h2, h3⟩ := blo_cells (cellsB m) 0 w _ h.1
  have hs : cs.size = 64 := by rw [h2, List.size_toArray, cellsB_length, h.2.1]
  have e : cs = (cellsB m).toArray := by
    apply Array.ext_getElem?
    intro j
    rw [h3 j, cellsB_length, hm, List.size_toArray, cellsB_length, h.2.1]
    by_cases c : j < 64
    · rw [if_pos (by omega), Nat.sub_zero, List.getElem?_toArray]
    · rw [if_neg (by omega), Array.getElem?_eq_none (by rw [List.size_toArray, cellsB_length, h.2.1]; omega), Array.getElem?_eq_none (by rw [List.size_toArray, cellsB_length, hm]; omega)]
  rw [e] at h1
  exact ⟨h1, hm, hb⟩
theorem sup_us2 (w : World) (o : Obj) : Below w.heap.size w (w.alloc o) := (Below.refl _ _).alloc (Nat.le_refl _) o
def ReadO (w : World) (l : List Nat) (e : Ending) (w' : World) : Prop :=
  ∃ g, e = .returned (.tuple #[.slice (some ⟨g, 0, none⟩) 64 64, .int .i64 0]) ∧ BBlk w' g l ∧ w.heap.size ≤ g ∧ Below w.heap.size w w'
section
variable {C : Nat} {w w' : World} {L : Dl} {d : Dm}
set_option maxHeartbeats 400000 in
theorem read_bad (k : Int) (hk : k < 0 ∨ (d.n : Int) ≤ k) (h : Dk C w L d) : Calls Tryd.prog 24 #[.pointer (some ⟨L.bd, 0, none⟩), .int .i64 k] w fun e w' => e = .returned (.tuple #[.slice none 0 0, .int .i64 22]) ∧ w = w' := by
  have t1 := h.top.cell 1
  have hn := h.few.2
  simp at t1
  clear h
  rcases hk with hk | hk
  · go_enter Tryd.func24, Tryd.ntmps24
    go_wp2
    go_ret2
    exact ⟨rfl, rfl⟩
  · have k0 : ¬ k < 0 := by omega
    go_enter Tryd.func24, Tryd.ntmps24
    go_wp2
    go_ret2
    exact ⟨rfl, rfl⟩
set_option maxHeartbeats 1000000 in
theorem read_yes (i : Nat) (hi : i < d.n) (h : Dk C w L d) : Calls Tryd.prog 24 #[.pointer (some ⟨L.bd, 0, none⟩), .int .i64 i] w (ReadO w (d.N i)) := by
  have t1 := h.top.cell 1
  have hn := h.few.2
  simp at t1
  have k0 : (0 : Int) ≤ (i : Int) := by omega
  have k1 : (i : Int) < (d.n : Int) := by omega
  have hmk := run_make64
  have hb0 : Below w.heap.size w (w.alloc (.cells Z64 U8)) := (Below.refl _ _).alloc (Nat.le_refl _) _
  have HB0 := Lib.hid hb0
  have H2 := Lib.hid (h.later hb0)
  have HZ := Lib.hid (bblk_zero w)
  have HLen := Lib.hid (h.now.len i)
  have HBy := Lib.hid (h.now.byte i)
  have hbd := h.top.lt
  clear h hb0
  go_enter Tryd.func24, Tryd.ntmps24
  go_wp2_with (refine wpList_copy_many rfl (.tmp 19) (.tmp 26) 49 49 rfl U8 1 Tryd.underlying49 size_u8d w.heap.size 0 64 64 ⟨L.gn, i * 64, none⟩ 64 64 (by first | rfl | simp [go_sem]) (by first | rfl | simp [go_sem]) (cellsB (d.N i)) (by rw [cellsB_length, HLen.out]; rfl) (range_src (H2.out.now.range hi)) (by rw [cellsB_length, HLen.out]; exact HZ.out.there) (cellsB_one _) ?_)
  go_ret2
  refine ⟨w.heap.size, rfl, HZ.out.filled HLen.out HBy.out, Nat.le_refl _, ?_⟩
  exact (out_cells (X := fun j => j = w.heap.size) (cellsB (d.N i)) 0 _ rfl).below (by simp) (fun _ _ e => by omega) |> fun h => HB0.out.trans h
set_option maxHeartbeats 400000 in
theorem run_ints (w : World) (n : Nat) (hn : n ≤ 1000000) :
    (Instr.makeSlice 34 (.int .i64 (n : Int)) (.int .i64 (n : Int))).run Tryd.prog w = .ok (.slice (some ⟨w.heap.size, 0, none⟩) n n) (w.alloc (.cells (cellsI (List.replicate n 0)).toArray 3)) := by
  have h0 : (Tryd.prog.info? 3).map (fun i => (i.zero, i.size, i.bytes)) = some (some (.int .i64 0), 1, 8) := by kernel_rfl
  obtain ⟨i, hi0, hz, hs1, hb1⟩ := info_parts h0
  have hr := run_make (P := Tryd.prog) w 34 3 i (.int .i64 0) Tryd.underlying34 hi0 hz .i64 .i64 n n (by omega) (Int.le_refl _) (by rw [hb1]; omega) (by omega)
  simp only [Int.toNat_natCast] at hr
  have e : madeCells (Value.int .i64 0).cells (n * 1) = (cellsI (List.replicate n 0)).toArray := by
    apply Array.toList_inj.1
    apply List.ext_getElem (by simp [madeCells, cellsI])
    intro j h1 h2
    simp [madeCells, cellsI, Value.cells, Nat.mod_one]
  rw [hr, hs1, e]
def QueO (w : World) (Q : List (Nat × List Nat)) (e : Ending) (w' : World) : Prop :=
  ∃ g, e = .returned (.slice (some ⟨g, 0, none⟩) Q.length Q.length) ∧ Blo w' g 3 (cellsI (Q.map fun p => (p.1 : Int))).toArray ∧ w.heap.size ≤ g ∧ Below w.heap.size w w'
def QueR (w : World) (gl : Nat) (Q : List (Nat × List Nat)) (i : Value) (wr : World) : Prop :=
  ∃ k : Nat, k ≤ Q.length ∧ i = .int .i64 k ∧ (∃ cs, Blo wr gl 3 cs ∧ cs.size = Q.length ∧ ∀ j, j < k → cs[j]? = some (.int .i64 ((Q.getD j (0, [])).1 : Nat))) ∧ Below w.heap.size w wr
set_option maxRecDepth 100000 in
set_option maxHeartbeats 2000000 in
theorem queue_any (h : Dk C w L d) : Calls Tryd.prog 40 #[.pointer (some ⟨L.bd, 0, none⟩)] w (QueO w d.Q) := by
  obtain ⟨qa, qc, hqv, hqc⟩ := own_slice h.queue
  have t2 := h.top.cell 2
  simp at t2
  rw [hqv] at t2
  have hqn : d.Q.length ≤ 1000000 := h.len
  have HQv := Lib.hid hqv
  have H := Lib.hid h
  have hmk : ∀ W, _ := fun W => run_ints W d.Q.length hqn
  have hbd := h.top.lt
  have hb1 := sup_us2 w (.cells (cellsI (List.replicate d.Q.length 0)).toArray 3)
  have HB1 := Lib.hid hb1
  have HSt : Hid (QueR w w.heap.size d.Q (.int .i64 0) (w.alloc (.cells (cellsI (List.replicate d.Q.length 0)).toArray 3))) :=
    ⟨0, Nat.zero_le _, rfl, ⟨_, blo_laid w _ _, by simp [cellsI], fun j hj => by omega⟩, hb1⟩
  obtain ⟨Z, hZ, hZs⟩ := zero_wrt
  have HZs := Lib.hid hZs
  clear h hqv hqc hb1 hZs
  go_enter Tryd.func40, Tryd.ntmps40
  go_wp2_with fail
  clear t2 hmk
  go_loopw [17] (fun i wr => QueR w w.heap.size d.Q i wr) (fun i _ => d.Q.length - (intOf i).toNat)
  case atStart => exact HSt.out
  case round =>
    clear HSt
    obtain ⟨k, hk, rfl, ⟨cs, hg0, hgs, hgc⟩, hb⟩ := hrel
    have HD := H.out.later hb
    have HB := Lib.hid hb
    have HG0 := Lib.hid hg0
    have HGs := Lib.hid hgs
    have HGc := Lib.hid hgc
    clear hg0 hgs hgc hb
    by_cases hlt : k < d.Q.length
    · obtain ⟨g, cp, hv, hr, hg⟩ := HD.at (k := k) hlt
      rw [HQv.out] at hv
      injection hv with q1 q2 q3
      subst q1
      have hi2 : (Tryd.prog.info? WRT).map (·.size) = some (wrtC d.Q[k]).length := by rw [wrtC_length hg]; exact size_wrt
      have HI2 := Lib.hid hi2
      have HI3 : Hid ((Tryd.prog.info? WRT).map (·.size) = some (wrtC d.Q[k]).toArray.size) := by rw [List.size_toArray]; exact hi2
      have HR := Lib.hid hr
      have HG := Lib.hid hg
      have k0 : (0 : Int) ≤ (k : Int) := by omega
      have k1 : (k : Int) < (d.Q.length : Int) := by omega
      have hb5 : Below wr.heap.size wr ((wr.alloc (.cells Z WRT)).setRow wr.heap.size (wrtC d.Q[k]).toArray) := below_row ((Below.refl _ _).alloc (Nat.le_refl _) _) (Nat.le_refl _) _
      have HV := Lib.hid (varW_new wr Z d.Q[k])
      have hgl := HG0.out.lt
      have HG5 := Lib.hid (HG0.out.later hb5)
      have HB5 := Lib.hid (HB.out.trans (hb5.mono HB.out.size))
      have hx0 := HV.out.at0
      obtain ⟨v0, hv0⟩ : ∃ v, cs[k]? = some v := ⟨_, Array.getElem?_eq_getElem (by rw [HGs.out]; exact hlt)⟩
      have hx1 := HG5.out.cell k
      have hx2 := HG5.out.frozen k
      rw [hv0] at hx1
      clear hi2 hr hg HD q2 q3 hb5 hv0
      go_wp2_with (first | (refine wpList_load_mid rfl WRT (.tmp 20) rfl g (k * 65) (by first | rfl | simp [go_sem]) (wrtC d.Q[k]) _ HR.out Tryd.underlying125 rfl HI2.out ?_) | (refine wpList_store_row rfl WRT (.tmp 5) (.tmp 21) rfl wr.heap.size (wrtC d.Q[k]).toArray (by first | rfl | simp [go_sem]) (by first | rfl | simp [go_sem]) WRT _ (heap_alloc_new wr _) HI3.out (by show Z.size = (wrtC d.Q[k]).length; rw [wrtC_length HG.out]; exact HZs.out) (all_oneCell_toArray (wrtC_one _)) ?_))
      have HG6 := Lib.hid (HG5.out.put k (.int .i64 (d.Q[k].1 : Nat)))
      have HB6 := Lib.hid (HB5.out.setCell (p := ⟨w.heap.size, k, none⟩) (Nat.le_refl _) (.int .i64 (d.Q[k].1 : Nat)))
      clear hx0 hx1 hx2 HV HG5 HB5 HR HI2 HI3 HG
      go_roundw
      case rel =>
        refine ⟨k + 1, hlt, by simp, ⟨_, HG6.out, by rw [Array.size_setIfInBounds]; exact HGs.out, fun j hj => ?_⟩, HB6.out⟩
        rw [Array.getElem?_setIfInBounds]
        by_cases e : k = j
        · subst e
          rw [if_pos rfl, if_pos (by rw [HGs.out]; exact hlt), List.getD_eq_getElem?_getD, List.getElem?_eq_getElem hlt]; rfl
        · rw [if_neg e]; exact HGc.out j (by omega)
      case measure => simp [intOf]; omega
    · have hke : k = d.Q.length := by omega
      have HF : Hid (Blo wr w.heap.size 3 (cellsI (d.Q.map fun p => (p.1 : Int))).toArray) := by
        have e : cs = (cellsI (d.Q.map fun p => (p.1 : Int))).toArray := by
          apply Array.ext_getElem?
          intro j
          by_cases c : j < d.Q.length
          · rw [HGc.out j (by omega), List.getElem?_toArray, cellsI_get _ _ (by simpa using c)]
            simp [List.getD_eq_getElem?_getD, List.getElem?_eq_getElem c]
          · rw [Array.getElem?_eq_none (by rw [HGs.out]; omega), Array.getElem?_eq_none (by simp [cellsI]; omega)]
        rw [← e]
        exact HG0.out
      clear hke HG0 HGs HGc HD
      go_wp2
      go_ret
      exact ⟨w.heap.size, rfl, HF.out, Nat.le_refl _, HB.out⟩
end
end Go.Proofs.YtlkgaefabahkoaaDoor
/-
  A slice of slices of bytes that came in.
-/
namespace Go.Proofs.YtlkgaefabahkoaaDoor
open Go.RowKit

def nthL (L : List (List Nat)) (i : Nat) : List Nat := L.getD i []
/-- A slice of slices of bytes: its lists, where each stands, and its room. -/
structure Lists (w : World) (a : Option Addr) (n : Nat) (A : Nat → Option Addr) (C : Nat → Nat) (L : List (List Nat)) : Prop where
  len : n = L.length
  le : n ≤ 9223372036854775807
  at_ : n ≠ 0 → ∃ b o, a = some ⟨b, o, none⟩ ∧ ∀ i, i < n → w.cell? ⟨b, o + i, none⟩ = some (.slice (A i) (nthL L i).length (C i))
  each : ∀ i, i < n → Bytes w (A i) (nthL L i) ∧ (A i = none → nthL L i = [] ∧ C i = 0) ∧ (nthL L i).length ≤ C i
theorem Lists.below {w w' : World} {a : Option Addr} {n : Nat} {A : Nat → Option Addr} {C : Nat → Nat} {L : List (List Nat)} (h : Lists w a n A C L) (hb : Below w.heap.size w w') : Lists w' a n A C L :=
  ⟨h.len, h.le, fun hn => by
    obtain ⟨b, o, ha, hc⟩ := h.at_ hn
    exact ⟨b, o, ha, fun i hi => cell_later hb (hc i hi)⟩, fun i hi => ⟨(h.each i hi).1.below hb, (h.each i hi).2⟩⟩
section
open Go.ChangeShapes Go.WideShapes Go.ChangeAt
/-- A slice of slices of bytes that came in. -/
theorem lists_of_trod {H : Type} {enc : TypeId × Value → H} {P : Program} {w : World} {base : Nat} {t e u : TypeId} {fuel : Nat} {cs : List Value} {x : DataW H × List MemPlace}
    (ht : P.underlying t = some (.slice e)) (hc : P.cellsOf e = 1) (he : P.underlying e = some (.slice u)) (hcu : P.cellsOf u = 1) (hu : P.underlying u = some (.int .u8))
    (h : DataW.trod enc P w base (fun _ => true) true fuel t cs = some x) :
    ∃ (a : Option Addr) (n cap : Nat) (A : Nat → Option Addr) (C : Nat → Nat) (L : List (List Nat)), cs = [.slice a n cap] ∧ Lists w a n A C L := by
  have hm0 : (maxLen : Nat) = 9223372036854775807 := by decide
  rcases Go.Deep.open_slice1 ht hc h with ⟨rfl, _⟩ | ⟨a, len, cap, m, n, V, D, Pl, rfl, _, hl, hm, hmm, _, hx⟩
  · exact ⟨none, 0, 0, fun _ => none, fun _ => 0, [], rfl, ⟨rfl, by omega, fun h => absurd rfl h, fun i hi => absurd hi (by omega)⟩⟩
  · have hmc : len ≤ m := by rw [hmm]; split <;> omega
    have each : ∀ i, i < len → ∃ (ai : Option Addr) (ci : Nat) (li : List Nat), V i = .slice ai li.length ci ∧ Bytes w ai li ∧ (ai = none → li = [] ∧ ci = 0) ∧ li.length ≤ ci := by
      intro i hi
      obtain ⟨_, ht2⟩ := hx i (by omega)
      have hrow : ∃ ai ni ci zs, V i = .slice ai ni ci ∧ IsRow .u8 w ai ni ci zs := by
        rcases open_ints he hu hcu ht2 with ⟨hcs, _⟩ | ⟨x, l, c, zs, hcs, _, h1, h2, h3, _, hcell, hwz⟩
        · simp at hcs
          exact ⟨none, 0, 0, [], hcs, .inl ⟨rfl, rfl, rfl, rfl⟩⟩
        · simp at hcs
          exact ⟨some x, l, c, zs, hcs, .inr ⟨_, rfl, h1, h2, by simpa using h3, hcell, hwz⟩⟩
      obtain ⟨ai, ni, ci, zs, hV, hr⟩ := hrow
      obtain ⟨li, rfl, hB, ha, _, hcap⟩ := hr.bytes
      exact ⟨ai, ci, li, hV, hB, ha, hcap⟩
    obtain ⟨A, hA⟩ := Go.Deep.choose_lt (α := Option Addr) (p := fun i ai => ∃ (ci : Nat) (li : List Nat), V i = .slice ai li.length ci ∧ Bytes w ai li ∧ (ai = none → li = [] ∧ ci = 0) ∧ li.length ≤ ci) each
    obtain ⟨C, hC⟩ := Go.Deep.choose_lt (α := Nat) (p := fun i ci => ∃ (li : List Nat), V i = .slice (A i) li.length ci ∧ Bytes w (A i) li ∧ (A i = none → li = [] ∧ ci = 0) ∧ li.length ≤ ci) hA
    obtain ⟨F, hF⟩ := Go.Deep.choose_lt (α := List Nat) (p := fun i li => V i = .slice (A i) li.length (C i) ∧ Bytes w (A i) li ∧ (A i = none → li = [] ∧ C i = 0) ∧ li.length ≤ C i) hC
    have hnth : ∀ i, i < len → nthL ((List.range len).map F) i = F i := by
      intro i hi
      unfold nthL
      rw [List.getD_eq_getElem?_getD, List.getElem?_map, List.getElem?_range hi]
      rfl
    refine ⟨some a, len, cap, A, C, (List.range len).map F, rfl, ⟨by simp, by omega, fun hn => ?_, fun i hi => ?_⟩⟩
    · obtain ⟨b, off, spot⟩ := a
      have hspot : spot = none := by simpa [Addr.add] using World.cell?_spot (hx 0 (by omega)).1
      subst hspot
      refine ⟨b, off, rfl, fun i hi => ?_⟩
      have := (hx i (by omega)).1
      rw [Addr.add_lit] at this
      rw [this, hnth i hi, (hF i hi).1]
    · rw [hnth i hi]
      exact (hF i hi).2
end
end Go.Proofs.YtlkgaefabahkoaaDoor
/-
  A region that draws its order, whose operations read and whose callees make memory beside: one walk in the order of the text, over all worlds that keep what stood.
-/
namespace Go.Proofs.YtlkgaefabahkoaaDoor
open Go.RowKit

/-- A world that has all that stood in w as it stood. -/
structure Kept (w : World) where
  at_ : World
  below : Below w.heap.size w at_
instance kept_some (w : World) : Nonempty (Kept w) := ⟨⟨w, Below.refl _ _⟩⟩
theorem wp_region_kept {P : Program} {id : Nat} {Q : Exit → Act → World → Prop} {a : Act} {w : World} {l : List Oper} (hm : P.follows .mixedOrders = true) (hB : Region.lexB .any l.toArray = true)
    (h : wpQuiet P l.toArray (fun W => ∃ x : Kept w, W = x.at_) (fun a' => ∀ W, (∃ x : Kept w, W = x.at_) → Q .normal a' W) l a) : (Code.region id l.toArray true).wp P Q a w :=
  wp_region_quiet (C := fun W => ∃ x : Kept w, W = x.at_) hm hB ⟨⟨w.drew, (Below.refl _ _).drew⟩, rfl⟩ (by simpa using h)
/-- A callee's contract, met in any such world. -/
theorem kept_call {P : Program} {f : FuncId} {args : Array Value} {w : World} {v : Value} (x : Kept w) (h : Calls P f args x.at_ fun e w' => e = .returned v ∧ Below x.at_.heap.size x.at_ w') :
    Calls P f args x.at_ fun e w'' => e = .returned v ∧ ∃ y : Kept w, w'' = y.at_ :=
  h.mono fun _ w' ⟨he, hb⟩ => ⟨he, ⟨w', x.below.trans (hb.mono x.below.size)⟩, rfl⟩
theorem kept_call_same {P : Program} {f : FuncId} {args : Array Value} {w : World} {v : Value} (x : Kept w) (h : Calls P f args x.at_ fun e w' => e = .returned v ∧ x.at_ = w') :
    Calls P f args x.at_ fun e w'' => e = .returned v ∧ ∃ y : Kept w, w'' = y.at_ :=
  h.mono fun _ w' ⟨he, hb⟩ => ⟨he, x, hb.symm⟩
end Go.Proofs.YtlkgaefabahkoaaDoor
/-
  Partial segments, the writes: has, put, sure, clean.
-/
namespace Go.Proofs.YtlkgaefabahkoaaDoor
open Go.RowKit

def hasB (n : Nat) (addr k : Int) : Bool := decide (0 ≤ addr) && (decide (k ≤ (n : Int)) && decide (addr ≤ (n : Int) - k))
theorem hasB_yes {n : Nat} {addr k : Int} (h : hasB n addr k = true) : 0 ≤ addr ∧ k ≤ (n : Int) ∧ addr ≤ (n : Int) - k := by
  simpa [hasB] using h
/-- Blocks' bytes that are read, one slice behind the other; none of them the disk's. -/
structure Bks (w : World) (L : Dl) (a : Option Addr) (n : Nat) (G O : Nat → Nat) (ls : List (List Nat)) : Prop where
  len : n = ls.length
  at_ : n ≠ 0 → ∃ b o, a = some ⟨b, o, none⟩ ∧ ¬ L.has b ∧ ∀ i, i < n → ∃ cp, w.cell? ⟨b, o + i, none⟩ = some (.slice (some ⟨G i, O i, none⟩) 64 cp)
  each : ∀ i, i < n → SBO w (G i) (O i) (nthL ls i) ∧ ¬ L.has (G i)
def putsD (d : Dm) (k : Int) : List (List Nat) → Dm × Int
  | [] => (d, 0)
  | l :: r => if (writeD d k l).2 = 0 then putsD (writeD d k l).1 (k + 1) r else writeD d k l
theorem putsD_cons (d : Dm) (k : Int) (l : List Nat) (r : List (List Nat)) : putsD d k (l :: r) = if (writeD d k l).2 = 0 then putsD (writeD d k l).1 (k + 1) r else writeD d k l := rfl
theorem putsD_bad : ∀ (l : List (List Nat)) (d : Dm) (k : Int) (r : List (List Nat)), (putsD d k l).2 ≠ 0 → putsD d k (l ++ r) = putsD d k l
  | [], d, k, r, h => absurd rfl h
  | x :: l, d, k, r, h => by
    rw [putsD_cons] at h
    rw [List.cons_append, putsD_cons, putsD_cons]
    by_cases hc : (writeD d k x).2 = 0
    · rw [if_pos hc] at h
      rw [if_pos hc, if_pos hc]
      exact putsD_bad l _ _ r h
    · rw [if_neg hc, if_neg hc]
theorem putsD_snoc : ∀ (l : List (List Nat)) (d : Dm) (k : Int) (x : List Nat), (putsD d k l).2 = 0 → putsD d k (l ++ [x]) = writeD (putsD d k l).1 (k + l.length) x
  | [], d, k, x, h => by
    show putsD d k [x] = writeD d (k + 0) x
    rw [Int.add_zero]
    by_cases hc : (writeD d k x).2 = 0
    · simp only [putsD, if_pos hc]
      exact Prod.ext rfl hc.symm
    · simp only [putsD, if_neg hc]
  | y :: l, d, k, x, h => by
    rw [putsD_cons] at h
    rw [List.cons_append, putsD_cons, putsD_cons]
    by_cases hc : (writeD d k y).2 = 0
    · rw [if_pos hc] at h
      rw [if_pos hc, if_pos hc, putsD_snoc l _ _ x h]
      congr 1
      rw [List.length_cons]
      omega
    · rw [if_neg hc] at h
      exact absurd h hc
theorem putsD_n : ∀ (l : List (List Nat)) (d : Dm) (k : Int), (putsD d k l).1.n = d.n
  | [], _, _ => rfl
  | x :: l, d, k => by
    rw [putsD_cons]
    split
    · rw [putsD_n l, writeD_n]
    · rw [writeD_n]
theorem Rm.puts : ∀ (l : List (List Nat)) {d : Dm} {m : Nat} (k : Int), Rm d (l.length + m) → Rm (putsD d k l).1 m
  | [], d, m, k, h => by simpa [putsD] using h
  | x :: l, d, m, k, h => by
    rw [putsD_cons]
    have h1 : Rm (writeD d k x).1 (l.length + m) := Rm.write (h.mono (by simp; omega)) k x
    split
    · exact Rm.puts l (k + 1) h1
    · exact h1.mono (by omega)
theorem take_succ_nth (ls : List (List Nat)) (k : Nat) (h : k < ls.length) : ls.take (k + 1) = ls.take k ++ [nthL ls k] := by
  rw [List.take_succ_eq_append_getElem h, nthL, List.getD_eq_getElem?_getD, List.getElem?_eq_getElem h]; rfl
section
variable {C : Nat} {w w' : World} {L : Dl} {d : Dm}
theorem Bks.out {a : Option Addr} {n : Nat} {G O : Nat → Nat} {ls : List (List Nat)} {q : Value} (h : Bks w L a n G O ls) (ho : Out L.has w w') (hq : QvO w L q) : Bks w' { L with qv := q } a n G O ls :=
  ⟨h.len, fun hn => by
    obtain ⟨b, o, ha, hb, hc⟩ := h.at_ hn
    refine ⟨b, o, ha, hq.not ?_ hb, fun i hi => ?_⟩
    · obtain ⟨cp, hc0⟩ := hc 0 (by omega)
      exact World.block_lt_of_cell? w _ hc0
    · obtain ⟨cp, hc0⟩ := hc i hi
      exact ⟨cp, ho.cell hc0 hb⟩, fun i hi => ⟨(h.each i hi).1.out ho (h.each i hi).2, hq.not (h.each i hi).1.lt (h.each i hi).2⟩⟩
theorem Bks.later {a : Option Addr} {n : Nat} {G O : Nat → Nat} {ls : List (List Nat)} (h : Bks w L a n G O ls) (hb : Below w.heap.size w w') : Bks w' L a n G O ls :=
  h.out (Out.of_below hb) (QvO.refl w L)
set_option maxHeartbeats 1000000 in
theorem has_any (addr k : Int) (hk : 0 ≤ k) (h : Dk C w L d) : Calls Tryd.prog 59 #[.pointer (some ⟨L.bd, 0, none⟩), .int .i64 addr, .int .i64 k] w fun e w' => e = .returned (.bool (hasB d.n addr k)) ∧ w = w' := by
  have HS := Lib.hid (dsize_any h)
  have hf := h.few.2
  clear h
  generalize d.n = n at *
  unfold hasB
  by_cases h0 : 0 ≤ addr
  · by_cases h1 : k ≤ (n : Int)
    · by_cases h2 : addr ≤ (n : Int) - k
      · rw [decide_eq_true h0, decide_eq_true h1, decide_eq_true h2]
        go_enter Tryd.func59, Tryd.ntmps59
        go_wp2_with fail
        refine HS.out.mono ?_
        rintro e w1 ⟨rfl, rfl⟩
        go_wp2_with fail
        refine HS.out.mono ?_
        rintro e w1 ⟨rfl, rfl⟩
        go_wp2
        go_ret
        exact ⟨by simp [h2], rfl⟩
      · rw [decide_eq_true h0, decide_eq_true h1, decide_eq_false h2]
        go_enter Tryd.func59, Tryd.ntmps59
        go_wp2_with fail
        refine HS.out.mono ?_
        rintro e w1 ⟨rfl, rfl⟩
        go_wp2_with fail
        refine HS.out.mono ?_
        rintro e w1 ⟨rfl, rfl⟩
        go_wp2
        go_ret
        exact ⟨by simp [h2], rfl⟩
    · rw [decide_eq_true h0, decide_eq_false h1]
      go_enter Tryd.func59, Tryd.ntmps59
      go_wp2_with fail
      refine HS.out.mono ?_
      rintro e w1 ⟨rfl, rfl⟩
      go_wp2
      go_ret
      exact ⟨rfl, rfl⟩
  · rw [decide_eq_false h0]
    go_enter Tryd.func59, Tryd.ntmps59
    go_wp2
    go_ret
    exact ⟨rfl, rfl⟩
structure PutR (C : Nat) (w : World) (L : Dl) (d : Dm) (addr : Int) (ls : List (List Nat)) (a : Option Addr) (n : Nat) (G O : Nat → Nat) (k : Nat) (wr : World) : Prop where
  ok : (putsD d addr (ls.take k)).2 = 0
  rm : Rm (putsD d addr (ls.take k)).1 (n - k)
  mem : ∃ q, Dk C wr { L with qv := q } (putsD d addr (ls.take k)).1 ∧ Out L.has w wr ∧ QvO w L q ∧ Bks wr { L with qv := q } a n G O ls
set_option maxHeartbeats 2000000 in
theorem put_any (addr : Int) (h0 : 0 ≤ addr) (h1 : addr ≤ 100000) (a : Option Addr) (n cap : Nat) (G O : Nat → Nat) (ls : List (List Nat)) (hn : n ≤ 100000) (hB : Bks w L a n G O ls) (hr : Rm d n) (h : Dk C w L d) :
    Calls Tryd.prog 51 #[.pointer (some ⟨L.bd, 0, none⟩), .int .i64 addr, .slice a n cap] w (CodeO C w L (putsD d addr ls).1 (putsD d addr ls).2) := by
  have HR0 : Hid (PutR C w L d addr ls a n G O 0 w) := ⟨by simp [putsD], by simpa [putsD] using hr, L.qv, by simpa [putsD] using h, Out.refl _ _, QvO.refl _ _, hB⟩
  have HL := Lib.hid hB.len
  clear hB hr h
  go_enter Tryd.func51, Tryd.ntmps51
  go_wp2_with fail
  go_loopw [12] (fun i wr => ∃ k : Nat, k ≤ n ∧ i = .int .i64 k ∧ PutR C w L d addr ls a n G O k wr) (fun i _ => n - (intOf i).toNat)
  case atStart => exact ⟨0, Nat.zero_le _, rfl, HR0.out⟩
  case round =>
    clear HR0
    obtain ⟨k, hk, rfl, hR⟩ := hrel
    have HR := Lib.hid hR
    clear hR
    by_cases hlt : k < n
    · have hkl : k < ls.length := by rw [← HL.out]; exact hlt
      obtain ⟨q, hD, hO, hq, hBk⟩ := HR.out.mem
      obtain ⟨b, o, rfl, hnb, hc⟩ := hBk.at_ (by omega)
      obtain ⟨cp, hck⟩ := hc k hlt
      have hS := hBk.each k hlt
      have HSn : Hid (putsD d addr (ls.take (k + 1)) = writeD (putsD d addr (ls.take k)).1 (addr + k) (nthL ls k)) := by
        show _ = _
        rw [take_succ_nth ls k hkl, putsD_snoc _ _ _ _ HR.out.ok, List.length_take, Nat.min_eq_left (Nat.le_of_lt hkl)]
      have HW := Lib.hid (write_alo (addr + k) (G k) (O k) cp (nthL ls k) (HR.out.rm.mono (by omega)) hS.1 hS.2 hD)
      have HRm : Hid (Rm (writeD (putsD d addr (ls.take k)).1 (addr + k) (nthL ls k)).1 (n - (k + 1))) := Rm.write (HR.out.rm.mono (by omega)) _ _
      have HAll : Hid ((putsD d addr (ls.take (k + 1))).2 ≠ 0 → putsD d addr ls = putsD d addr (ls.take (k + 1))) := fun hbad => by
        have := putsD_bad (ls.take (k + 1)) d addr (ls.drop (k + 1)) hbad
        rwa [List.take_append_drop] at this
      have HO := Lib.hid hO
      have HQ := Lib.hid hq
      have HBk := Lib.hid hBk
      have k0 : (0 : Int) ≤ (k : Int) := by omega
      have k1 : (k : Int) < (n : Int) := by omega
      have hw1 : addr + (k : Int) ≤ 200000 := by omega
      clear hD hO hq hBk hc hS hkl
      obtain ⟨wd, hwd⟩ : ∃ wd, writeD (putsD d addr (ls.take k)).1 (addr + k) (nthL ls k) = wd := ⟨_, rfl⟩
      rw [hwd] at HSn HW HRm
      clear hwd
      obtain ⟨d2, c2⟩ := wd
      go_wp2_with fail
      refine HW.out.mono ?_
      rintro e w2 ⟨rfl, q2, hD2, hO2, hq2⟩
      have HN : Hid (PutR C w L d addr ls (some ⟨b, o, none⟩) n G O (k + 1) w2 ∨ c2 ≠ 0) := by
        by_cases hc2 : c2 = 0
        · refine .inl ⟨by rw [HSn.out]; exact hc2, by rw [HSn.out]; exact HRm.out, q2, by rw [HSn.out]; exact hD2, HO.out.next HQ.out hO2, QvO.next HO.out HQ.out hq2, ?_⟩
          exact HBk.out.out hO2 hq2
        · exact .inr hc2
      have HE : Hid (CodeO C w L (putsD d addr ls).1 (putsD d addr ls).2 (.returned (.int .i64 c2)) w2 ∨ c2 = 0) := by
        by_cases hc2 : c2 = 0
        · exact .inr hc2
        · refine .inl ?_
          rw [HAll.out (by rw [HSn.out]; exact hc2), HSn.out]
          exact ⟨rfl, q2, hD2, HO.out.next HQ.out hO2, QvO.next HO.out HQ.out hq2⟩
      clear HSn HW HRm HAll HO HQ HBk hD2 hO2 hq2 HR hck
      by_cases hc2 : c2 = 0
      · subst hc2
        have HN2 : Hid (PutR C w L d addr ls (some ⟨b, o, none⟩) n G O (k + 1) w2) := HN.out.resolve_right (fun h => h rfl)
        clear HN HE
        go_wp2_with fail
        go_roundw
        case rel => exact ⟨k + 1, hlt, by simp, HN2.out⟩
        case measure => simp [intOf]; omega
      · have hc3 : (c2 != 0) = true := by simpa using hc2
        have HE2 := Lib.hid (HE.out.resolve_right hc2)
        clear HN HE hc2
        go_wp2
        go_ret
        exact HE2.out
    · have hkn : ls.take k = ls := by rw [List.take_of_length_le]; have := HL.out; omega
      obtain ⟨q, hD, hO, hq, hBk⟩ := HR.out.mem
      have hok := HR.out.ok
      rw [hkn] at hD hok
      have HE : Hid (CodeO C w L (putsD d addr ls).1 (putsD d addr ls).2 (.returned (.int .i64 0)) wr) := by
        show CodeO _ _ _ _ _ _ _
        rw [hok]
        exact ⟨rfl, q, hD, hO, hq⟩
      clear hD hO hq hBk hok hkn HR
      go_wp2
      go_ret
      exact HE.out
def sureD (d : Dm) (k : Int) (ls : List (List Nat)) : Dm × Int := if (putsD d k ls).2 = 0 then barrD (putsD d k ls).1 else putsD d k ls
theorem sureD_n (l : List (List Nat)) (d : Dm) (k : Int) : (sureD d k l).1.n = d.n := by
  unfold sureD
  split
  · rw [barrD_n, putsD_n]
  · rw [putsD_n]
theorem Rm.sure (l : List (List Nat)) {d : Dm} {m : Nat} (k : Int) (h : Rm d (l.length + (m + 1))) : Rm (sureD d k l).1 m := by
  unfold sureD
  split
  · exact (Rm.puts l k h).bar
  · exact (Rm.puts l k h).mono (by omega)
set_option maxHeartbeats 2000000 in
theorem sure_any (addr : Int) (h0 : 0 ≤ addr) (h1 : addr ≤ 100000) (a : Option Addr) (n cap : Nat) (G O : Nat → Nat) (ls : List (List Nat)) (hn : n ≤ 100000) (hB : Bks w L a n G O ls) (hr : Rm d (n + 1)) (h : Dk C w L d) :
    Calls Tryd.prog 53 #[.pointer (some ⟨L.bd, 0, none⟩), .int .i64 addr, .slice a n cap] w (CodeO C w L (sureD d addr ls).1 (sureD d addr ls).2) := by
  have HP := Lib.hid (put_any addr h0 h1 a n cap G O ls hn hB (hr.mono (by omega)) h)
  have HR := Lib.hid (Rm.puts ls (d := d) (m := 1) addr (by rw [← hB.len]; exact hr))
  have HE : Hid (∀ e w', (putsD d addr ls).2 ≠ 0 → CodeO C w L (putsD d addr ls).1 (putsD d addr ls).2 e w' → CodeO C w L (sureD d addr ls).1 (sureD d addr ls).2 e w') := fun e w' hc hO => by unfold sureD; rw [if_neg hc]; exact hO
  have HS : Hid ((putsD d addr ls).2 = 0 → sureD d addr ls = barrD (putsD d addr ls).1) := fun hc => by unfold sureD; rw [if_pos hc]
  obtain ⟨pd, hpd⟩ : ∃ pd, putsD d addr ls = pd := ⟨_, rfl⟩
  obtain ⟨sd, hsd⟩ : ∃ sd, sureD d addr ls = sd := ⟨_, rfl⟩
  rw [hpd] at HP HR HE HS
  rw [hsd] at HE HS ⊢
  clear hB hr h hpd hsd
  obtain ⟨d2, c2⟩ := pd
  obtain ⟨d3, c3⟩ := sd
  go_enter Tryd.func53, Tryd.ntmps53
  go_wp2_with fail
  refine HP.out.mono ?_
  intro e w2 hO
  have HO := Lib.hid hO
  obtain ⟨rfl, q2, hD2, hO2, hq2⟩ := hO
  by_cases hc2 : c2 = 0
  · subst hc2
    have hs := HS.out rfl
    have HB2 := Lib.hid (barr_any HR.out.lf (by have := HR.out.st; have h1 : (d2, (0 : Int)).1.steps + ((1 : Nat) : Int) ≤ 1000000 := this; simp at h1; omega) hD2)
    have HO2 := Lib.hid hO2
    have HQ2 := Lib.hid hq2
    have HS2 : Hid (barrD d2 = (d3, c3)) := hs.symm
    clear HP HR HE HS HO hs hD2 hO2 hq2
    go_wp2_with fail
    refine HB2.out.mono ?_
    intro e w3 hO
    have hO4 := CodeO.seq HO2.out HQ2.out hO
    have hO3 : CodeO C w L d3 c3 e w3 := by
      have e1 : (barrD d2).1 = d3 := by rw [HS2.out]
      have e2 : (barrD d2).2 = c3 := by rw [HS2.out]
      have e0 : CodeO C w L (barrD d2).1 (barrD d2).2 e w3 := hO4
      rwa [e1, e2] at e0
    have he := hO3.1
    have HO3 := Lib.hid hO3
    clear hO hO3 hO4 HB2 HO2 HQ2 HS2
    subst he
    go_wp2
    go_ret
    exact HO3.out
  · have HE2 := Lib.hid (HE.out _ _ hc2 HO.out)
    have hc4 : (c2 != 0) = true := by simpa using hc2
    clear HP HR HE HS HO hD2 hO2 hq2 hc2
    go_wp2
    go_ret
    exact HE2.out
end
end Go.Proofs.YtlkgaefabahkoaaDoor
/-
  A slice of files (a summary's) that is read; a summary's Size and Blocks.
-/
namespace Go.Proofs.YtlkgaefabahkoaaDoor
open Go.RowKit

abbrev FN := 108
abbrev IT := 3
theorem sup_pc (w : World) (o : Obj) : Below w.heap.size w (w.alloc o) := (Below.refl _ _).alloc (Nat.le_refl _) o
theorem info_fn : (Tryd.prog.info? FN).map (fun i => (i.zero, i.size, i.bytes)) = some (some (.agg #[.int .i64 0, .int .i64 0, .slice none 0 0]), 3, 40) := by kernel_rfl
theorem info_it : (Tryd.prog.info? IT).map (fun i => (i.zero, i.size, i.bytes)) = some (some (.int .i64 0), 1, 8) := by kernel_rfl
structure Fi where
  ino : Int
  ver : Int
  lb : List Int
def fi0 : Fi := ⟨0, 0, []⟩
/-- What a slice of files that is read holds. -/
def Fis (w : World) (a : Option Addr) (l : List Fi) : Prop := l ≠ [] → ∃ b o, a = some ⟨b, o, none⟩ ∧ ∀ i, i < l.length →
  w.cell? ⟨b, o + i * 3, none⟩ = some (.int .i64 (l.getD i fi0).ino) ∧ w.cell? ⟨b, o + i * 3 + 1, none⟩ = some (.int .i64 (l.getD i fi0).ver) ∧ ∃ c cp, w.cell? ⟨b, o + i * 3 + 2, none⟩ = some (.slice c (l.getD i fi0).lb.length cp) ∧ Ints w c (l.getD i fi0).lb
section
variable {w w' : World} {a : Option Addr} {l : List Fi}
theorem Fis.nil (w : World) (a : Option Addr) : Fis w a [] := fun h => absurd rfl h
theorem Fis.later (h : Fis w a l) (hb : Below w.heap.size w w') : Fis w' a l := fun hl => by
  obtain ⟨b, o, ha, hc⟩ := h hl
  refine ⟨b, o, ha, fun i hi => ?_⟩
  obtain ⟨h1, h2, c, cp, h3, h4⟩ := hc i hi
  exact ⟨cell_later hb h1, cell_later hb h2, c, cp, cell_later hb h3, h4.below hb⟩
theorem Fis.at (h : Fis w a l) {i : Nat} (hi : i < l.length) : ∃ b o c cp, a = some ⟨b, o, none⟩ ∧
    w.cell? ⟨b, o + i * 3, none⟩ = some (.int .i64 (l.getD i fi0).ino) ∧ w.cell? ⟨b, o + i * 3 + 1, none⟩ = some (.int .i64 (l.getD i fi0).ver) ∧ w.cell? ⟨b, o + i * 3 + 2, none⟩ = some (.slice c (l.getD i fi0).lb.length cp) ∧ Ints w c (l.getD i fi0).lb := by
  obtain ⟨b, o, ha, hc⟩ := h (fun e => by rw [e] at hi; cases hi)
  obtain ⟨h1, h2, c, cp, h3, h4⟩ := hc i hi
  exact ⟨b, o, c, cp, ha, h1, h2, h3, h4⟩
end
theorem take_snocF {α : Type} (l : List α) (d : α) (k : Nat) (h : k < l.length) : l.take (k + 1) = l.take k ++ [l.getD k d] := by
  rw [List.take_add_one, List.getElem?_eq_getElem h, List.getD_eq_getElem?_getD, List.getElem?_eq_getElem h]
  rfl
def szF (l : List Fi) : Nat := (l.map fun f => 4 + 2 * f.lb.length).sum
def blF (l : List Fi) : Nat := (l.map fun f => f.lb.length).sum
theorem szF_snoc (l : List Fi) (f : Fi) : szF (l ++ [f]) = szF l + (4 + 2 * f.lb.length) := by simp [szF]
theorem blF_snoc (l : List Fi) (f : Fi) : blF (l ++ [f]) = blF l + f.lb.length := by simp [blF]
theorem sum_take_le {α : Type} (g : α → Nat) (l : List α) (k : Nat) : ((l.take k).map g).sum ≤ (l.map g).sum := by
  conv => rhs; rw [← List.take_append_drop k l, List.map_append, List.sum_append]
  omega
theorem szF_take (l : List Fi) (k : Nat) : szF (l.take k) ≤ szF l := sum_take_le _ _ _
theorem blF_take (l : List Fi) (k : Nat) : blF (l.take k) ≤ blF l := sum_take_le _ _ _
theorem blF_szF (l : List Fi) : blF l ≤ szF l := by
  induction l with
  | nil => exact Nat.le_refl _
  | cons a l ih => simp only [blF, szF, List.map_cons, List.sum_cons] at ih ⊢; omega
theorem len_szF (l : List Fi) : 4 * l.length ≤ szF l := by
  induction l with
  | nil => exact Nat.le_refl _
  | cons a l ih => simp only [szF, List.map_cons, List.sum_cons, List.length_cons] at ih ⊢; omega
/-- A summary as a value. -/
abbrev part (e c i p x : Int) (fa : Option Addr) (fn fc : Nat) (ia : Option Addr) (inn ic : Nat) : Value := .agg #[.int .i64 e, .int .i64 c, .int .i64 i, .int .i64 p, .int .i64 x, .slice fa fn fc, .slice ia inn ic]
structure SzR (w : World) (a : Option Addr) (l : List Fi) (wr : World) : Prop where
  list : Fis wr a l
  below : Below w.heap.size w wr
theorem SzR.later {w w' wr : World} {a : Option Addr} {l : List Fi} (h : SzR w a l wr) (hb : Below wr.heap.size wr w') : SzR w a l w' := ⟨h.list.later hb, h.below.trans (hb.mono h.below.size)⟩
section
variable {w : World} {l : List Fi} (e c i p x : Int) (fa : Option Addr) (fn fc : Nat) (ia : Option Addr) (inn ic : Nat)
set_option maxHeartbeats 2000000 in
theorem size_any (hF : Fis w fa l) (hn : fn = l.length) (hs : szF l ≤ 1000000000) (hi : inn ≤ 1000000000) :
    Calls Tryd.prog 79 #[part e c i p x fa fn fc ia inn ic] w fun en w' => en = .returned (.int .i64 ((10 + inn + szF l : Nat) : Int)) ∧ Below w.heap.size w w' := by
  have HR := Lib.hid (show SzR w fa l (w.alloc (.cells #[.int .i64 e, .int .i64 c, .int .i64 i, .int .i64 p, .int .i64 x, .slice fa fn fc, .slice ia inn ic] 36)) from ⟨hF.later (sup_pc _ _), sup_pc _ _⟩)
  have hfn : fn ≤ 1000000000 := by have := len_szF l; omega
  have HN := Lib.hid hn
  have HS := Lib.hid hs
  clear hF hn hs
  go_enter Tryd.func79, Tryd.ntmps79
  go_wp2_with fail
  go_loopw [3, 5, 14] (fun m _ t wr => ∃ k : Nat, k ≤ fn ∧ t = .int .i64 k ∧ m = .int .i64 ((10 + inn + szF (l.take k) : Nat) : Int) ∧ SzR w fa l wr) (fun _ _ t _ => fn - (intOf t).toNat)
  case atStart => exact ⟨0, Nat.zero_le _, rfl, by simp [szF], HR.out⟩
  case round =>
    clear HR
    obtain ⟨k, hk, rfl, rfl, hR⟩ := hrel
    have HR := Lib.hid hR
    clear hR
    by_cases hlt : k < fn
    · have hkl : k < l.length := by rw [← HN.out]; exact hlt
      obtain ⟨b, o, cc, cp, rfl, q1, q2, q3, -⟩ := HR.out.list.at hkl
      have hsn := take_snocF l fi0 k hkl
      have hle := szF_take l (k + 1)
      have HSn : Hid (szF (l.take (k + 1)) = szF (l.take k) + (4 + 2 * (l.getD k fi0).lb.length)) := by show _ = _; rw [hsn, szF_snoc]
      have hle2 := HS.out
      rw [HSn.out] at hle
      have HR1 := Lib.hid (HR.out.later (sup_pc wr (.cells #[.int .i64 (l.getD k fi0).ino, .int .i64 (l.getD k fi0).ver, .slice cc (l.getD k fi0).lb.length cp] FN)))
      generalize (l.getD k fi0).lb.length = m at *
      generalize (l.getD k fi0).ino = y1 at *
      generalize (l.getD k fi0).ver = y2 at *
      obtain ⟨M, hM⟩ : ∃ M, szF (l.take k) = M := ⟨_, rfl⟩
      rw [hM] at hle HSn
      simp only [hM]
      have j1 : (k : Int) < (fn : Int) := by omega
      have j2 : M + (4 + 2 * m) ≤ 1000000000 := by omega
      clear HR hkl hsn hle hle2 hM
      go_wp2_with fail
      go_roundw
      case rel => exact ⟨k + 1, by omega, by simp, by rw [HSn.out]; congr 1; omega, HR1.out⟩
      case measure => simp [intOf]; omega
    · have hkn : l.take k = l := by rw [List.take_of_length_le]; have := HN.out; omega
      have HB := Lib.hid HR.out.below
      simp only [hkn]
      clear HR hkn
      go_wp2
      go_ret
      exact ⟨rfl, HB.out⟩
set_option maxHeartbeats 2000000 in
theorem sblocks_any (hF : Fis w fa l) (hn : fn = l.length) (hs : szF l ≤ 1000000000) (hi : inn ≤ 1000000000) :
    Calls Tryd.prog 25 #[part e c i p x fa fn fc ia inn ic] w fun en w' => en = .returned (.int .i64 ((2 + inn + blF l : Nat) : Int)) ∧ Below w.heap.size w w' := by
  have HR := Lib.hid (show SzR w fa l (w.alloc (.cells #[.int .i64 e, .int .i64 c, .int .i64 i, .int .i64 p, .int .i64 x, .slice fa fn fc, .slice ia inn ic] 36)) from ⟨hF.later (sup_pc _ _), sup_pc _ _⟩)
  have hfn : fn ≤ 1000000000 := by have := len_szF l; omega
  have HN := Lib.hid hn
  have HS : Hid (blF l ≤ 1000000000) := by have := blF_szF l; show _ ≤ _; omega
  clear hF hn hs
  go_enter Tryd.func25, Tryd.ntmps25
  go_wp2_with fail
  go_loopw [3, 5, 13] (fun m _ t wr => ∃ k : Nat, k ≤ fn ∧ t = .int .i64 k ∧ m = .int .i64 ((2 + inn + blF (l.take k) : Nat) : Int) ∧ SzR w fa l wr) (fun _ _ t _ => fn - (intOf t).toNat)
  case atStart => exact ⟨0, Nat.zero_le _, rfl, by simp [blF], HR.out⟩
  case round =>
    clear HR
    obtain ⟨k, hk, rfl, rfl, hR⟩ := hrel
    have HR := Lib.hid hR
    clear hR
    by_cases hlt : k < fn
    · have hkl : k < l.length := by rw [← HN.out]; exact hlt
      obtain ⟨b, o, cc, cp, rfl, q1, q2, q3, -⟩ := HR.out.list.at hkl
      have hsn := take_snocF l fi0 k hkl
      have hle := blF_take l (k + 1)
      have HSn : Hid (blF (l.take (k + 1)) = blF (l.take k) + (l.getD k fi0).lb.length) := by show _ = _; rw [hsn, blF_snoc]
      have hle2 := HS.out
      rw [HSn.out] at hle
      have HR1 := Lib.hid (HR.out.later (sup_pc wr (.cells #[.int .i64 (l.getD k fi0).ino, .int .i64 (l.getD k fi0).ver, .slice cc (l.getD k fi0).lb.length cp] FN)))
      generalize (l.getD k fi0).lb.length = m at *
      generalize (l.getD k fi0).ino = y1 at *
      generalize (l.getD k fi0).ver = y2 at *
      obtain ⟨M, hM⟩ : ∃ M, blF (l.take k) = M := ⟨_, rfl⟩
      rw [hM] at hle HSn
      simp only [hM]
      have j1 : (k : Int) < (fn : Int) := by omega
      have j2 : M + m ≤ 1000000000 := by omega
      clear HR hkl hsn hle hle2 hM
      go_wp2_with fail
      go_roundw
      case rel => exact ⟨k + 1, by omega, by simp, by rw [HSn.out]; congr 1; omega, HR1.out⟩
      case measure => simp [intOf]; omega
    · have hkn : l.take k = l := by rw [List.take_of_length_le]; have := HN.out; omega
      have HB := Lib.hid HR.out.below
      simp only [hkn]
      clear HR hkn
      go_wp2
      go_ret
      exact ⟨rfl, HB.out⟩
end
end Go.Proofs.YtlkgaefabahkoaaDoor
/-
  The walks of a file's blocks: which pointer leads to them, how wide they are, which number is whose; Level.
-/
namespace Go.Proofs.YtlkgaefabahkoaaDoor
open Go.RowKit

theorem flip_sameI {P : Program} {f : FuncId} {args : Array Value} {w : World} {v : Value} (h : Calls P f args w fun e w' => e = .returned v ∧ w = w') : Calls P f args w fun e w' => e = .returned v ∧ w' = w :=
  h.mono fun _ _ ⟨h1, h2⟩ => ⟨h1, h2.symm⟩
theorem below_drewN {B : Nat} {a w : World} (h : Below B a w) (n : Nat) : Below B a (w.drewN n) := ⟨h.os, h.tape, h.output, h.size, h.block⟩
theorem sup_below (w : World) (o : Obj) : Below w.heap.size w (w.alloc o) := (Below.refl _ _).alloc (Nat.le_refl _) o
/-- The inode's pointer above a data block, the level of what it leads to, and the first data that this covers. -/
def rPtr (d : Int) : Int := if d < 6 then d else if d < 22 then 6 else if d < 278 then 7 else 8
def rLev (d : Int) : Int := if d < 6 then 0 else if d < 22 then 1 else if d < 278 then 2 else 3
def rFst (d : Int) : Int := if d < 6 then d else if d < 22 then 6 else if d < 278 then 22 else 278
theorem rLev_bd (d : Int) : 0 ≤ rLev d ∧ rLev d ≤ 3 := by unfold rLev; split <;> (try split) <;> (try split) <;> omega
theorem rFst_bd (d : Int) (h : 0 ≤ d) : 0 ≤ rFst d ∧ rFst d ≤ d := by unfold rFst; split <;> (try split) <;> (try split) <;> omega
theorem rPtr_bd (d : Int) (h : 0 ≤ d) : 0 ≤ rPtr d ∧ rPtr d ≤ 8 := by unfold rPtr; split <;> (try split) <;> (try split) <;> omega
set_option maxHeartbeats 400000 in
theorem root_any (d : Int) (w : World) :
    Calls Tryd.prog 106 #[.int .i64 d] w fun e w' => e = .returned (.tuple #[.int .i64 (rPtr d), .int .i64 (rLev d), .int .i64 (rFst d)]) ∧ w = w' := by
  by_cases h1 : d < 6
  · have e : rPtr d = d ∧ rLev d = 0 ∧ rFst d = d := by simp [rPtr, rLev, rFst, h1]
    rw [e.1, e.2.1, e.2.2]
    clear e
    go_enter Tryd.func106, Tryd.ntmps106
    go_wp2
    go_ret3
    exact ⟨rfl, rfl⟩
  · by_cases h2 : d < 22
    · have e : rPtr d = 6 ∧ rLev d = 1 ∧ rFst d = 6 := by simp [rPtr, rLev, rFst, h1, h2]
      rw [e.1, e.2.1, e.2.2]
      clear e
      go_enter Tryd.func106, Tryd.ntmps106
      go_wp2
      go_ret3
      exact ⟨rfl, rfl⟩
    · by_cases h3 : d < 278
      · have e : rPtr d = 7 ∧ rLev d = 2 ∧ rFst d = 22 := by simp [rPtr, rLev, rFst, h1, h2, h3]
        rw [e.1, e.2.1, e.2.2]
        clear e
        go_enter Tryd.func106, Tryd.ntmps106
        go_wp2
        go_ret3
        exact ⟨rfl, rfl⟩
      · have e : rPtr d = 8 ∧ rLev d = 3 ∧ rFst d = 278 := by simp [rPtr, rLev, rFst, h1, h2, h3]
        rw [e.1, e.2.1, e.2.2]
        clear e
        go_enter Tryd.func106, Tryd.ntmps106
        go_wp2
        go_ret3
        exact ⟨rfl, rfl⟩
/-- How much data a whole block of a level covers. -/
def spanM (lv : Int) : Int := if lv ≤ 0 then 1 else if lv ≤ 1 then 16 else if lv ≤ 2 then 256 else 4096
theorem spanM_bd (lv : Int) : 1 ≤ spanM lv ∧ spanM lv ≤ 4096 := by unfold spanM; split <;> (try split) <;> (try split) <;> omega
set_option maxHeartbeats 400000 in
theorem span_any (lv : Int) (w : World) (h0 : 0 ≤ lv) (h3 : lv ≤ 3) :
    Calls Tryd.prog 107 #[.int .i64 lv] w fun e w' => e = .returned (.int .i64 (spanM lv)) ∧ w = w' := by
  have h : lv = 0 ∨ lv = 1 ∨ lv = 2 ∨ lv = 3 := by omega
  clear h0 h3
  rcases h with rfl | rfl | rfl | rfl
  · go_enter Tryd.func107, Tryd.ntmps107
    go_wp2
    refine wp_loop_rounds 1 ?_
    rw [rounds_succ]
    go_wp2
    go_ret
    exact ⟨rfl, rfl⟩
  · go_enter Tryd.func107, Tryd.ntmps107
    go_wp2
    refine wp_loop_rounds 2 ?_
    rw [rounds_succ]
    go_wp2
    rw [rounds_succ]
    go_wp2
    go_ret
    exact ⟨rfl, rfl⟩
  · go_enter Tryd.func107, Tryd.ntmps107
    go_wp2
    refine wp_loop_rounds 3 ?_
    rw [rounds_succ]
    go_wp2
    rw [rounds_succ]
    go_wp2
    rw [rounds_succ]
    go_wp2
    go_ret
    exact ⟨rfl, rfl⟩
  · go_enter Tryd.func107, Tryd.ntmps107
    go_wp2
    refine wp_loop_rounds 4 ?_
    rw [rounds_succ]
    go_wp2
    rw [rounds_succ]
    go_wp2
    rw [rounds_succ]
    go_wp2
    rw [rounds_succ]
    go_wp2
    go_ret
    exact ⟨rfl, rfl⟩
/-- A block's number. -/
def startsB (f lv : Int) : Bool := decide (0 ≤ f ∧ f < 600 ∧ lv ≤ rLev f ∧ (f - rFst f) % spanM lv = 0)
set_option maxHeartbeats 400000 in
theorem starts_out (f lv : Int) (w : World) (h : f < 0 ∨ 600 ≤ f) :
    Calls Tryd.prog 105 #[.agg #[.int .i64 f, .int .i64 lv]] w fun e w' => e = .returned (.bool false) ∧ Below w.heap.size w w' := by
  have HB := Lib.hid (sup_below w)
  by_cases h0 : f < 0
  · clear h
    go_enter Tryd.func105, Tryd.ntmps105
    go_wp2
    go_ret
    exact ⟨rfl, HB.out _⟩
  · have h6 : 600 ≤ f := by omega
    clear h
    go_enter Tryd.func105, Tryd.ntmps105
    go_wp2
    go_ret
    exact ⟨rfl, HB.out _⟩
set_option maxHeartbeats 400000 in
theorem starts_deep (f lv : Int) (w : World) (h0 : 0 ≤ f) (h6 : f < 600) (h : ¬ lv ≤ rLev f) :
    Calls Tryd.prog 105 #[.agg #[.int .i64 f, .int .i64 lv]] w fun e w' => e = .returned (.bool false) ∧ Below w.heap.size w w' := by
  have HB := Lib.hid (sup_below w)
  have hr := rLev_bd f
  have hf := rFst_bd f h0
  go_enter Tryd.func105, Tryd.ntmps105
  go_wp2_with fail
  refine (root_any f _).mono ?_
  rintro e w1 ⟨rfl, rfl⟩
  generalize rLev f = L at *
  generalize rFst f = F at *
  generalize rPtr f = R at *
  have hd : decide (lv ≤ L) = false := by simpa using h
  go_wp2_with fail
  go_quiet (fail)
  go_wp2
  go_ret
  exact ⟨rfl, below_drewN (HB.out _) _⟩
set_option maxHeartbeats 400000 in
theorem starts_in (f lv : Int) (w : World) (h0 : 0 ≤ f) (h6 : f < 600) (h1 : 1 ≤ lv) (h : lv ≤ rLev f) :
    Calls Tryd.prog 105 #[.agg #[.int .i64 f, .int .i64 lv]] w fun e w' => e = .returned (.bool ((f - rFst f) % spanM lv == 0)) ∧ Below w.heap.size w w' := by
  have HB := Lib.hid (sup_below w)
  have hr := rLev_bd f
  have hf := rFst_bd f h0
  have hs := spanM_bd lv
  have h3 : lv ≤ 3 := by omega
  have HS : Hid (∀ W, Calls Tryd.prog 107 #[.int .i64 lv] W fun e w' => e = .returned (.int .i64 (spanM lv)) ∧ W = w') := fun W => span_any lv W (by omega) h3
  have HR : Hid (∀ W, Calls Tryd.prog 106 #[.int .i64 f] W fun e w' => e = .returned (.tuple #[.int .i64 (rPtr f), .int .i64 (rLev f), .int .i64 (rFst f)]) ∧ W = w') := fun W => root_any f W
  generalize rLev f = L at *
  generalize rFst f = F at *
  generalize rPtr f = R at *
  generalize spanM lv = S at *
  go_enter Tryd.func105, Tryd.ntmps105
  go_wp2_with fail
  refine (HR.out _).mono ?_
  rintro e w1 ⟨rfl, rfl⟩
  clear HR
  have hd : decide (lv ≤ L) = true := by simpa using h
  have hz : (S == 0) = false := by simpa using (by omega : ¬ S = 0)
  go_wp2_with fail
  go_quiet ((go_at_call 107; exact Calls.quiet_of_same (flip_sameI (HS.out _))))
  go_wp2
  go_ret
  exact ⟨rfl, below_drewN (HB.out _) _⟩
theorem starts_any (f lv : Int) (w : World) (h1 : 1 ≤ lv) :
    Calls Tryd.prog 105 #[.agg #[.int .i64 f, .int .i64 lv]] w fun e w' => e = .returned (.bool (startsB f lv)) ∧ Below w.heap.size w w' := by
  by_cases h0 : 0 ≤ f
  · by_cases h6 : f < 600
    · by_cases h : lv ≤ rLev f
      · have e : startsB f lv = ((f - rFst f) % spanM lv == 0) := by simp [startsB, h0, h6, h]; rfl
        rw [e]
        exact starts_in f lv w h0 h6 h1 h
      · have e : startsB f lv = false := by simp [startsB, h]
        rw [e]
        exact starts_deep f lv w h0 h6 h
    · have e : startsB f lv = false := by simp [startsB, h6]
      rw [e]
      exact starts_out f lv w (by omega)
  · have e : startsB f lv = false := by simp [startsB, h0]
    rw [e]
    exact starts_out f lv w (by omega)
/-- Is a number a block's; its level; the first data that it covers. -/
def isB (n : Int) : Bool := if 0 ≤ n then decide (n < 600) else startsB (-n) 1 || startsB (-n - 1) 2 || startsB (-n - 2) 3
def lvOf (n : Int) : Int := if 0 ≤ n then 0 else if startsB (-n) 1 then 1 else if startsB (-n - 1) 2 then 2 else 3
def fOf (n : Int) : Int := if 0 ≤ n then n else if startsB (-n) 1 then -n else if startsB (-n - 1) 2 then -n - 1 else -n - 2
def FoundNo (w : World) (e : Ending) (w' : World) : Prop := ∃ f l : Int, e = .returned (.tuple #[.agg #[.int .i64 f, .int .i64 l], .bool false]) ∧ Below w.heap.size w w'
set_option maxHeartbeats 400000 in
theorem find_data (n : Int) (w : World) (h : 0 ≤ n) :
    Calls Tryd.prog 103 #[.int .i64 n] w fun e w' => e = .returned (.tuple #[.agg #[.int .i64 n, .int .i64 0], .bool (decide (n < 600))]) ∧ Below w.heap.size w w' := by
  have HB := Lib.hid (sup_below w)
  go_enter Tryd.func103, Tryd.ntmps103
  go_wp2
  refine bodyPost_ret (v := .tuple #[.agg #[.int .i64 n, .int .i64 0], .bool (decide (n < 600))]) (by simp [results, Tryd.results103, go_sem]) rfl ⟨rfl, HB.out _⟩
/-- A block of two cells that may be written. -/
structure Two (w : World) (g : Nat) (x y : Value) : Prop where
  c0 : w.cell? ⟨g, 0, none⟩ = some x
  c1 : w.cell? ⟨g, 1, none⟩ = some y
  f0 : w.frozen? ⟨g, 0, none⟩ = false
  f1 : w.frozen? ⟨g, 1, none⟩ = false
theorem Two.below {w w' : World} {g B : Nat} {x y : Value} (h : Two w g x y) (hb : Below B w w') (hg : g < B) : Two w' g x y :=
  ⟨(hb.cell (p := ⟨g, 0, none⟩) hg).trans h.c0, (hb.cell (p := ⟨g, 1, none⟩) hg).trans h.c1, (hb.frozen (p := ⟨g, 0, none⟩) hg).trans h.f0, (hb.frozen (p := ⟨g, 1, none⟩) hg).trans h.f1⟩
theorem two_laid (w : World) (x y : Value) (t : TypeId) : Two (w.alloc (.cells #[x, y] t)) w.heap.size x y := ⟨by simp, by simp, by simp, by simp⟩
theorem wrap_min : wrap64 (wrap64 9223372036854775808) = -9223372036854775808 := by simp [wrap64]
theorem wrap_min1 : wrap64 (wrap64 9223372036854775808 - 1) = 9223372036854775807 := by simp [wrap64]
theorem wrap_min2 : wrap64 (wrap64 9223372036854775808 - 2) = 9223372036854775806 := by simp [wrap64]
set_option maxHeartbeats 800000 in
theorem find_min (w : World) : Calls Tryd.prog 103 #[.int .i64 (-9223372036854775808)] w (FoundNo w) := by
  have HB := Lib.hid (sup_below w)
  go_enter Tryd.func103, Tryd.ntmps103
  go_wp2
  refine wp_loop_rounds 4 ?_
  rw [rounds_succ]
  go_wp2_with fail
  have T0 : Hid (Two ((w.alloc (.cells #[.int .i64 0, .int .i64 0] 174)).alloc (.cells #[.int .i64 (wrap64 (wrap64 9223372036854775808)), .int .i64 1] 174)) w.heap.size (.int .i64 0) (.int .i64 0)) := (two_laid w _ _ _).below (sup_below _ _) (by simp)
  refine (starts_out _ 1 _ (.inl (by rw [wrap_min]; decide))).mono ?_
  rintro e w1 ⟨rfl, hb1⟩
  have HB1 : Hid (Below w.heap.size w w1) := ((HB.out _).alloc (by simp) _).trans (hb1.mono (by simp; omega))
  have hz1 : w.heap.size < w1.heap.size := by have := hb1.size; simp at this; omega
  have U0 := Lib.hid (T0.out.below hb1 (by simp; omega))
  clear hb1 T0
  go_wp2_with fail
  rw [rounds_succ]
  go_wp2_with fail
  refine (starts_out _ 2 _ (.inr (by rw [wrap_min1]; decide))).mono ?_
  rintro e w2 ⟨rfl, hb2⟩
  have HB2 : Hid (Below w.heap.size w w2) := ((HB1.out).alloc HB1.out.size _).trans (hb2.mono (by have := HB1.out.size; simp; omega))
  have hz2 : w.heap.size < w2.heap.size := by have := hb2.size; simp at this; omega
  have V0 := Lib.hid ((U0.out.below (sup_below w1 _) hz1).below hb2 (by simp; omega))
  clear hb2 U0
  go_wp2_with fail
  rw [rounds_succ]
  go_wp2_with fail
  refine (starts_out _ 3 _ (.inr (by rw [wrap_min2]; decide))).mono ?_
  rintro e w3 ⟨rfl, hb3⟩
  have HB3 : Hid (Below w.heap.size w w3) := ((HB2.out).alloc HB2.out.size _).trans (hb3.mono (by have := HB2.out.size; simp; omega))
  obtain ⟨c0, c1, c2, c3⟩ := (V0.out.below (sup_below w2 _) hz2).below hb3 (by simp; omega)
  clear hb3 V0
  go_wp2_with fail
  rw [rounds_succ]
  go_wp2_with fail
  refine bodyPost_ret (v := .tuple #[.agg #[.int .i64 0, .int .i64 0], .bool false]) (by simp [results, Tryd.results103, go_sem, c0, c1]) rfl ⟨0, 0, rfl, ?_⟩
  exact (HB3.out.setCell (p := ⟨w.heap.size, 0, none⟩) (Nat.le_refl _) _).setCell (p := ⟨w.heap.size, 1, none⟩) (Nat.le_refl _) _
set_option maxHeartbeats 800000 in
theorem find_meta (n : Int) (w : World) (h : n < 0) (h1 : -9223372036854775808 < n) :
    Calls Tryd.prog 103 #[.int .i64 n] w fun e w' => (isB n = true → e = .returned (.tuple #[.agg #[.int .i64 (fOf n), .int .i64 (lvOf n)], .bool true]) ∧ Below w.heap.size w w') ∧ (isB n = false → FoundNo w e w') := by
  have HB := Lib.hid (sup_below w)
  have H1 : Hid (∀ W, Calls Tryd.prog 105 #[.agg #[.int .i64 (-n), .int .i64 1]] W fun e w' => e = .returned (.bool (startsB (-n) 1)) ∧ Below W.heap.size W w') := fun W => starts_any (-n) 1 W (by omega)
  have H2 : Hid (∀ W, Calls Tryd.prog 105 #[.agg #[.int .i64 (-n - 1), .int .i64 2]] W fun e w' => e = .returned (.bool (startsB (-n - 1) 2)) ∧ Below W.heap.size W w') := fun W => starts_any (-n - 1) 2 W (by omega)
  have H3 : Hid (∀ W, Calls Tryd.prog 105 #[.agg #[.int .i64 (-n - 2), .int .i64 3]] W fun e w' => e = .returned (.bool (startsB (-n - 2) 3)) ∧ Below W.heap.size W w') := fun W => starts_any (-n - 2) 3 W (by omega)
  have HF : Hid (isB n = (startsB (-n) 1 || startsB (-n - 1) 2 || startsB (-n - 2) 3)) := by show _ = _; simp [isB, show ¬ 0 ≤ n by omega]
  have HG : Hid (fOf n = if startsB (-n) 1 then -n else if startsB (-n - 1) 2 then -n - 1 else -n - 2) := by show _ = _; simp [fOf, show ¬ 0 ≤ n by omega]
  have HL : Hid (lvOf n = if startsB (-n) 1 then 1 else if startsB (-n - 1) 2 then 2 else 3) := by show _ = _; simp [lvOf, show ¬ 0 ≤ n by omega]
  generalize startsB (-n) 1 = s1 at *
  generalize startsB (-n - 1) 2 = s2 at *
  generalize startsB (-n - 2) 3 = s3 at *
  go_enter Tryd.func103, Tryd.ntmps103
  go_wp2
  refine wp_loop_rounds 4 ?_
  rw [rounds_succ]
  go_wp2_with fail
  have T0 : Hid (Two ((w.alloc (.cells #[.int .i64 0, .int .i64 0] 174)).alloc (.cells #[.int .i64 (-n), .int .i64 1] 174)) w.heap.size (.int .i64 0) (.int .i64 0)) := (two_laid w _ _ _).below (sup_below _ _) (by simp)
  have T1 : Hid (Two ((w.alloc (.cells #[.int .i64 0, .int .i64 0] 174)).alloc (.cells #[.int .i64 (-n), .int .i64 1] 174)) (w.heap.size + 1) (.int .i64 (-n)) (.int .i64 1)) := by
    have := two_laid (w.alloc (.cells #[.int .i64 0, .int .i64 0] 174)) (.int .i64 (-n)) (.int .i64 1) 174
    simp at this
    exact this
  refine (H1.out _).mono ?_
  rintro e w1 ⟨rfl, hb1⟩
  have HB1 : Hid (Below w.heap.size w w1) := ((HB.out _).alloc (by simp) _).trans (hb1.mono (by simp; omega))
  have U0 := Lib.hid (T0.out.below hb1 (by simp; omega))
  have U1 := Lib.hid (T1.out.below hb1 (by simp))
  have hz1 : w.heap.size < w1.heap.size := by have := hb1.size; simp at this; omega
  clear hb1 T0 T1
  cases s1
  · clear U1
    go_wp2_with fail
    rw [rounds_succ]
    go_wp2_with fail
    refine (H2.out _).mono ?_
    rintro e w2 ⟨rfl, hb2⟩
    have HB2 : Hid (Below w.heap.size w w2) := ((HB1.out).alloc HB1.out.size _).trans (hb2.mono (by have := HB1.out.size; simp; omega))
    have V1 := Lib.hid ((two_laid w1 (.int .i64 (-n - 1)) (.int .i64 2) 174).below hb2 (by simp))
    have V0 := Lib.hid ((U0.out.below (sup_below w1 (.cells #[.int .i64 (-n - 1), .int .i64 2] 174)) hz1).below hb2 (by simp; omega))
    have hz2 : w.heap.size < w2.heap.size := by have := hb2.size; simp at this; omega
    clear hb2 U0
    cases s2
    · clear V1
      go_wp2_with fail
      rw [rounds_succ]
      go_wp2_with fail
      refine (H3.out _).mono ?_
      rintro e w3 ⟨rfl, hb3⟩
      have HB3 : Hid (Below w.heap.size w w3) := ((HB2.out).alloc HB2.out.size _).trans (hb3.mono (by have := HB2.out.size; simp; omega))
      have W1 := Lib.hid ((two_laid w2 (.int .i64 (-n - 2)) (.int .i64 3) 174).below hb3 (by simp))
      have W0 := Lib.hid ((V0.out.below (sup_below w2 (.cells #[.int .i64 (-n - 2), .int .i64 3] 174)) hz2).below hb3 (by simp; omega))
      clear hb3 V0
      obtain ⟨c0, c1, c2, c3⟩ := W0.out
      cases s3
      · go_wp2_with fail
        rw [rounds_succ]
        go_wp2_with fail
        refine bodyPost_ret (v := .tuple #[.agg #[.int .i64 0, .int .i64 0], .bool false]) (by simp [results, Tryd.results103, go_sem, c0, c1]) rfl ⟨fun e => ?_, fun _ => ⟨0, 0, rfl, ?_⟩⟩
        · rw [HF.out] at e; cases e
        · exact (HB3.out.setCell (p := ⟨w.heap.size, 0, none⟩) (Nat.le_refl _) _).setCell (p := ⟨w.heap.size, 1, none⟩) (Nat.le_refl _) _
      · obtain ⟨d0, d1, d2, d3⟩ := W1.out
        go_wp2_with fail
        refine bodyPost_ret (v := .tuple #[.agg #[.int .i64 (-n - 2), .int .i64 3], .bool true]) (by simp [results, Tryd.results103, go_sem, c0, c1, d0, d1]) rfl ⟨fun _ => ⟨?_, ?_⟩, fun e => ?_⟩
        · rw [HG.out, HL.out]; rfl
        · exact (HB3.out.setCell (p := ⟨w.heap.size, 0, none⟩) (Nat.le_refl _) _).setCell (p := ⟨w.heap.size, 1, none⟩) (Nat.le_refl _) _
        · rw [HF.out] at e; cases e
    · obtain ⟨c0, c1, c2, c3⟩ := V0.out
      obtain ⟨d0, d1, d2, d3⟩ := V1.out
      go_wp2_with fail
      refine bodyPost_ret (v := .tuple #[.agg #[.int .i64 (-n - 1), .int .i64 2], .bool true]) (by simp [results, Tryd.results103, go_sem, c0, c1, d0, d1]) rfl ⟨fun _ => ⟨?_, ?_⟩, fun e => ?_⟩
      · rw [HG.out, HL.out]; rfl
      · exact (HB2.out.setCell (p := ⟨w.heap.size, 0, none⟩) (Nat.le_refl _) _).setCell (p := ⟨w.heap.size, 1, none⟩) (Nat.le_refl _) _
      · rw [HF.out] at e; cases e
  · obtain ⟨c0, c1, c2, c3⟩ := U0.out
    obtain ⟨d0, d1, d2, d3⟩ := U1.out
    clear U0 U1
    go_wp2_with fail
    refine bodyPost_ret (v := .tuple #[.agg #[.int .i64 (-n), .int .i64 1], .bool true]) (by simp [results, Tryd.results103, go_sem, c0, c1, d0, d1]) rfl ⟨fun _ => ⟨?_, ?_⟩, fun e => ?_⟩
    · rw [HG.out, HL.out]; rfl
    · exact (HB1.out.setCell (p := ⟨w.heap.size, 0, none⟩) (Nat.le_refl _) _).setCell (p := ⟨w.heap.size, 1, none⟩) (Nat.le_refl _) _
    · rw [HF.out] at e; cases e
theorem find_yes (n : Int) (w : World) (hn : -9223372036854775808 ≤ n) (h : isB n = true) :
    Calls Tryd.prog 103 #[.int .i64 n] w fun e w' => e = .returned (.tuple #[.agg #[.int .i64 (fOf n), .int .i64 (lvOf n)], .bool true]) ∧ Below w.heap.size w w' := by
  by_cases h0 : 0 ≤ n
  · have e : decide (n < 600) = true := by simpa [isB, h0] using h
    have := find_data n w h0
    rw [e] at this
    simpa [fOf, lvOf, h0] using this
  · by_cases h1 : n = -9223372036854775808
    · subst h1
      exact absurd h (by decide)
    · exact (find_meta n w (by omega) (by omega)).mono fun e w' hh => hh.1 h
theorem find_no (n : Int) (w : World) (hn : -9223372036854775808 ≤ n) (h : isB n = false) : Calls Tryd.prog 103 #[.int .i64 n] w (FoundNo w) := by
  by_cases h0 : 0 ≤ n
  · have e : decide (n < 600) = false := by simpa [isB, h0] using h
    have := find_data n w h0
    rw [e] at this
    exact this.mono fun e w' hh => ⟨n, 0, hh.1, hh.2⟩
  · by_cases h1 : n = -9223372036854775808
    · subst h1
      exact find_min w
    · exact (find_meta n w (by omega) (by omega)).mono fun e w' hh => hh.2 h
set_option maxHeartbeats 400000 in
theorem level_yes (n : Int) (w : World) (hn : -9223372036854775808 ≤ n) (h : isB n = true) :
    Calls Tryd.prog 101 #[.int .i64 n] w fun e w' => e = .returned (.tuple #[.int .i64 (lvOf n), .int .i64 0]) ∧ Below w.heap.size w w' := by
  have HF : Hid (∀ W, Calls Tryd.prog 103 #[.int .i64 n] W fun e w' => e = .returned (.tuple #[.agg #[.int .i64 (fOf n), .int .i64 (lvOf n)], .bool true]) ∧ Below W.heap.size W w') := fun W => find_yes n W hn h
  clear hn h
  generalize lvOf n = L at *
  generalize fOf n = F at *
  go_enter Tryd.func101, Tryd.ntmps101
  go_wp2_with fail
  refine (HF.out _).mono ?_
  rintro e w1 ⟨rfl, hb1⟩
  have HB1 := Lib.hid hb1
  clear hb1
  go_wp2
  go_ret2
  exact ⟨rfl, HB1.out.alloc HB1.out.size _⟩
set_option maxHeartbeats 400000 in
theorem level_no (n : Int) (w : World) (hn : -9223372036854775808 ≤ n) (h : isB n = false) :
    Calls Tryd.prog 101 #[.int .i64 n] w fun e w' => e = .returned (.tuple #[.int .i64 0, .int .i64 22]) ∧ Below w.heap.size w w' := by
  have HF : Hid (∀ W, Calls Tryd.prog 103 #[.int .i64 n] W (FoundNo W)) := fun W => find_no n W hn h
  clear hn h
  go_enter Tryd.func101, Tryd.ntmps101
  go_wp2_with fail
  refine (HF.out _).mono ?_
  rintro e w1 ⟨f, l, rfl, hb1⟩
  have HB1 := Lib.hid hb1
  clear hb1
  go_wp2
  go_ret2
  exact ⟨rfl, HB1.out.alloc HB1.out.size _⟩
end Go.Proofs.YtlkgaefabahkoaaDoor
