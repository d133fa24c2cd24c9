/-
  The disk's walks: Read, Queue.
-/
import Derived.Test.YtmkhliabmodbdaaDkBar
namespace Go.Proofs.Ytmkhliabmodbdaa
open Go.RowKit

def Z64 : Array Value := (cellsB zeroB).toArray
theorem size_u8d : (Try.prog.info? U8).map (·.size) = some 1 := by kernel_rfl
theorem run_make64 : ∀ W : World, (Instr.makeSlice 36 (.int .i64 64) (.int .i64 64)).run Try.prog W = .ok (.slice (some ⟨W.heap.size, 0, none⟩) 64 64) (W.alloc (.cells Z64 U8)) := fun _ => by kernel_rfl
theorem bblk_zero (w : World) : BBlk (w.alloc (.cells Z64 U8)) w.heap.size zeroB := ⟨blo_laid w U8 Z64, by decide, zeroB_byte⟩
theorem BBlk.there {w : World} {g : Nat} {l : List Nat} (h : BBlk w g l) : w.there g 0 64 := fun j hj =>
  ⟨by rw [Nat.zero_add, h.1.cell, List.getElem?_toArray, cellsB_get _ _ (by rw [h.2.1]; exact hj)]; rfl, h.1.frozen _⟩
/-- A block whose bytes are all written. -/
theorem BBlk.filled {w : World} {g : Nat} {l m : List Nat} (h : BBlk w g l) (hm : m.length = 64) (hb : ∀ x ∈ m, x < 256) : BBlk (w.setCells g 0 (cellsB m)) g m := by
  obtain ⟨cs, h1, h2, h3⟩ := blo_cells (cellsB m) 0 w _ h.1
  have hs : cs.size = 64 := by rw [h2, List.size_toArray, cellsB_length, h.2.1]
  have e : cs = (cellsB m).toArray := by
    apply Array.ext_getElem?
    intro j
    rw [h3 j, cellsB_length, hm, List.size_toArray, cellsB_length, h.2.1]
    by_cases c : j < 64
    · rw [if_pos (by omega), Nat.sub_zero, List.getElem?_toArray]
    · rw [if_neg (by omega), Array.getElem?_eq_none (by rw [List.size_toArray, cellsB_length, h.2.1]; omega), Array.getElem?_eq_none (by rw [List.size_toArray, cellsB_length, hm]; omega)]
  rw [e] at h1
  exact ⟨h1, hm, hb⟩
theorem sup_us2 (w : World) (o : Obj) : Below w.heap.size w (w.alloc o) := (Below.refl _ _).alloc (Nat.le_refl _) o
def ReadO (w : World) (l : List Nat) (e : Ending) (w' : World) : Prop :=
  ∃ g, e = .returned (.tuple #[.slice (some ⟨g, 0, none⟩) 64 64, .int .i64 0]) ∧ BBlk w' g l ∧ w.heap.size ≤ g ∧ Below w.heap.size w w'
section
variable {C : Nat} {w w' : World} {L : Dl} {d : Dm}
set_option maxHeartbeats 400000 in
theorem read_bad (k : Int) (hk : k < 0 ∨ (d.n : Int) ≤ k) (h : Dk C w L d) : Calls Try.prog 35 #[.pointer (some ⟨L.bd, 0, none⟩), .int .i64 k] w fun e w' => e = .returned (.tuple #[.slice none 0 0, .int .i64 22]) ∧ w = w' := by
  have t1 := h.top.cell 1
  have hn := h.few.2
  simp at t1
  clear h
  rcases hk with hk | hk
  · go_enter Try.func35, Try.ntmps35
    go_wp2
    go_ret2
    exact ⟨rfl, rfl⟩
  · have k0 : ¬ k < 0 := by omega
    go_enter Try.func35, Try.ntmps35
    go_wp2
    go_ret2
    exact ⟨rfl, rfl⟩
set_option maxHeartbeats 1000000 in
theorem read_yes (i : Nat) (hi : i < d.n) (h : Dk C w L d) : Calls Try.prog 35 #[.pointer (some ⟨L.bd, 0, none⟩), .int .i64 i] w (ReadO w (d.N i)) := by
  have t1 := h.top.cell 1
  have hn := h.few.2
  simp at t1
  have k0 : (0 : Int) ≤ (i : Int) := by omega
  have k1 : (i : Int) < (d.n : Int) := by omega
  have hmk := run_make64
  have hb0 : Below w.heap.size w (w.alloc (.cells Z64 U8)) := (Below.refl _ _).alloc (Nat.le_refl _) _
  have HB0 := Lib.hid hb0
  have H2 := Lib.hid (h.later hb0)
  have HZ := Lib.hid (bblk_zero w)
  have HLen := Lib.hid (h.now.len i)
  have HBy := Lib.hid (h.now.byte i)
  have hbd := h.top.lt
  clear h hb0
  go_enter Try.func35, Try.ntmps35
  go_wp2_with (refine wpList_copy_many rfl (.tmp 19) (.tmp 26) 36 36 rfl U8 1 Try.underlying36 size_u8d w.heap.size 0 64 64 ⟨L.gn, i * 64, none⟩ 64 64 (by first | rfl | simp [go_sem]) (by first | rfl | simp [go_sem]) (cellsB (d.N i)) (by rw [cellsB_length, HLen.out]; rfl) (range_src (H2.out.now.range hi)) (by rw [cellsB_length, HLen.out]; exact HZ.out.there) (cellsB_one _) ?_)
  go_ret2
  refine ⟨w.heap.size, rfl, HZ.out.filled HLen.out HBy.out, Nat.le_refl _, ?_⟩
  exact (out_cells (X := fun j => j = w.heap.size) (cellsB (d.N i)) 0 _ rfl).below (by simp) (fun _ _ e => by omega) |> fun h => HB0.out.trans h
set_option maxHeartbeats 400000 in
theorem run_ints (w : World) (n : Nat) (hn : n ≤ 1000000) :
    (Instr.makeSlice 70 (.int .i64 (n : Int)) (.int .i64 (n : Int))).run Try.prog w = .ok (.slice (some ⟨w.heap.size, 0, none⟩) n n) (w.alloc (.cells (cellsI (List.replicate n 0)).toArray 3)) := by
  have h0 : (Try.prog.info? 3).map (fun i => (i.zero, i.size, i.bytes)) = some (some (.int .i64 0), 1, 8) := by kernel_rfl
  obtain ⟨i, hi0, hz, hs1, hb1⟩ := info_parts h0
  have hr := run_make (P := Try.prog) w 70 3 i (.int .i64 0) Try.underlying70 hi0 hz .i64 .i64 n n (by omega) (Int.le_refl _) (by rw [hb1]; omega) (by omega)
  simp only [Int.toNat_natCast] at hr
  have e : madeCells (Value.int .i64 0).cells (n * 1) = (cellsI (List.replicate n 0)).toArray := by
    apply Array.toList_inj.1
    apply List.ext_getElem (by simp [madeCells, cellsI])
    intro j h1 h2
    simp [madeCells, cellsI, Value.cells, Nat.mod_one]
  rw [hr, hs1, e]
def QueO (w : World) (Q : List (Nat × List Nat)) (e : Ending) (w' : World) : Prop :=
  ∃ g, e = .returned (.slice (some ⟨g, 0, none⟩) Q.length Q.length) ∧ Blo w' g 3 (cellsI (Q.map fun p => (p.1 : Int))).toArray ∧ w.heap.size ≤ g ∧ Below w.heap.size w w'
def QueR (w : World) (gl : Nat) (Q : List (Nat × List Nat)) (i : Value) (wr : World) : Prop :=
  ∃ k : Nat, k ≤ Q.length ∧ i = .int .i64 k ∧ (∃ cs, Blo wr gl 3 cs ∧ cs.size = Q.length ∧ ∀ j, j < k → cs[j]? = some (.int .i64 ((Q.getD j (0, [])).1 : Nat))) ∧ Below w.heap.size w wr
set_option maxRecDepth 100000 in
set_option maxHeartbeats 2000000 in
theorem queue_any (h : Dk C w L d) : Calls Try.prog 48 #[.pointer (some ⟨L.bd, 0, none⟩)] w (QueO w d.Q) := by
  obtain ⟨qa, qc, hqv, hqc⟩ := own_slice h.queue
  have t2 := h.top.cell 2
  simp at t2
  rw [hqv] at t2
  have hqn : d.Q.length ≤ 1000000 := h.len
  have HQv := Lib.hid hqv
  have H := Lib.hid h
  have hmk : ∀ W, _ := fun W => run_ints W d.Q.length hqn
  have hbd := h.top.lt
  have hb1 := sup_us2 w (.cells (cellsI (List.replicate d.Q.length 0)).toArray 3)
  have HB1 := Lib.hid hb1
  have HSt : Hid (QueR w w.heap.size d.Q (.int .i64 0) (w.alloc (.cells (cellsI (List.replicate d.Q.length 0)).toArray 3))) :=
    ⟨0, Nat.zero_le _, rfl, ⟨_, blo_laid w _ _, by simp [cellsI], fun j hj => by omega⟩, hb1⟩
  obtain ⟨Z, hZ, hZs⟩ := zero_wrt
  have HZs := Lib.hid hZs
  clear h hqv hqc hb1 hZs
  go_enter Try.func48, Try.ntmps48
  go_wp2_with fail
  clear t2 hmk
  go_loopw [17] (fun i wr => QueR w w.heap.size d.Q i wr) (fun i _ => d.Q.length - (intOf i).toNat)
  case atStart => exact HSt.out
  case round =>
    clear HSt
    obtain ⟨k, hk, rfl, ⟨cs, hg0, hgs, hgc⟩, hb⟩ := hrel
    have HD := H.out.later hb
    have HB := Lib.hid hb
    have HG0 := Lib.hid hg0
    have HGs := Lib.hid hgs
    have HGc := Lib.hid hgc
    clear hg0 hgs hgc hb
    by_cases hlt : k < d.Q.length
    · obtain ⟨g, cp, hv, hr, hg⟩ := HD.at (k := k) hlt
      rw [HQv.out] at hv
      injection hv with q1 q2 q3
      subst q1
      have hi2 : (Try.prog.info? WRT).map (·.size) = some (wrtC d.Q[k]).length := by rw [wrtC_length hg]; exact size_wrt
      have HI2 := Lib.hid hi2
      have HI3 : Hid ((Try.prog.info? WRT).map (·.size) = some (wrtC d.Q[k]).toArray.size) := by rw [List.size_toArray]; exact hi2
      have HR := Lib.hid hr
      have HG := Lib.hid hg
      have k0 : (0 : Int) ≤ (k : Int) := by omega
      have k1 : (k : Int) < (d.Q.length : Int) := by omega
      have hb5 : Below wr.heap.size wr ((wr.alloc (.cells Z WRT)).setRow wr.heap.size (wrtC d.Q[k]).toArray) := below_row ((Below.refl _ _).alloc (Nat.le_refl _) _) (Nat.le_refl _) _
      have HV := Lib.hid (varW_new wr Z d.Q[k])
      have hgl := HG0.out.lt
      have HG5 := Lib.hid (HG0.out.later hb5)
      have HB5 := Lib.hid (HB.out.trans (hb5.mono HB.out.size))
      have hx0 := HV.out.at0
      obtain ⟨v0, hv0⟩ : ∃ v, cs[k]? = some v := ⟨_, Array.getElem?_eq_getElem (by rw [HGs.out]; exact hlt)⟩
      have hx1 := HG5.out.cell k
      have hx2 := HG5.out.frozen k
      rw [hv0] at hx1
      clear hi2 hr hg HD q2 q3 hb5 hv0
      go_wp2_with (first | (refine wpList_load_mid rfl WRT (.tmp 20) rfl g (k * 65) (by first | rfl | simp [go_sem]) (wrtC d.Q[k]) _ HR.out Try.underlying91 rfl HI2.out ?_) | (refine wpList_store_row rfl WRT (.tmp 5) (.tmp 21) rfl wr.heap.size (wrtC d.Q[k]).toArray (by first | rfl | simp [go_sem]) (by first | rfl | simp [go_sem]) WRT _ (heap_alloc_new wr _) HI3.out (by show Z.size = (wrtC d.Q[k]).length; rw [wrtC_length HG.out]; exact HZs.out) (all_oneCell_toArray (wrtC_one _)) ?_))
      have HG6 := Lib.hid (HG5.out.put k (.int .i64 (d.Q[k].1 : Nat)))
      have HB6 := Lib.hid (HB5.out.setCell (p := ⟨w.heap.size, k, none⟩) (Nat.le_refl _) (.int .i64 (d.Q[k].1 : Nat)))
      clear hx0 hx1 hx2 HV HG5 HB5 HR HI2 HI3 HG
      go_roundw
      case rel =>
        refine ⟨k + 1, hlt, by simp, ⟨_, HG6.out, by rw [Array.size_setIfInBounds]; exact HGs.out, fun j hj => ?_⟩, HB6.out⟩
        rw [Array.getElem?_setIfInBounds]
        by_cases e : k = j
        · subst e
          rw [if_pos rfl, if_pos (by rw [HGs.out]; exact hlt), List.getD_eq_getElem?_getD, List.getElem?_eq_getElem hlt]; rfl
        · rw [if_neg e]; exact HGc.out j (by omega)
      case measure => simp [intOf]; omega
    · have hke : k = d.Q.length := by omega
      have HF : Hid (Blo wr w.heap.size 3 (cellsI (d.Q.map fun p => (p.1 : Int))).toArray) := by
        have e : cs = (cellsI (d.Q.map fun p => (p.1 : Int))).toArray := by
          apply Array.ext_getElem?
          intro j
          by_cases c : j < d.Q.length
          · rw [HGc.out j (by omega), List.getElem?_toArray, cellsI_get _ _ (by simpa using c)]
            simp [List.getD_eq_getElem?_getD, List.getElem?_eq_getElem c]
          · rw [Array.getElem?_eq_none (by rw [HGs.out]; omega), Array.getElem?_eq_none (by simp [cellsI]; omega)]
        rw [← e]
        exact HG0.out
      clear hke HG0 HGs HGc HD
      go_wp2
      go_ret
      exact ⟨w.heap.size, rfl, HF.out, Nat.le_refl _, HB.out⟩
end
end Go.Proofs.Ytmkhliabmodbdaa
