/-
  The document's block of map entries.
-/
import Derived.Test.YtbacfbdeeogkgaaImRefM
import Derived.Test.YtbacfbdeeogkgaaQuiet
namespace Go.Proofs.Ytbacfbdeeogkgaa
open Go.RowKit

theorem run_make6464 : ∀ W : World, (Instr.makeSlice 24 (.int .i64 64) (.int .i64 64)).run Try.prog W = .ok (.slice (some ⟨W.heap.size, 0, none⟩) 64 64) (W.alloc (.cells (Array.replicate 64 (.int .u8 0)) U8)) := fun _ => by kernel_rfl

def padK (A V : Nat → Int) (k : Nat) : List Nat := encK A V k ++ List.replicate (64 - k * 8) 0
theorem cellsB_put (l : List Nat) (i v : Nat) : (cellsB l).toArray.setIfInBounds i (.int .u8 (v : Int)) = (cellsB (l.set i v)).toArray := by
  simp [cellsB, List.map_set]
theorem set_past (l m : List Nat) (i n v : Nat) (hn : n = l.length) : (l ++ m).set (n + i) v = l ++ m.set i v := by
  subst hn
  rw [List.set_append_right _ _ (by omega)]
  congr 2
  omega
theorem padK_put (A V : Nat → Int) (k : Nat) (hk : k < 8) (h : GoodM (A k) (V k)) :
    ((((cellsB (padK A V k)).toArray.setIfInBounds (k * 8) (.int .u8 (((A k).toNat % 256 : Nat) : Int))).setIfInBounds (k * 8 + 1) (.int .u8 (((A k).toNat / 256 : Nat) : Int))).setIfInBounds (k * 8 + 4) (.int .u8 (((V k).toNat % 256 : Nat) : Int))).setIfInBounds (k * 8 + 5) (.int .u8 (((V k).toNat / 256 : Nat) : Int)) = (cellsB (padK A V (k + 1))).toArray := by
  obtain ⟨h1, h2, h3, h4⟩ := h
  have e1 : (A k).toNat / 256 % 256 = (A k).toNat / 256 := by omega
  have e2 : (A k).toNat / 65536 % 256 = 0 := by omega
  have e3 : (A k).toNat / 16777216 % 256 = 0 := by omega
  have e4 : (V k).toNat / 256 % 256 = (V k).toNat / 256 := by omega
  have hl := (encK_len A V k).symm
  rw [cellsB_put, cellsB_put, cellsB_put, cellsB_put]
  unfold padK
  rw [show 64 - k * 8 = 8 + (64 - (k + 1) * 8) by omega, ← List.replicate_append_replicate]
  generalize List.replicate (64 - (k + 1) * 8) 0 = tl
  have s0 := fun m v => set_past (encK A V k) m 0 (k * 8) v hl
  have s1 := fun m v => set_past (encK A V k) m 1 (k * 8) v hl
  have s4 := fun m v => set_past (encK A V k) m 4 (k * 8) v hl
  have s5 := fun m v => set_past (encK A V k) m 5 (k * 8) v hl
  rw [Nat.add_zero] at s0
  rw [s0, s1, s4, s5]
  rw [encK, List.append_assoc]
  simp [encM, List.replicate, e1, e2, e3, e4]
theorem padK_all (A V : Nat → Int) : padK A V 8 = encK A V 8 := by unfold padK; simp
theorem padK_len (A V : Nat → Int) (k : Nat) (hk : k ≤ 8) : (padK A V k).length = 64 := by
  unfold padK; rw [List.length_append, encK_len, List.length_replicate]; omega
def RbO (w : World) (A V : Nat → Int) (e : Ending) (w' : World) : Prop :=
  (AllG A V 8 ∧ e = .returned (.tuple #[.string (strOf (encK A V 8)), .int .i64 0]) ∨ ¬ AllG A V 8 ∧ e = .returned (.tuple #[.string ⟨#[]⟩, .int .i64 22])) ∧ Below w.heap.size w w'
def RbL (w : World) (A V : Nat → Int) (t : Value) (W : World) : Prop :=
  ∃ k : Nat, k ≤ 8 ∧ t = .int .i64 k ∧ AllG A V k ∧ Blo W (w.heap.size + 1) U8 (cellsB (padK A V k)).toArray ∧ Blo W w.heap.size R8T (cells16 A V) ∧ Below w.heap.size w W
theorem pad0 (A V : Nat → Int) : (cellsB (padK A V 0)).toArray = Array.replicate 64 (.int .u8 0) := by
  unfold padK encK cellsB
  rw [List.nil_append, List.map_replicate, List.toArray_replicate]
  rfl
set_option maxRecDepth 100000 in
set_option maxHeartbeats 4000000 in
theorem rmapBlock_any (A V : Nat → Int) (w : World) : Calls Try.prog 42 #[.agg (cells16 A V)] w (RbO w A V) := by
  have hmk := run_make6464 (w.alloc (.cells (cells16 A V) R8T))
  simp at hmk
  have hst : RbL w A V (.int .i64 0) ((w.alloc (.cells (cells16 A V) R8T)).alloc (.cells (Array.replicate 64 (.int .u8 0)) U8)) := by
    refine ⟨0, by decide, rfl, fun i hi => by omega, ?_, (blo_laid w R8T _).alloc _, ((Below.refl _ _).alloc (Nat.le_refl _) _).alloc (by simp) _⟩
    rw [pad0]
    have := blo_laid (w.alloc (.cells (cells16 A V) R8T)) U8 (Array.replicate 64 (.int .u8 0))
    rw [show (w.alloc (.cells (cells16 A V) R8T)).heap.size = w.heap.size + 1 by simp] at this
    exact this
  have HSt := Lib.hid hst
  clear hst
  have HAt := Lib.hid (cells16_at A V)
  generalize hcs : cells16 A V = CS at *
  have HCS := Lib.hid hcs
  clear hcs
  go_enter Try.func42, Try.ntmps42
  go_wp2_with fail
  go_loopw [5] (fun t wr => RbL w A V t wr) (fun t _ => 8 - (intOf t).toNat)
  case atStart => exact HSt.out
  case round =>
    clear HSt hmk
    obtain ⟨k, hk, rfl, hg, h4, h1, hB⟩ := hrel
    have k0 : (0 : Int) ≤ (k : Int) := by omega
    by_cases hlt : k < 8
    · have k1 : (k : Int) < 8 := by omega
      have HKn : Hid (k < 8) := hlt
      have HB := Lib.hid hB
      have H1 := Lib.hid h1
      have H4 := Lib.hid h4
      have HG := Lib.hid hg
      obtain ⟨d0, d1⟩ := HAt.out k hlt
      rw [HCS.out] at h1
      rw [← h1.cell] at d0 d1
      by_cases hgk : GoodM (A k) (V k)
      · have HGk := Lib.hid hgk
        have HPut := Lib.hid (padK_put A V k hlt hgk)
        have hal := sup_en wr (.cells #[.int .i64 (A k), .int .i64 (V k)] 63)
        have H42 := Lib.hid (H4.out.later hal)
        have H12 := Lib.hid (H1.out.later hal)
        have HB2 := Lib.hid (HB.out.trans (hal.mono HB.out.size))
        obtain ⟨g1, g2, g3, g4⟩ := hgk
        obtain ⟨an, han⟩ : ∃ an : Nat, A k = (an : Int) := ⟨(A k).toNat, by omega⟩
        obtain ⟨vn, hvn⟩ : ∃ vn : Nat, V k = (vn : Int) := ⟨(V k).toNat, by omega⟩
        rw [han] at d0 g1 g2
        rw [hvn] at d1 g3 g4
        rw [han, hvn] at H42 H12 HB2
        rw [han, hvn, Int.toNat_natCast, Int.toNat_natCast] at HPut
        have HA := Lib.hid han
        have HV := Lib.hid hvn
        have n1 : ¬ (an : Int) < 0 := by omega
        have n2 : ¬ 4095 < (an : Int) := by omega
        have n3 : ¬ (vn : Int) < 0 := by omega
        have n4 : ¬ 65535 < (vn : Int) := by omega
        have m1 : (0 : Int) ≤ 8 * (k : Int) := by omega
        have m2 : (8 : Int) * (k : Int) < 64 := by omega
        have m3 : ((8 : Int) * (k : Int)).toNat = k * 8 := by omega
        have HM2 := Lib.hid (blo_laid wr 63 #[.int .i64 an, .int .i64 vn])
        have HNe : Hid (wr.heap.size ≠ w.heap.size + 1) := Nat.ne_of_gt H4.out.lt
        clear hg h1 h4 hB hk hlt hal han hvn
        go_upto_region 8 with fail
        generalize wr.alloc (.cells #[.int .i64 (an : Int), .int .i64 (vn : Int)] 63) = w2 at *
        generalize wr.heap.size = gm at *
        have hgb : w.heap.size ≤ w.heap.size + 1 := Nat.le_succ _
        have HGb := Lib.hid hgb
        clear hgb
        generalize hgbe : w.heap.size + 1 = gb at *
        have HGe := Lib.hid hgbe
        clear hgbe
        have hne1 := HNe.out
        have hne2 : gb ≠ gm := fun e => HNe.out e.symm
        have f0 := H42.out.frozen (k * 8)
        have f1 := H42.out.frozen (k * 8 + 1)
        have f4 := H42.out.frozen (k * 8 + 4)
        have f5 := H42.out.frozen (k * 8 + 5)
        have hcb : ∀ j, j < 8 → ∃ x : Nat, w2.cell? ⟨gb, k * 8 + j, none⟩ = some (.int .u8 (x : Int)) := fun j hj => by
          rw [H42.out.cell, List.getElem?_toArray, cellsB_get _ _ (by rw [padK_len _ _ _ (by have := HKn.out; omega)]; have := HKn.out; omega)]
          exact ⟨_, rfl⟩
        obtain ⟨x0, b0⟩ := hcb 0 (by decide)
        obtain ⟨x1, b1⟩ := hcb 1 (by decide)
        obtain ⟨x4, b4⟩ := hcb 4 (by decide)
        obtain ⟨x5, b5⟩ := hcb 5 (by decide)
        rw [Nat.add_zero] at b0
        have a0 : w2.cell? ⟨gm, 0, none⟩ = some (.int .i64 an) := (HM2.out.cell 0).trans rfl
        have a1 : w2.cell? ⟨gm, 1, none⟩ = some (.int .i64 vn) := (HM2.out.cell 1).trans rfl
        have m11 : (0 : Int) ≤ 8 * (k : Int) + 1 := by omega
        have m12 : (8 : Int) * (k : Int) + 1 < 64 := by omega
        have m13 : ((8 : Int) * (k : Int) + 1).toNat = k * 8 + 1 := by omega
        have m41 : (0 : Int) ≤ 8 * (k : Int) + 4 := by omega
        have m42 : (8 : Int) * (k : Int) + 4 < 64 := by omega
        have m43 : ((8 : Int) * (k : Int) + 4).toNat = k * 8 + 4 := by omega
        have m51 : (0 : Int) ≤ 8 * (k : Int) + 5 := by omega
        have m52 : (8 : Int) * (k : Int) + 5 < 64 := by omega
        have m53 : ((8 : Int) * (k : Int) + 5).toNat = k * 8 + 5 := by omega
        clear hcb
        go_wp2_with fail
        go_roundw
        case rel =>
          refine ⟨_, _, _, ⟨k + 1, HKn.out, rfl, ?_, ?_, ?_, ?_⟩, rfl, rfl, HGe.out.symm, by simp, HGe.out.symm⟩
          · intro i hi
            rcases Nat.lt_or_ge i k with h | h
            · exact HG.out i h
            · obtain rfl : i = k := by omega
              exact HGk.out
          · rw [HGe.out, ← HPut.out]
            exact (((H42.out.put _ _).put _ _).put _ _).put _ _
          · exact (((H12.out.far (p := ⟨gb, k * 8, none⟩) (Nat.ne_of_lt (HGe.out ▸ Nat.lt_succ_self _)) _).far (p := ⟨gb, k * 8 + 1, none⟩) (Nat.ne_of_lt (HGe.out ▸ Nat.lt_succ_self _)) _).far (p := ⟨gb, k * 8 + 4, none⟩) (Nat.ne_of_lt (HGe.out ▸ Nat.lt_succ_self _)) _).far (p := ⟨gb, k * 8 + 5, none⟩) (Nat.ne_of_lt (HGe.out ▸ Nat.lt_succ_self _)) _
          · exact (((HB2.out.setCell (p := ⟨gb, k * 8, none⟩) HGb.out _).setCell (p := ⟨gb, k * 8 + 1, none⟩) HGb.out _).setCell (p := ⟨gb, k * 8 + 4, none⟩) HGb.out _).setCell (p := ⟨gb, k * 8 + 5, none⟩) HGb.out _
        case measure => simp [intOf]; have := HKn.out; omega
      · have hal := sup_en wr (.cells #[.int .i64 (A k), .int .i64 (V k)] 63)
        have HB2 := Lib.hid (HB.out.trans (hal.mono HB.out.size))
        have HNo : Hid (¬ AllG A V 8) := fun h => hgk (h k hlt)
        have HNk := Lib.hid hgk
        unfold GoodM at HNk
        generalize A k = a at *
        generalize V k = v at *
        have hP : ∀ W, Below w.heap.size w W → RbO w A V (.returned (.tuple #[.string ⟨#[]⟩, .int .i64 22])) W := fun W hW => ⟨.inr ⟨HNo.out, rfl⟩, hW⟩
        have HP := Lib.hid hP
        clear hg h1 h4 hB hk hlt hal hgk hP
        by_cases h1 : a < 0
        · go_wp2
          refine bodyPost_ret (v := .tuple #[.string ⟨#[]⟩, .int .i64 22]) ?_ rfl (HP.out _ HB2.out)
          simp [results, Try.results42, go_sem]
        · by_cases h2 : 4095 < a
          · go_wp2
            refine bodyPost_ret (v := .tuple #[.string ⟨#[]⟩, .int .i64 22]) ?_ rfl (HP.out _ HB2.out)
            simp [results, Try.results42, go_sem]
          · by_cases h3 : v < 0
            · go_wp2
              refine bodyPost_ret (v := .tuple #[.string ⟨#[]⟩, .int .i64 22]) ?_ rfl (HP.out _ HB2.out)
              simp [results, Try.results42, go_sem]
            · have h4 : 65535 < v := by have := HNk.out; omega
              go_wp2
              refine bodyPost_ret (v := .tuple #[.string ⟨#[]⟩, .int .i64 22]) ?_ rfl (HP.out _ HB2.out)
              simp [results, Try.results42, go_sem]
    · have k1 : ¬ (k : Int) < 8 := by omega
      obtain rfl : k = 8 := by omega
      rw [padK_all] at h4
      have HB := Lib.hid hB
      have HG := Lib.hid hg
      have hcv : (convert 24 9 (.slice (some ⟨w.heap.size + 1, 0, none⟩) 64 64)).run Try.prog wr = .ok (.string (strOf (encK A V 8))) wr :=
        run_str wr 24 9 U8 Try.underlying24 Try.underlying5 Try.underlying9 (encK A V 8) (some ⟨w.heap.size + 1, 0, none⟩) 64 64 (by rw [encK_len]) ⟨encK_byte A V 8, by rw [encK_len]; decide, fun _ => ⟨w.heap.size + 1, 0, rfl, fun i hi => by
          rw [Nat.zero_add, h4.cell, List.getElem?_toArray, cellsB_get _ _ hi]⟩⟩
      clear hB hg h1 h4
      generalize htx : strOf (encK A V 8) = tx at *
      have HTx := Lib.hid htx
      clear htx
      go_wp2
      refine bodyPost_ret (v := .tuple #[.string tx, .int .i64 0]) ?_ rfl ⟨.inl ⟨HG.out, ?_⟩, HB.out⟩
      · simp [results, Try.results42, go_sem]
      · rw [HTx.out]
end Go.Proofs.Ytbacfbdeeogkgaa
