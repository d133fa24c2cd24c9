/-
  The walk of Root.
-/
import Derived.Test.YtnlmpnpelnmpeaaFlGet
import Derived.Test.YtnlmpnpelnmpeaaFlSet
import Derived.Laws.Tables
import Derived.Laws.CopyOwn
namespace Go.Proofs.Ytnlmpnpelnmpeaa
open Go.RowKit Go.Maps

/-- To which block an inode's pointer leads. -/
def rootM (i : Nat) : Int := if i < 6 then (i : Int) else if i = 6 then -6 else if i = 7 then -23 else -280
theorem rootM_wf (i : Nat) (h : i < 9) : (Lit.int .i64 (rootM i)).wf = true := by
  refine wfI _ ?_ ?_ <;> (unfold rootM; split <;> (try split) <;> (try split) <;> omega)
theorem rootChild_any (i : Nat) (h : i < 9) (w : World) : Calls Try.prog 53 #[.int .i64 i] w fun e w' => e = .returned (.int .i64 (rootM i)) ∧ w = w' := by
  by_cases h6 : i < 6
  · have e : rootM i = i := by unfold rootM; rw [if_pos h6]
    rw [e]
    have h1 : (i : Int) < 6 := by omega
    clear e
    go_enter Try.func53, Try.ntmps53
    go_wp2
    go_ret
    exact ⟨rfl, rfl⟩
  · have h3 : i = 6 ∨ i = 7 ∨ i = 8 := by omega
    rcases h3 with rfl | rfl | rfl
    · go_enter Try.func53, Try.ntmps53
      go_wp2
      refine wp_loop_rounds 1 ?_
      rw [rounds_succ]
      go_wp2
      go_ret
      exact ⟨rfl, rfl⟩
    · go_enter Try.func53, Try.ntmps53
      go_wp2
      refine wp_loop_rounds 2 ?_
      rw [rounds_succ]
      go_wp2
      rw [rounds_succ]
      go_wp2
      go_ret
      exact ⟨rfl, rfl⟩
    · go_enter Try.func53, Try.ntmps53
      go_wp2
      refine wp_loop_rounds 3 ?_
      rw [rounds_succ]
      go_wp2
      rw [rounds_succ]
      go_wp2
      rw [rounds_succ]
      go_wp2
      go_ret
      exact ⟨rfl, rfl⟩
theorem child_root (i : Nat) (h : i < 9) (w : World) : Calls Try.prog 32 #[.int .i64 600, .int .i64 i] w fun e w' => e = .returned (.tuple #[.int .i64 (rootM i), .bool true]) ∧ w = w' := by
  have HR := Lib.hid (fun W => rootChild_any i h W)
  generalize rootM i = z at *
  go_enter Try.func32, Try.ntmps32
  go_wp2_with fail
  refine (HR.out _).mono ?_
  rintro e w1 ⟨rfl, rfl⟩
  go_wp2
  go_ret2
  exact ⟨rfl, rfl⟩
section
variable {B M b n : Nat} {d : Nat → Int} {ad : Int → Int} {w w' : World}
abbrev RT : TypeId := 36
def rootC (d : Nat → Int) (ad : Int → Int) (j : Nat) : Array Value := ((List.range 9).map fun i => Value.int .u32 (if i < j then getM d ad (rootM i) else 0)).toArray
theorem rootC_get (d : Nat → Int) (ad : Int → Int) (j i : Nat) (h : i < 9) : (rootC d ad j)[i]? = some (.int .u32 (if i < j then getM d ad (rootM i) else 0)) := by simp [rootC, h]
theorem rootC_put (d : Nat → Int) (ad : Int → Int) (j : Nat) (h : j < 9) : (rootC d ad j).setIfInBounds j (.int .u32 (getM d ad (rootM j))) = rootC d ad (j + 1) := by
  apply Array.ext_getElem?
  intro i
  rw [Array.getElem?_setIfInBounds]
  by_cases hi : i < 9
  · rw [rootC_get d ad (j + 1) i hi]
    by_cases e : j = i
    · subst e
      rw [if_pos rfl, if_pos (by simp [rootC]; omega), if_pos (by omega)]
    · rw [if_neg e, rootC_get d ad j i hi]
      by_cases h2 : i < j
      · rw [if_pos h2, if_pos (by omega)]
      · rw [if_neg h2, if_neg (by omega)]
  · have e1 : (rootC d ad (j + 1))[i]? = none := by rw [Array.getElem?_eq_none]; simp [rootC]; omega
    have e2 : (rootC d ad j)[i]? = none := by rw [Array.getElem?_eq_none]; simp [rootC]; omega
    rw [e1, if_neg (by omega), e2]
theorem rootC_zero (d : Nat → Int) (ad : Int → Int) : rootC d ad 0 = #[.int .u32 0, .int .u32 0, .int .u32 0, .int .u32 0, .int .u32 0, .int .u32 0, .int .u32 0, .int .u32 0, .int .u32 0] := by simp [rootC, List.range_succ]
theorem rootC_one (d : Nat → Int) (ad : Int → Int) (j : Nat) : (rootC d ad j).all (·.oneCell') = true := by simp [rootC, Value.oneCell']
theorem rootC_size (d : Nat → Int) (ad : Int → Int) (j : Nat) : (rootC d ad j).size = 9 := by simp [rootC]
def RoR (w : World) (B M b n : Nat) (d : Nat → Int) (ad : Int → Int) (t : Value) (wr : World) : Prop :=
  ∃ j : Nat, j ≤ 9 ∧ t = .int .i64 j ∧ FX B M b n d ad wr ∧ Blo wr w.heap.size RT (rootC d ad 0) ∧ Blo wr (w.heap.size + 1) RT (rootC d ad j) ∧ Below w.heap.size w wr
set_option maxRecDepth 20000 in
set_option maxHeartbeats 1000000 in
theorem root_any9 (h : FX B M b n d ad w) : Calls Try.prog 15 #[.pointer (some ⟨M, 0, none⟩)] w fun e w' => e = .returned (.agg (rootC d ad 9)) ∧ Below w.heap.size w w' := by
  have HCh := Lib.hid (fun i hi W => child_root i hi W)
  have HF := Lib.hid h
  have b1 := blo_laid w RT (rootC d ad 0)
  have b2 := b1.alloc (.cells (rootC d ad 0) RT)
  have b3 := blo_laid (w.alloc (.cells (rootC d ad 0) RT)) RT (rootC d ad 0)
  have hs : (w.alloc (.cells (rootC d ad 0) RT)).heap.size = w.heap.size + 1 := by simp
  rw [hs] at b3
  have l1 := sup_pc w (.cells (rootC d ad 0) RT)
  have l2 := sup_pc (w.alloc (.cells (rootC d ad 0) RT)) (.cells (rootC d ad 0) RT)
  have HR : Hid (RoR w B M b n d ad (.int .i64 0) ((w.alloc (.cells (rootC d ad 0) RT)).alloc (.cells (rootC d ad 0) RT))) := ⟨0, by omega, rfl, (h.later l1).later l2, b2, b3, l1.trans (l2.mono l1.size)⟩
  have HZ := Lib.hid (rootC_zero d ad)
  rw [HZ.out] at HR
  clear h b1 b2 b3 hs l1 l2
  go_enter Try.func15, Try.ntmps15
  go_wp2_with fail
  go_loopw [7] (fun t wr => RoR w B M b n d ad t wr) (fun t _ => 9 - (intOf t).toNat)
  case atStart => exact HR.out
  case round =>
    clear HR HF
    obtain ⟨j, hj, rfl, hf, hr0, hr1, hb⟩ := hrel
    by_cases hlt : j < 9
    · have HF := Lib.hid hf
      have HR0 := Lib.hid hr0
      have HR1 := Lib.hid hr1
      have HB := Lib.hid hb
      have hgb := (by obtain ⟨f, hh⟩ := hf; exact getM_bd hh (rootM j) : 0 ≤ getM d ad (rootM j) ∧ getM d ad (rootM j) < 4096)
      have HG : Hid (Calls Try.prog 24 #[.pointer (some ⟨M, 0, none⟩), .int .i64 (rootM j)] wr fun e w' => e = .returned (.int .i64 (getM d ad (rootM j))) ∧ wr = w') := by
        obtain ⟨f, hh⟩ := hf
        exact get_any _ (rootM_wf j hlt) hh
      have HPt : Hid ((rootC d ad j).setIfInBounds j (.int .u32 (getM d ad (rootM j))) = rootC d ad (j + 1)) := rootC_put d ad j hlt
      have cc := hr1.cell j
      rw [rootC_get d ad j j hlt, if_neg (Nat.lt_irrefl _)] at cc
      have fc := hr1.frozen j
      have hj9 : (j : Int) < 9 := by omega
      have HC := Lib.hid (HCh.out j hlt wr)
      clear hf hr0 hr1 hb
      generalize getM d ad (rootM j) = v at *
      generalize rootM j = z at *
      go_wp2_with fail
      refine HC.out.mono ?_
      rintro e w1 ⟨rfl, rfl⟩
      go_wp2_with fail
      refine HG.out.mono ?_
      rintro e w1 ⟨rfl, rfl⟩
      have hB1 := HR1.out.put j (.int .u32 v)
      rw [HPt.out] at hB1
      have hgp := grown_put wr ⟨w.heap.size + 1, j, none⟩ (.int .u32 v)
      have hwz : wr.heap.size ≥ w.heap.size + 2 := HR1.out.lt
      go_wp2_with fail
      have hF1 := HF.out.blk HR1.out (by decide) (by decide) hgp
      have hR1 := HR0.out.far (p := ⟨w.heap.size + 1, j, none⟩) (by show w.heap.size ≠ w.heap.size + 1; omega) (.int .u32 v)
      have hB2 := HB.out.setCell (p := ⟨w.heap.size + 1, j, none⟩) (by show _ ≤ w.heap.size + 1; omega) (.int .u32 v)
      exact ⟨⟨j + 1, by omega, by simp, hF1, hR1, hB1, hB2⟩, by simp [intOf]; omega⟩
    · obtain rfl : 9 = j := by omega
      have HR0 := Lib.hid hr0
      have HR1 := Lib.hid hr1
      have HB := Lib.hid hb
      have HS : Hid ((Try.prog.info? RT).map (·.size) = some (rootC d ad 9).size) := by
        show _ = _
        rw [rootC_size]; kernel_rfl
      clear hf hr0 hr1 hb
      go_wp2_with (first
        | (refine wpList_load_row rfl RT (.tmp 3) rfl (w.heap.size + 1) rfl RT (rootC d ad 9) (0, 0) _ HR1.out Try.underlying36 rfl HS.out ?_)
        | (refine wpList_store_row rfl RT (.tmp 2) (.tmp 22) rfl w.heap.size (rootC d ad 9) (by first | rfl | simp [go_sem]) (by first | rfl | simp [go_sem]) RT _ HR0.out HS.out (by rw [rootC_size, rootC_size]) (rootC_one d ad 9) ?_))
      (try simp only [Exit.inBlock, Exit.then])
      refine bodyPost_ret (results_cell_row (p := 2) (ty := RT) rfl _ _ w.heap.size RT (rootC d ad 9) (0, 0) _ (by simp [Act.put]) (blo_row HR0.out (rootC d ad 9)) Try.underlying36 rfl HS.out) rfl ⟨rfl, below_setRow HB.out (Nat.le_refl _) _⟩
end
end Go.Proofs.Ytnlmpnpelnmpeaa
