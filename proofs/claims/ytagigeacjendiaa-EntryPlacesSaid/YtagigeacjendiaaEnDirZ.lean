/-
  Directory entries that are free: check, bytes, DirBlock.
-/
import Derived.Test.YtagigeacjendiaaEnRead
import Derived.Lib.BufferWrite
namespace Go.Proofs.Ytagigeacjendiaa
open Go.RowKit

abbrev DEN := 39
abbrev A4D := 40
abbrev zde : Array Value := #[.int .i64 0, .string ByteArray.empty]
abbrev z8d : Array Value := #[.int .i64 0, .string ByteArray.empty, .int .i64 0, .string ByteArray.empty, .int .i64 0, .string ByteArray.empty, .int .i64 0, .string ByteArray.empty]
theorem eql_zde : ∀ W : World, (binOp .eql DEN (.agg #[.int .i64 0, .string ByteArray.empty]) (.agg #[.int .i64 0, .string ByteArray.empty])).run Try.prog W = .ok (.bool true) W := fun _ => by kernel_rfl
set_option maxHeartbeats 1000000 in
theorem check_dirZ (w : World) : Calls Try.prog 28 #[.agg #[.int .i64 0, .string ByteArray.empty]] w fun e w' => e = .returned (.int .i64 0) ∧ Below w.heap.size w w' := by
  have HB := Lib.hid (sup_en w (.cells zde DEN))
  have he := eql_zde
  go_enter Try.func28, Try.ntmps28
  go_wp2
  go_ret
  exact ⟨rfl, HB.out⟩
theorem run_make16 : ∀ W : World, (Instr.makeSlice 26 (.int .i64 16) (.int .i64 16)).run Try.prog W = .ok (.slice (some ⟨W.heap.size, 0, none⟩) 16 16) (W.alloc (.cells (Array.replicate 16 (.int .u8 0)) U8)) := fun _ => by kernel_rfl
set_option maxHeartbeats 2000000 in
theorem bytes_dirZ (w : World) : Calls Try.prog 29 #[.agg #[.int .i64 0, .string ByteArray.empty]] w fun e w' => ∃ g, e = .returned (.slice (some ⟨g, 0, none⟩) 16 16) ∧ Blo w' g U8 (cellsB (List.replicate 16 0)).toArray ∧ w.heap.size ≤ g ∧ Below w.heap.size w w' := by
  have hmk := run_make16 (w.alloc (.cells #[.int .i64 0, .string ByteArray.empty] DEN))
  simp at hmk
  have hcp : ∀ W, (Builtin.copy_ #[26, 9] 3 #[.slice (some ⟨w.heap.size + 1, 2, none⟩) 14 14, .string ByteArray.empty]).run Try.prog W = .ok (goInt 0) W := fun W => Lib.run_copy_empty_string W 26 9 3 U8 _ 14 14 ByteArray.empty Try.underlying26 (by kernel_rfl) rfl
  have HB := Lib.hid (((Below.refl w.heap.size w).alloc (Nat.le_refl _) (.cells #[.int .i64 0, .string ByteArray.empty] DEN)))
  go_enter Try.func29, Try.ntmps29
  go_wp2_with fail
  go_region_with ((go_at_call 32; (refine (put2_any 0 _ _ _ _ (.int .u8 0) (.int .u8 0) (by omega) (by simp) (by simp) (by simp) (by simp)).mono ?_); rintro e w2 ⟨rfl, rfl⟩))
  all_goals
    go_wp2_with fail
    go_region
    all_goals
      go_wp2
      go_ret
      refine ⟨w.heap.size + 1, rfl, ?_, by omega, ?_⟩
      · have := blo_laid (w.alloc (.cells #[.int .i64 0, .string ByteArray.empty] DEN)) U8 (Array.replicate 16 (.int .u8 0))
        rw [show (w.alloc (.cells #[.int .i64 0, .string ByteArray.empty] DEN)).heap.size = w.heap.size + 1 by simp] at this
        exact this
      · exact (HB.out.alloc HB.out.size _).drew.drew
/-- Four free entries in memory. -/
def RdD (W : World) (g : Nat) : Prop := ∀ i, i < 4 → W.cell? ⟨g, i * 2, none⟩ = some (.int .i64 0) ∧ W.cell? ⟨g, i * 2 + 1, none⟩ = some (.string ByteArray.empty)
theorem RdD.later {W W' : World} {g : Nat} (h : RdD W g) (hb : Below W.heap.size W W') : RdD W' g := fun i hi => ⟨cell_later hb (h i hi).1, cell_later hb (h i hi).2⟩
def zK (k : Nat) : List Nat := List.replicate (k * 16) 0
theorem zK_succ (k : Nat) : zK (k + 1) = zK k ++ List.replicate 16 0 := by
  unfold zK; rw [List.replicate_append_replicate]; congr 1; omega
def WdR (w : World) (v t : Value) (W : World) : Prop := ∃ k : Nat, k ≤ 4 ∧ t = .int .i64 k ∧ W.ownsRow w.heap.size U8 1 v (k * 16) (cellsB (zK k)) ∧ Below w.heap.size w W
def DbZ (w : World) (e : Ending) (w' : World) : Prop := (∃ a cap, e = .returned (.tuple #[.slice a 64 cap, .int .i64 0]) ∧ w'.ownsRow w.heap.size U8 1 (.slice a 64 cap) 64 (cellsB (zK 4))) ∧ Below w.heap.size w w'
set_option maxRecDepth 100000 in
set_option maxHeartbeats 4000000 in
theorem write_dirZ (g : Nat) (w : World) (h : RdD w g) : Calls Try.prog 27 #[.slice (some ⟨g, 0, none⟩) 4 4, .func (.func 28) #[] #[], .func (.func 29) #[] #[]] w (DbZ w) := by
  have H := Lib.hid h
  have hmk := run_make64 w
  have HSt : Hid (WdR w (.slice (some ⟨w.heap.size, 0, none⟩) 0 64) (.int .i64 0) (w.alloc (.cells (Array.replicate 64 (.int .u8 0)) U8))) :=
    ⟨0, by decide, rfl, World.ownsRow_made w _ 64 (Nat.le_refl _) (by decide) (by simp), sup_en w _⟩
  clear h
  go_enter Try.func27, Try.ntmps27
  go_wp2_with fail
  go_loopw [8, 15] (fun v t wr => WdR w v t wr) (fun _ t _ => 4 - (intOf t).toNat)
  case atStart => exact HSt.out
  case round =>
    clear HSt hmk
    obtain ⟨k, hk, rfl, hO, hB⟩ := hrel
    have k0 : (0 : Int) ≤ (k : Int) := by omega
    by_cases hlt : k < 4
    · have k1 : (k : Int) < 4 := by omega
      have HKn : Hid (k < 4) := hlt
      obtain ⟨e0, e1⟩ := (H.out.later hB) k hlt
      have HO := Lib.hid hO
      have HB := Lib.hid hB
      have hal := sup_en wr (.cells #[.int .i64 0, .string ByteArray.empty] DEN)
      have HE := Lib.hid (blo_laid wr DEN #[.int .i64 0, .string ByteArray.empty])
      have HO1 := Lib.hid (own_later HO.out hal)
      have HB1 := Lib.hid (HB.out.trans (hal.mono HB.out.size))
      clear hO hB hlt hk hal
      go_wp2_with fail
      refine (check_dirZ _).mono ?_
      rintro e w1 ⟨rfl, hb1⟩
      have HE2 := Lib.hid (HE.out.later hb1)
      have HO2 := Lib.hid (own_later HO1.out hb1)
      have HB2 := Lib.hid (HB1.out.trans (hb1.mono HB1.out.size))
      clear hb1 HE HO1 HB1 HO HB e0 e1
      generalize wr.heap.size = ge at *
      have x0 := HE2.out.cell 0
      have x1 := HE2.out.cell 1
      simp at x0 x1
      go_wp2_with fail
      refine (bytes_dirZ _).mono ?_
      rintro e w2 ⟨g2, rfl, hE2, hg2, hb2⟩
      have HE3 := Lib.hid hE2
      have HO3 := Lib.hid (own_later HO2.out hb2)
      have HB3 := Lib.hid (HB2.out.trans (hb2.mono HB2.out.size))
      clear hb2 hE2 HO2 HB2 x0 x1 hg2
      go_wp2_with (at_builtin; refine wp_append_row rfl (.tmp 25) (.tmp 28) 26 rfl w.heap.size U8 (.int .u8 0) 1 1 Try.underlying26 info_u8 rfl (by decide) (by decide) _ (k * 16) (cellsB (zK k)) rfl HO3.out (some ⟨g2, 0, none⟩) 16 16 (cellsB (List.replicate 16 0)) rfl (by rw [cellsB_length]; rfl) (fun ad e j u hj => by cases e; rw [Addr.add_lit]; show World.cell? _ ⟨g2, 0 + j, none⟩ = _; rw [Nat.zero_add, HE3.out.cell, List.getElem?_toArray]; exact hj) (cellsB_oneE _) (fun e => by cases e) (by have := HKn.out; omega) HB3.out.size ?_; intro a5 c5 w5 ho5 hg5; have HO5 := Lib.hid ho5; have HB5 := Lib.hid (HB3.out.grown hg5 HB3.out.size (fun q hq => (HO3.out.lt q hq).1)); clear ho5 hg5)
      go_roundw
      case rel =>
        refine ⟨k + 1, HKn.out, by simp, ?_, HB5.out⟩
        have e := HO5.out
        rw [zK_succ, ← cellsB_append, show (k + 1) * 16 = k * 16 + 16 by omega]
        exact e
      case measure => simp [intOf]; have := HKn.out; omega
    · have k1 : ¬ (k : Int) < 4 := by omega
      obtain rfl : k = 4 := by omega
      have HO := Lib.hid hO
      have HB := Lib.hid hB
      clear hO hB
      obtain ⟨a, cap, rfl, _⟩ := own_slice HO.out
      go_wp2
      exact bodyPost_ret (v := .tuple #[.slice a 64 cap, .int .i64 0]) (by simp [results, Try.results27, go_sem]) rfl ⟨⟨a, cap, rfl, HO.out⟩, HB.out⟩
set_option maxHeartbeats 2000000 in
theorem dirBlockZ (w : World) : Calls Try.prog 14 #[.agg z8d] w (DbZ w) := by
  have hrd : RdD (w.alloc (.cells z8d A4D)) w.heap.size := fun i hi => by
    have hb := blo_laid w A4D z8d
    have : i = 0 ∨ i = 1 ∨ i = 2 ∨ i = 3 := by omega
    rcases this with rfl | rfl | rfl | rfl <;> exact ⟨hb.cell _, hb.cell _⟩
  have HB := Lib.hid (sup_en w (.cells z8d A4D))
  have HW := Lib.hid (write_dirZ w.heap.size _ hrd)
  have HP : Hid (∀ e W, DbZ (w.alloc (.cells z8d A4D)) e W → DbZ w e W) := fun e W ⟨⟨a, cap, he, ho⟩, h2⟩ =>
    ⟨⟨a, cap, he, ho.1, ho.2.imp id (fun ⟨g, c, cur, q1, q2, q3⟩ => ⟨g, c, cur, q1, Nat.le_trans HB.out.size q2, q3⟩)⟩, HB.out.trans (h2.mono HB.out.size)⟩
  clear hrd
  go_enter Try.func14, Try.ntmps14
  go_wp2_with fail
  refine HW.out.mono ?_
  rintro e w1 hO
  obtain ⟨⟨a, cap, rfl, ho⟩, hb⟩ := HP.out _ _ hO
  have HO := Lib.hid ho
  have HB1 := Lib.hid hb
  clear ho hb hO HP HW
  go_wp2
  exact bodyPost_ret (v := .tuple #[.slice a 64 cap, .int .i64 0]) (by simp [results, Try.results14, go_sem]) rfl ⟨⟨a, cap, rfl, HO.out⟩, HB1.out⟩
end Go.Proofs.Ytagigeacjendiaa
