/-
  Any directory entry's bytes; the block of four.
-/
import Derived.Test.YtagigeacjendiaaEnDir
namespace Go.Proofs.Ytagigeacjendiaa
open Go.RowKit

theorem size_u8w (w : World) : (Go.sizeOf U8).run Try.prog w = .ok 1 w := by kernel_rfl
def BytD (w : World) (i : Nat) (n : ByteArray) (e : Ending) (w' : World) : Prop := ∃ g, e = .returned (.slice (some ⟨g, 0, none⟩) 16 16) ∧ Blo w' g U8 (cellsB (encD i n)).toArray ∧ w.heap.size ≤ g ∧ Below w.heap.size w w'
theorem nb_cells (n : ByteArray) : (n.data.toList.map fun x => Value.int .u8 (x.toNat : Int)) = cellsB (nb n) := by
  unfold cellsB nb; rw [List.map_map]; rfl
set_option maxHeartbeats 4000000 in
theorem bytes_dir (i : Nat) (n : ByteArray) (hi : i < 65536) (hn : n.size ≤ 14) (w : World) : Calls Try.prog 29 #[.agg #[.int .i64 (i : Int), .string n]] w (BytD w i n) := by
  have hmk := run_make16 (w.alloc (.cells #[.int .i64 (i : Int), .string n] DEN))
  simp at hmk
  have HB := Lib.hid (((Below.refl w.heap.size w).alloc (Nat.le_refl _) (.cells #[.int .i64 (i : Int), .string n] DEN)))
  have HBc := Lib.hid (bytes_cells i n hn)
  go_enter Try.func29, Try.ntmps29
  go_wp2_with fail
  go_region_with ((go_at_call 32; (refine (put2_any i _ _ _ _ (.int .u8 0) (.int .u8 0) (by omega) (by simp) (by simp) (by simp) (by simp)).mono ?_); rintro e w2 ⟨rfl, rfl⟩))
  all_goals
    obtain ⟨C2, hC2⟩ : ∃ C, C = ((Array.replicate 16 (Value.int .u8 0)).setIfInBounds 0 (.int .u8 ((i : Int) % 256))).setIfInBounds 1 (.int .u8 ((i : Int) / 256 % 256)) := ⟨_, rfl⟩
    rw [← hC2]
    have HC2 : Hid (C2 = ((cellsB [i % 256, i / 256 % 256]) ++ (cellsB (List.replicate 14 0))).toArray) := by
      show _ = _
      rw [hC2]; simp [cellsB]; rfl
    have HB1 : Hid (Below w.heap.size w (((w.alloc (.cells #[.int .i64 (i : Int), .string n] DEN)).alloc (.cells C2 U8)).drew)) := Lib.hid (HB.out.alloc HB.out.size (.cells C2 U8)).drew
    have hM : Blo (((w.alloc (.cells #[.int .i64 (i : Int), .string n] DEN)).alloc (.cells C2 U8)).drew) (w.heap.size + 1) U8 C2 := by
      have h := blo_laid (w.alloc (.cells #[.int .i64 (i : Int), .string n] DEN)) U8 C2
      rw [show (w.alloc (.cells #[.int .i64 (i : Int), .string n] DEN)).heap.size = w.heap.size + 1 by simp] at h
      exact h
    have hp : Blo (((w.alloc (.cells #[.int .i64 (i : Int), .string n] DEN)).alloc (.cells C2 U8)).drew) w.heap.size DEN #[.int .i64 (i : Int), .string n] := ((blo_laid w DEN #[.int .i64 (i : Int), .string n]).alloc (.cells C2 U8)).drew
    have x0 := hp.cell 1
    have hs16 : C2.size = 16 := by rw [hC2]; simp
    have hcp := run_copy_string (P := Try.prog) (((w.alloc (.cells #[.int .i64 (i : Int), .string n] DEN)).alloc (.cells C2 U8)).drew.drew) 26 9 3 U8 (w.heap.size + 1) 2 14 14 n Try.underlying26 size_u8w hn
      (fun j hj => by
        have := hM.drew.cell (2 + j)
        rw [this, Array.getElem?_eq_getElem (by omega)]; rfl) (fun j _ => hM.drew.frozen (2 + j))
    rw [nb_cells] at hcp
    have HM := Lib.hid hM
    clear hmk hC2 hs16 hM hp
    generalize ((w.alloc (.cells #[.int .i64 (i : Int), .string n] DEN)).alloc (.cells C2 U8)).drew = w2 at *
    go_wp2_with fail
    go_region
    all_goals
      go_wp2
      go_ret
      refine ⟨w.heap.size + 1, rfl, ?_, by omega, below_setCells (Nat.le_succ _) _ _ _ HB1.out.drew⟩
      have e := blo_setCells (cellsB (nb n)) 2 _ _ HM.out.drew
      rw [HC2.out, HBc.out] at e
      exact e
def AllGD (I : Nat → Int) (N : Nat → ByteArray) (k : Nat) : Prop := ∀ i, i < k → GoodD (I i) (N i)
def encDK (I : Nat → Int) (N : Nat → ByteArray) : Nat → List Nat
  | 0 => []
  | k + 1 => encDK I N k ++ encD (I k).toNat (N k)
theorem encDK_byte (I : Nat → Int) (N : Nat → ByteArray) : ∀ k, ∀ x ∈ encDK I N k, x < 256
  | 0, x, h => by cases h
  | k + 1, x, h => by
    rw [encDK] at h
    rcases List.mem_append.1 h with h | h
    · exact encDK_byte I N k x h
    · exact encD_byte _ _ x h
theorem encDK_len (I : Nat → Int) (N : Nat → ByteArray) : ∀ k, AllGD I N k → (encDK I N k).length = k * 16
  | 0, _ => rfl
  | k + 1, h => by
    rw [encDK, List.length_append, encDK_len I N k (fun i hi => h i (by omega)), encD_len (good_size (h k (by omega))).2.2]; omega
def RdDg (W : World) (g : Nat) (I : Nat → Int) (N : Nat → ByteArray) : Prop := ∀ i, i < 4 → W.cell? ⟨g, i * 2, none⟩ = some (.int .i64 (I i)) ∧ W.cell? ⟨g, i * 2 + 1, none⟩ = some (.string (N i))
theorem RdDg.later {W W' : World} {g : Nat} {I : Nat → Int} {N : Nat → ByteArray} (h : RdDg W g I N) (hb : Below W.heap.size W W') : RdDg W' g I N := fun i hi => ⟨cell_later hb (h i hi).1, cell_later hb (h i hi).2⟩
def FitD (I : Nat → Int) (N : Nat → ByteArray) : Prop := ∀ i, i < 4 → FitZ (I i) ∧ (N i).size ≤ maxLen
def DbO (w : World) (I : Nat → Int) (N : Nat → ByteArray) (e : Ending) (w' : World) : Prop :=
  (AllGD I N 4 ∧ (∃ a cap, e = .returned (.tuple #[.slice a 64 cap, .int .i64 0]) ∧ w'.ownsRow w.heap.size U8 1 (.slice a 64 cap) 64 (cellsB (encDK I N 4))) ∨ ¬ AllGD I N 4 ∧ e = .returned (.tuple #[.slice none 0 0, .int .i64 22])) ∧ Below w.heap.size w w'
def WdgR (w : World) (I : Nat → Int) (N : Nat → ByteArray) (v t : Value) (W : World) : Prop :=
  ∃ k : Nat, k ≤ 4 ∧ t = .int .i64 k ∧ AllGD I N k ∧ W.ownsRow w.heap.size U8 1 v (k * 16) (cellsB (encDK I N k)) ∧ Below w.heap.size w W
set_option maxRecDepth 100000 in
set_option maxHeartbeats 4000000 in
theorem write_dir (g : Nat) (I : Nat → Int) (N : Nat → ByteArray) (w : World) (hf : FitD I N) (h : RdDg w g I N) : Calls Try.prog 27 #[.slice (some ⟨g, 0, none⟩) 4 4, .func (.func 28) #[] #[], .func (.func 29) #[] #[]] w (DbO w I N) := by
  have H := Lib.hid h
  have HF := Lib.hid hf
  have hmk := run_make64 w
  have HSt : Hid (WdgR w I N (.slice (some ⟨w.heap.size, 0, none⟩) 0 64) (.int .i64 0) (w.alloc (.cells (Array.replicate 64 (.int .u8 0)) U8))) :=
    ⟨0, by decide, rfl, fun i hi => absurd hi (Nat.not_lt_zero i), World.ownsRow_made w _ 64 (Nat.le_refl _) (by decide) (by simp), sup_en w _⟩
  clear h hf
  go_enter Try.func27, Try.ntmps27
  go_wp2_with fail
  go_loopw [8, 15] (fun v t wr => WdgR w I N v t wr) (fun _ t _ => 4 - (intOf t).toNat)
  case atStart => exact HSt.out
  case round =>
    clear HSt hmk
    obtain ⟨k, hk, rfl, hG, hO, hB⟩ := hrel
    have k0 : (0 : Int) ≤ (k : Int) := by omega
    by_cases hlt : k < 4
    · have k1 : (k : Int) < 4 := by omega
      have HKn : Hid (k < 4) := hlt
      obtain ⟨e0, e1⟩ := (H.out.later hB) k hlt
      have HO := Lib.hid hO
      have HB := Lib.hid hB
      have HG := Lib.hid hG
      have hal := sup_en wr (.cells #[.int .i64 (I k), .string (N k)] DEN)
      have HE := Lib.hid (blo_laid wr DEN #[.int .i64 (I k), .string (N k)])
      have HO1 := Lib.hid (own_later HO.out hal)
      have HB1 := Lib.hid (HB.out.trans (hal.mono HB.out.size))
      have HCk := Lib.hid (check_dir (I k) (N k) (wr.alloc (.cells #[.int .i64 (I k), .string (N k)] DEN)) (HF.out k hlt).1 (HF.out k hlt).2)
      clear hO hB hG hlt hk hal
      go_wp2_with fail
      refine HCk.out.mono ?_
      rintro e w1 ⟨rfl, hb1⟩
      have HE2 := Lib.hid (HE.out.later hb1)
      have HO2 := Lib.hid (own_later HO1.out hb1)
      have HB2 := Lib.hid (HB1.out.trans (hb1.mono HB1.out.size))
      clear hb1 HE HO1 HB1 HO HB e0 e1 HCk
      generalize wr.heap.size = ge at *
      by_cases hg : GoodD (I k) (N k)
      · have HGk := Lib.hid hg
        have hc0 : chkD (I k) (N k) = 0 := if_pos hg
        rw [hc0]
        obtain ⟨a, ha⟩ : ∃ a : Nat, I k = (a : Int) := ⟨(I k).toNat, by have := (good_size hg).1; omega⟩
        have ha2 : a < 65536 := by have := (good_size hg).2.1; omega
        have hn2 := (good_size hg).2.2
        have HNx : Hid (encDK I N (k + 1) = encDK I N k ++ encD a (N k)) := by show _ = _; rw [encDK, ha]; rfl
        have HGn : Hid (AllGD I N (k + 1)) := fun i hi => by
          by_cases e : i = k
          · rw [e]; exact HGk.out
          · exact HG.out i (by omega)
        have HLe : Hid ((cellsB (encD a (N k))).length = 16 * 1) := by show _ = _; rw [cellsB_length, encD_len hn2]
        have hE := HE2.out
        rw [ha] at hE
        have x0 := hE.cell 0
        have x1 := hE.cell 1
        have HBt := Lib.hid (bytes_dir a (N k) ha2 hn2)
        simp at x0 x1
        clear hg hc0 hE HE2 HG hn2 ha2
        generalize N k = nk at *
        go_wp2_with fail
        refine (HBt.out _).mono ?_
        rintro e w2 ⟨g2, rfl, hE2, hg2, hb2⟩
        have HE3 := Lib.hid hE2
        have HO3 := Lib.hid (own_later HO2.out hb2)
        have HB3 := Lib.hid (HB2.out.trans (hb2.mono HB2.out.size))
        clear hb2 hE2 HO2 HB2 x0 x1 hg2 HBt
        go_wp2_with (at_builtin; refine wp_append_row rfl (.tmp 25) (.tmp 28) 26 rfl w.heap.size U8 (.int .u8 0) 1 1 Try.underlying26 info_u8 rfl (by decide) (by decide) _ (k * 16) (cellsB (encDK I N k)) rfl HO3.out (some ⟨g2, 0, none⟩) 16 16 (cellsB (encD a nk)) rfl HLe.out (fun ad e j u hj => by cases e; rw [Addr.add_lit]; show World.cell? _ ⟨g2, 0 + j, none⟩ = _; rw [Nat.zero_add, HE3.out.cell, List.getElem?_toArray]; exact hj) (cellsB_oneE _) (fun e => by cases e) (by have := HKn.out; omega) HB3.out.size ?_; intro a5 c5 w5 ho5 hg5; have HO5 := Lib.hid ho5; have HB5 := Lib.hid (HB3.out.grown hg5 HB3.out.size (fun q hq => (HO3.out.lt q hq).1)); clear ho5 hg5)
        go_roundw
        case rel =>
          refine ⟨k + 1, HKn.out, by simp, HGn.out, ?_, HB5.out⟩
          have e := HO5.out
          rw [HNx.out, ← cellsB_append, show (k + 1) * 16 = k * 16 + 16 by omega]
          exact e
        case measure => simp [intOf]; have := HKn.out; omega
      · have hc0 : chkD (I k) (N k) = 22 := if_neg hg
        rw [hc0]
        have HNo : Hid (¬ AllGD I N 4) := fun h => hg (h k HKn.out)
        clear hg hc0 HE2 HO2 HG
        go_wp2
        exact bodyPost_ret (v := .tuple #[.slice none 0 0, .int .i64 22]) (by simp [results, Try.results27, go_sem]) rfl ⟨.inr ⟨HNo.out, rfl⟩, HB2.out⟩
    · have k1 : ¬ (k : Int) < 4 := by omega
      obtain rfl : k = 4 := by omega
      have HO := Lib.hid hO
      have HB := Lib.hid hB
      have HG := Lib.hid hG
      clear hO hB hG
      obtain ⟨a, cap, rfl, _⟩ := own_slice HO.out
      go_wp2
      exact bodyPost_ret (v := .tuple #[.slice a 64 cap, .int .i64 0]) (by simp [results, Try.results27, go_sem]) rfl ⟨.inl ⟨HG.out, a, cap, rfl, HO.out⟩, HB.out⟩
def cells8 (I : Nat → Int) (N : Nat → ByteArray) : Array Value := #[.int .i64 (I 0), .string (N 0), .int .i64 (I 1), .string (N 1), .int .i64 (I 2), .string (N 2), .int .i64 (I 3), .string (N 3)]
theorem cells8_at (I : Nat → Int) (N : Nat → ByteArray) (i : Nat) (hi : i < 4) : (cells8 I N)[i * 2]? = some (.int .i64 (I i)) ∧ (cells8 I N)[i * 2 + 1]? = some (.string (N i)) := by
  have : i = 0 ∨ i = 1 ∨ i = 2 ∨ i = 3 := by omega
  rcases this with rfl | rfl | rfl | rfl <;> exact ⟨rfl, rfl⟩
theorem rdDg_blo {W : World} {g : Nat} {t : TypeId} {I : Nat → Int} {N : Nat → ByteArray} (h : Blo W g t (cells8 I N)) : RdDg W g I N := fun i hi => by
  obtain ⟨h1, h2⟩ := cells8_at I N i hi
  exact ⟨by rw [h.cell]; exact h1, by rw [h.cell]; exact h2⟩
theorem DbO.base {w w2 W : World} {I : Nat → Int} {N : Nat → ByteArray} {e : Ending} (h : DbO w2 I N e W) (hb : Below w.heap.size w w2) : DbO w I N e W := by
  obtain ⟨h1, h2⟩ := h
  refine ⟨h1.imp (fun ⟨ha, a, cap, he, ho⟩ => ⟨ha, a, cap, he, ho.1, ho.2.imp id (fun ⟨g, c, cur, q1, q2, q3⟩ => ⟨g, c, cur, q1, Nat.le_trans hb.size q2, q3⟩)⟩) id, hb.trans (h2.mono hb.size)⟩
set_option maxHeartbeats 2000000 in
theorem dirBlock_any (I : Nat → Int) (N : Nat → ByteArray) (w : World) (hf : FitD I N) : Calls Try.prog 14 #[.agg (cells8 I N)] w (DbO w I N) := by
  have HR := Lib.hid (rdDg_blo (blo_laid w A4D (cells8 I N)))
  have HB := Lib.hid (sup_en w (.cells (cells8 I N) A4D))
  have HW := Lib.hid (write_dir w.heap.size I N _ hf HR.out)
  have HP : Hid (∀ e W, DbO (w.alloc (.cells (cells8 I N) A4D)) I N e W → DbO w I N e W) := fun e W h => h.base HB.out
  clear hf
  generalize cells8 I N = cs at *
  go_enter Try.func14, Try.ntmps14
  go_wp2_with fail
  refine HW.out.mono ?_
  rintro e w1 hO
  have hO2 := HP.out _ _ hO
  clear hO HP HW
  obtain ⟨h1 | h1, hb⟩ := hO2
  · obtain ⟨ha, a, cap, rfl, ho⟩ := h1
    have HX := Lib.hid ha
    have HO := Lib.hid ho
    have HB1 := Lib.hid hb
    clear ha ho hb
    go_wp2
    exact bodyPost_ret (v := .tuple #[.slice a 64 cap, .int .i64 0]) (by simp [results, Try.results14, go_sem]) rfl ⟨.inl ⟨HX.out, a, cap, rfl, HO.out⟩, HB1.out⟩
  · obtain ⟨ha, rfl⟩ := h1
    have HX := Lib.hid ha
    have HB1 := Lib.hid hb
    clear ha hb
    go_wp2
    exact bodyPost_ret (v := .tuple #[.slice none 0 0, .int .i64 22]) (by simp [results, Try.results14, go_sem]) rfl ⟨.inr ⟨HX.out, rfl⟩, HB1.out⟩
end Go.Proofs.Ytagigeacjendiaa
