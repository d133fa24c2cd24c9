/-
  A map entry: check, bytes.
-/
import Derived.Test.YtbacfbdeeogkgaaEnPut
import Derived.Test.YtbacfbdeeogkgaaRow
import Derived.Deep.DeepCutAuto
namespace Go.Proofs.Ytbacfbdeeogkgaa
open Go.RowKit

abbrev U8 := 5
abbrev MEN := 55
theorem sup_en (w : World) (o : Obj) : Below w.heap.size w (w.alloc o) := (Below.refl _ _).alloc (Nat.le_refl _) o
def GoodM (a v : Int) : Prop := 0 ≤ a ∧ a < 4096 ∧ 0 ≤ v ∧ v ≤ 65535
instance (a v : Int) : Decidable (GoodM a v) := by unfold GoodM; infer_instance
def chkM (a v : Int) : Int := if GoodM a v then 0 else 22
set_option maxHeartbeats 1000000 in
theorem check_map (a v : Int) (w : World) : Calls Try.prog 47 #[.agg #[.int .i64 a, .int .i64 v]] w fun e w' => e = .returned (.int .i64 (chkM a v)) ∧ Below w.heap.size w w' := by
  have HB := Lib.hid (sup_en w (.cells #[.int .i64 a, .int .i64 v] MEN))
  have HG : Hid (GoodM a v → chkM a v = 0) := fun h => if_pos h
  have HN : Hid (¬ GoodM a v → chkM a v = 22) := fun h => if_neg h
  generalize chkM a v = c at *
  by_cases h1 : a < 0
  · rw [HN.out (fun h => by have := h.1; omega)]
    go_enter Try.func47, Try.ntmps47
    go_wp2
    go_ret
    exact ⟨rfl, HB.out⟩
  · by_cases h2 : 4096 ≤ a
    · rw [HN.out (fun h => by have := h.2.1; omega)]
      go_enter Try.func47, Try.ntmps47
      go_wp2
      go_ret
      exact ⟨rfl, HB.out⟩
    · by_cases h3 : v < 0
      · rw [HN.out (fun h => by have := h.2.2.1; omega)]
        go_enter Try.func47, Try.ntmps47
        go_wp2
        go_ret
        exact ⟨rfl, HB.out⟩
      · by_cases h4 : 65535 < v
        · rw [HN.out (fun h => by have := h.2.2.2; omega)]
          go_enter Try.func47, Try.ntmps47
          go_wp2
          go_ret
          exact ⟨rfl, HB.out⟩
        · rw [HG.out ⟨by omega, by omega, by omega, by omega⟩]
          go_enter Try.func47, Try.ntmps47
          go_wp2
          go_ret
          exact ⟨rfl, HB.out⟩
/-- An entry's bytes. -/
def encM (a v : Nat) : List Nat := [a % 256, a / 256 % 256, a / 65536 % 256, a / 16777216 % 256, v % 256, v / 256 % 256, 0, 0]
def BytM (w : World) (a v : Nat) (e : Ending) (w' : World) : Prop := ∃ g, e = .returned (.slice (some ⟨g, 0, none⟩) 8 8) ∧ Blo w' g U8 (cellsB (encM a v)).toArray ∧ w.heap.size ≤ g ∧ Below w.heap.size w w'
theorem run_make8 : ∀ W : World, (Instr.makeSlice 24 (.int .i64 8) (.int .i64 8)).run Try.prog W = .ok (.slice (some ⟨W.heap.size, 0, none⟩) 8 8) (W.alloc (.cells #[.int .u8 0, .int .u8 0, .int .u8 0, .int .u8 0, .int .u8 0, .int .u8 0, .int .u8 0, .int .u8 0] U8)) := fun _ => by kernel_rfl
set_option maxHeartbeats 2000000 in
theorem bytes_map (a v : Nat) (ha : a < 4096) (hv : v < 65536) (w : World) : Calls Try.prog 48 #[.agg #[.int .i64 (a : Int), .int .i64 (v : Int)]] w (BytM w a v) := by
  have hmk := run_make8 (w.alloc (.cells #[.int .i64 (a : Int), .int .i64 (v : Int)] MEN))
  simp at hmk
  have HB := Lib.hid (((Below.refl w.heap.size w).alloc (Nat.le_refl _) (.cells #[.int .i64 (a : Int), .int .i64 (v : Int)] MEN)))
  go_enter Try.func48, Try.ntmps48
  go_wp2_with fail
  go_region_with ((go_at_call 52; (refine (put4_any a _ _ _ _ (.int .u8 0) (.int .u8 0) (.int .u8 0) (.int .u8 0) (by omega) (by simp) (by simp) (by simp) (by simp) (by simp) (by simp) (by simp) (by simp)).mono ?_); rintro e w2 ⟨rfl, rfl⟩))
  all_goals
    go_wp2_with fail
    go_region_with ((go_at_call 52; (refine (put2_any v _ _ _ _ (.int .u8 0) (.int .u8 0) (by omega) (by simp) (by simp) (by simp) (by simp)).mono ?_); rintro e w2 ⟨rfl, rfl⟩))
    all_goals
      go_wp2
      go_ret
      refine ⟨w.heap.size + 1, rfl, ?_, by omega, (HB.out.alloc HB.out.size _).drew.drew⟩
      have hcs : (cellsB (encM a v)).toArray = #[.int .u8 ((a : Int) % 256), .int .u8 ((a : Int) / 256 % 256), .int .u8 ((a : Int) / 65536 % 256), .int .u8 ((a : Int) / 16777216 % 256), .int .u8 ((v : Int) % 256), .int .u8 ((v : Int) / 256 % 256), .int .u8 0, .int .u8 0] := by simp [cellsB, encM]
      rw [hcs]
      have := blo_laid (w.alloc (.cells #[.int .i64 (a : Int), .int .i64 (v : Int)] MEN)) U8 #[.int .u8 ((a : Int) % 256), .int .u8 ((a : Int) / 256 % 256), .int .u8 ((a : Int) / 65536 % 256), .int .u8 ((a : Int) / 16777216 % 256), .int .u8 ((v : Int) % 256), .int .u8 ((v : Int) / 256 % 256), .int .u8 0, .int .u8 0]
      rw [show (w.alloc (.cells #[.int .i64 (a : Int), .int .i64 (v : Int)] MEN)).heap.size = w.heap.size + 1 by simp] at this
      exact this
/-- The bytes of the first entries. -/
def encK (A V : Nat → Int) : Nat → List Nat
  | 0 => []
  | k + 1 => encK A V k ++ encM (A k).toNat (V k).toNat
theorem encK_len (A V : Nat → Int) : ∀ k, (encK A V k).length = k * 8
  | 0 => rfl
  | k + 1 => by rw [encK, List.length_append, encK_len A V k]; simp [encM]; omega
theorem encM_byte (a v : Nat) : ∀ x ∈ encM a v, x < 256 := fun x hx => by
  simp [encM] at hx
  rcases hx with h | h | h | h | h | h | h <;> omega
theorem encK_byte (A V : Nat → Int) : ∀ k, ∀ x ∈ encK A V k, x < 256
  | 0, x, h => by cases h
  | k + 1, x, h => by
    rw [encK] at h
    rcases List.mem_append.1 h with h | h
    · exact encK_byte A V k x h
    · exact encM_byte _ _ x h
/-- Eight entries in memory. -/
theorem cellsB_oneE (l : List Nat) : ∀ u ∈ cellsB l, u.oneCell' = true := fun u hu => by
  unfold cellsB at hu
  obtain ⟨q, _, rfl⟩ := List.mem_map.1 hu
  rfl
def RdM (W : World) (g : Nat) (A V : Nat → Int) : Prop := ∀ i, i < 8 → W.cell? ⟨g, i * 2, none⟩ = some (.int .i64 (A i)) ∧ W.cell? ⟨g, i * 2 + 1, none⟩ = some (.int .i64 (V i))
theorem RdM.later {W W' : World} {g : Nat} {A V : Nat → Int} (h : RdM W g A V) (hb : Below W.heap.size W W') : RdM W' g A V := fun i hi => ⟨cell_later hb (h i hi).1, cell_later hb (h i hi).2⟩
def AllG (A V : Nat → Int) (k : Nat) : Prop := ∀ i, i < k → GoodM (A i) (V i)
/-- What writing them answers. -/
def MbO (w : World) (A V : Nat → Int) (e : Ending) (w' : World) : Prop :=
  (AllG A V 8 ∧ (∃ a cap, e = .returned (.tuple #[.slice a 64 cap, .int .i64 0]) ∧ w'.ownsRow w.heap.size U8 1 (.slice a 64 cap) 64 (cellsB (encK A V 8))) ∨ ¬ AllG A V 8 ∧ e = .returned (.tuple #[.slice none 0 0, .int .i64 22])) ∧ Below w.heap.size w w'
def WrR (w : World) (A V : Nat → Int) (v t : Value) (W : World) : Prop :=
  ∃ k : Nat, k ≤ 8 ∧ t = .int .i64 k ∧ AllG A V k ∧ W.ownsRow w.heap.size U8 1 v (k * 8) (cellsB (encK A V k)) ∧ Below w.heap.size w W
theorem info_u8 : (Try.prog.info? U8).map (fun i => (i.zero, i.size, i.bytes)) = some (some (.int .u8 0), 1, 1) := by kernel_rfl
theorem run_make64 : ∀ W : World, (Instr.makeSlice 24 (.int .i64 0) (.int .i64 64)).run Try.prog W = .ok (.slice (some ⟨W.heap.size, 0, none⟩) 0 64) (W.alloc (.cells (Array.replicate 64 (.int .u8 0)) U8)) := fun _ => by kernel_rfl
set_option maxRecDepth 100000 in
set_option maxHeartbeats 4000000 in
theorem write_map (g : Nat) (A V : Nat → Int) (w : World) (h : RdM w g A V) : Calls Try.prog 46 #[.slice (some ⟨g, 0, none⟩) 8 8, .func (.func 47) #[] #[], .func (.func 48) #[] #[]] w (MbO w A V) := by
  have H := Lib.hid h
  have hmk := run_make64 w
  have HSt : Hid (WrR w A V (.slice (some ⟨w.heap.size, 0, none⟩) 0 64) (.int .i64 0) (w.alloc (.cells (Array.replicate 64 (.int .u8 0)) U8))) :=
    ⟨0, by decide, rfl, fun i hi => absurd hi (Nat.not_lt_zero i), World.ownsRow_made w _ 64 (Nat.le_refl _) (by decide) (by simp), sup_en w _⟩
  clear h
  go_enter Try.func46, Try.ntmps46
  go_wp2_with fail
  go_loopw [8, 15] (fun v t wr => WrR w A V v t wr) (fun _ t _ => 8 - (intOf t).toNat)
  case atStart => exact HSt.out
  case round =>
    clear HSt hmk
    obtain ⟨k, hk, rfl, hG, hO, hB⟩ := hrel
    have k0 : (0 : Int) ≤ (k : Int) := by omega
    by_cases hlt : k < 8
    · have k1 : (k : Int) < 8 := by omega
      have HKn : Hid (k < 8) := hlt
      obtain ⟨e0, e1⟩ := (H.out.later hB) k hlt
      have HO := Lib.hid hO
      have HB := Lib.hid hB
      have HG := Lib.hid hG
      have hal := sup_en wr (.cells #[.int .i64 (A k), .int .i64 (V k)] MEN)
      have HE := Lib.hid (blo_laid wr MEN #[.int .i64 (A k), .int .i64 (V k)])
      have HO1 := Lib.hid (own_later HO.out hal)
      have HB1 := Lib.hid (HB.out.trans (hal.mono HB.out.size))
      clear hO hB hG hlt hk hal
      go_wp2_with fail
      refine (check_map _ _ _).mono ?_
      rintro e w1 ⟨rfl, hb1⟩
      have HE2 := Lib.hid (HE.out.later hb1)
      have HO2 := Lib.hid (own_later HO1.out hb1)
      have HB2 := Lib.hid (HB1.out.trans (hb1.mono HB1.out.size))
      clear hb1 HE HO1 HB1 HO HB e0 e1
      generalize wr.heap.size = ge at *
      by_cases hg : GoodM (A k) (V k)
      · have HGk := Lib.hid hg
        have hc0 : chkM (A k) (V k) = 0 := if_pos hg
        rw [hc0]
        obtain ⟨a, ha⟩ : ∃ a : Nat, A k = (a : Int) := ⟨(A k).toNat, by have := hg.1; omega⟩
        obtain ⟨v, hv⟩ : ∃ v : Nat, V k = (v : Int) := ⟨(V k).toNat, by have := hg.2.2.1; omega⟩
        have ha2 : a < 4096 := by have := hg.2.1; omega
        have hv2 : v < 65536 := by have := hg.2.2.2; omega
        have HNx : Hid (encK A V (k + 1) = encK A V k ++ encM a v) := by show _ = _; rw [encK, ha, hv]; rfl
        have HGn : Hid (AllG A V (k + 1)) := fun i hi => by
          by_cases e : i = k
          · rw [e]; exact HGk.out
          · exact HG.out i (by omega)
        have hE := HE2.out
        rw [ha, hv] at hE
        have x0 := hE.cell 0
        have x1 := hE.cell 1
        simp at x0 x1
        clear hg hc0 hE HE2 HG
        go_wp2_with fail
        refine (bytes_map a v ha2 hv2 _).mono ?_
        rintro e w2 ⟨g2, rfl, hE2, hg2, hb2⟩
        have HE3 := Lib.hid hE2
        have HO3 := Lib.hid (own_later HO2.out hb2)
        have HB3 := Lib.hid (HB2.out.trans (hb2.mono HB2.out.size))
        clear hb2 hE2 HO2 HB2 x0 x1 hg2
        go_wp2_with (at_builtin; refine wp_append_row rfl (.tmp 25) (.tmp 28) 24 rfl w.heap.size U8 (.int .u8 0) 1 1 Try.underlying24 info_u8 rfl (by decide) (by decide) _ (k * 8) (cellsB (encK A V k)) rfl HO3.out (some ⟨g2, 0, none⟩) 8 8 (cellsB (encM a v)) rfl (by rw [cellsB_length]; rfl) (fun ad e j u hj => by cases e; rw [Addr.add_lit]; show World.cell? _ ⟨g2, 0 + j, none⟩ = _; rw [Nat.zero_add, HE3.out.cell, List.getElem?_toArray]; exact hj) (cellsB_oneE _) (fun e => by cases e) (by have := HKn.out; omega) HB3.out.size ?_; intro a5 c5 w5 ho5 hg5; have HO5 := Lib.hid ho5; have HB5 := Lib.hid (HB3.out.grown hg5 HB3.out.size (fun q hq => (HO3.out.lt q hq).1)); clear ho5 hg5)
        go_roundw
        case rel =>
          refine ⟨k + 1, HKn.out, by simp, HGn.out, ?_, HB5.out⟩
          have e := HO5.out
          rw [HNx.out, ← cellsB_append, show (k + 1) * 8 = k * 8 + 8 by omega]
          exact e
        case measure => simp [intOf]; have := HKn.out; omega
      · have hc0 : chkM (A k) (V k) = 22 := if_neg hg
        rw [hc0]
        have HNo : Hid (¬ AllG A V 8) := fun h => hg (h k HKn.out)
        clear hg hc0 HE2 HO2 HG
        go_wp2
        exact bodyPost_ret (v := .tuple #[.slice none 0 0, .int .i64 22]) (by simp [results, Try.results46, go_sem]) rfl ⟨.inr ⟨HNo.out, rfl⟩, HB2.out⟩
    · have k1 : ¬ (k : Int) < 8 := by omega
      obtain rfl : k = 8 := by omega
      have HO := Lib.hid hO
      have HB := Lib.hid hB
      have HG := Lib.hid hG
      clear hO hB hG
      obtain ⟨a, cap, rfl, _⟩ := own_slice HO.out
      go_wp2
      exact bodyPost_ret (v := .tuple #[.slice a 64 cap, .int .i64 0]) (by simp [results, Try.results46, go_sem]) rfl ⟨.inl ⟨HG.out, a, cap, rfl, HO.out⟩, HB.out⟩
end Go.Proofs.Ytbacfbdeeogkgaa
