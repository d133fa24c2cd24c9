/-
  The disk's walks: tear.
-/
import Derived.Test.YtmkhliabmodbdaaDkRead
namespace Go.Proofs.Ytmkhliabmodbdaa
open Go.RowKit

/-- Sixty-four numbers, told by their place. -/
def L64 (f : Nat → Nat) : List Nat := (List.range 64).map f
theorem L64_length (f : Nat → Nat) : (L64 f).length = 64 := by simp [L64]
theorem L64_get (f : Nat → Nat) (j : Nat) (h : j < 64) : (L64 f).getD j 0 = f j := by
  rw [List.getD_eq_getElem?_getD, L64, List.getElem?_map, List.getElem?_range h]; rfl
theorem L64_ext {f g : Nat → Nat} (h : ∀ j, j < 64 → f j = g j) : L64 f = L64 g := by
  apply List.map_congr_left
  intro j hj
  exact h j (List.mem_range.1 hj)
theorem L64_of (l : List Nat) (h : l.length = 64) : L64 (fun j => l.getD j 0) = l := by
  apply List.ext_getElem (by rw [L64_length, h])
  intro j h1 h2
  simp [L64, List.getD_eq_getElem?_getD, List.getElem?_eq_getElem h2]
theorem L64_byte {f : Nat → Nat} (h : ∀ j, j < 64 → f j < 256) : ∀ x ∈ L64 f, x < 256 := fun x hx => by
  simp only [L64, List.mem_map, List.mem_range] at hx
  obtain ⟨j, hj, rfl⟩ := hx
  exact h j hj
theorem getD_b {l : List Nat} (h : ∀ x ∈ l, x < 256) (j : Nat) : l.getD j 0 < 256 := by
  rw [List.getD_eq_getElem?_getD]
  cases e : l[j]? with
  | none => simp
  | some x => exact h x (List.mem_of_getElem? e)
def bitS (sec : Int) (s : Nat) : Bool := decide ((sec / 2 ^ s) % 2 = 1)
theorem and_one (x : Int) : (bits .and .i64 x 1 == 1) = decide (x % 2 = 1) := by
  have h1 : bits .and .i64 x 1 = IntKind.i64.wrap ((((x % 18446744073709551616).toNat % 2 : Nat)) : Int) := by
    show IntKind.i64.wrap ((BitVec.ofInt 64 x &&& BitVec.ofInt 64 1).toNat : Int) = _
    rw [BitVec.toNat_and, BitVec.toNat_ofInt, BitVec.toNat_ofInt]
    have e1 : ((1 : Int) % ((2 ^ 64 : Nat) : Int)).toNat = 1 := by decide
    have e2 : (((2 ^ 64 : Nat) : Int)) = 18446744073709551616 := by decide
    rw [e1, Nat.and_one_is_mod, e2]
  have h2 : 0 ≤ x % 18446744073709551616 := Int.emod_nonneg _ (by decide)
  have h3 : (((x % 18446744073709551616).toNat % 2 : Nat) : Int) = x % 2 := by omega
  rw [h1, h3, IntWalk.i64_in _ (by omega)]
  by_cases c : x % 2 = 1
  · rw [c]; rfl
  · rw [decide_eq_false c, beq_eq_false_iff_ne]; exact c
theorem bitS_walk (sec : Int) (k : Nat) : (bits .and .i64 (sec / 2 ^ k) 1 == 1) = bitS sec k := and_one _
def tearK (k : Nat) (t f : List Nat) (sec : Int) : List Nat := L64 fun j => if j / 16 < k ∧ bitS sec (j / 16) = true then f.getD j 0 else t.getD j 0
theorem tearK_zero (t f : List Nat) (sec : Int) (ht : t.length = 64) : tearK 0 t f sec = t := by
  refine Eq.trans (L64_ext fun j hj => ?_) (L64_of t ht)
  rw [if_neg (by omega)]
theorem tearK_byte {t f : List Nat} (k : Nat) (sec : Int) (ht : ∀ x ∈ t, x < 256) (hf : ∀ x ∈ f, x < 256) : ∀ x ∈ tearK k t f sec, x < 256 :=
  L64_byte fun j _ => by split <;> exact getD_b (by assumption) j
theorem tearK_no (k : Nat) (t f : List Nat) (sec : Int) (h : bitS sec k = false) : tearK (k + 1) t f sec = tearK k t f sec :=
  L64_ext fun j _ => by
    by_cases e : j / 16 = k
    · rw [if_neg (by rw [e, h]; simp), if_neg (by omega)]
    · by_cases c : j / 16 < k ∧ bitS sec (j / 16) = true
      · rw [if_pos ⟨by omega, c.2⟩, if_pos c]
      · rw [if_neg (fun q => c ⟨by omega, q.2⟩), if_neg c]
def spl (t : List Nat) (off : Nat) (m : List Nat) : List Nat := L64 fun j => if off ≤ j ∧ j < off + m.length then m.getD (j - off) 0 else t.getD j 0
theorem tearK_yes (k : Nat) (t f : List Nat) (sec : Int) (hk : k < 4) (hf : f.length = 64) (h : bitS sec k = true) : spl (tearK k t f sec) (16 * k) ((f.drop (16 * k)).take 16) = tearK (k + 1) t f sec :=
  L64_ext fun j hj => by
    have hm : ((f.drop (16 * k)).take 16).length = 16 := by rw [List.length_take, List.length_drop]; omega
    rw [hm]
    unfold tearK
    rw [L64_get _ _ hj]
    by_cases e : j / 16 = k
    · have hx : ((f.drop (16 * k)).take 16).getD (j - 16 * k) 0 = f.getD j 0 := by
        rw [List.getD_eq_getElem?_getD, List.getD_eq_getElem?_getD, List.getElem?_take_of_lt (by omega), List.getElem?_drop, show 16 * k + (j - 16 * k) = j by omega]
      rw [if_pos (by omega), hx, if_pos ⟨by omega, by rw [e]; exact h⟩]
    · rw [if_neg (by omega)]
      by_cases c : j / 16 < k ∧ bitS sec (j / 16) = true
      · rw [if_pos c, if_pos ⟨by omega, c.2⟩]
      · rw [if_neg c, if_neg (fun q => c ⟨by omega, q.2⟩)]
section
variable {w w' : World} {g n i : Nat} {F : Nat → List Nat}
theorem Rw.part (h : Rw w g n F) (hi : i < n) (off : Nat) (m : List Nat) (hm : off + m.length ≤ 64) (hb : ∀ x ∈ m, x < 256) : Rw (w.setCells g (i * 64 + off) (cellsB m)) g n (updB F i (spl (F i) off m)) := by
  obtain ⟨⟨cs, h1, h2, h3⟩, h4, h5⟩ := h
  obtain ⟨cs', k1, k2, k3⟩ := blo_cells (cellsB m) (i * 64 + off) w cs h1
  refine ⟨⟨cs', k1, by rw [k2, h2], fun a ha j hj => ?_⟩, fun a => ?_, fun a x hx => ?_⟩
  · rw [k3, cellsB_length]
    by_cases e : a = i
    · subst e
      rw [updB_at, spl, L64_get _ _ hj]
      by_cases c : off ≤ j ∧ j < off + m.length
      · rw [if_pos ⟨by omega, by omega, by omega⟩, if_pos c, show a * 64 + j - (a * 64 + off) = j - off by omega, cellsB_get _ _ (by omega)]
      · rw [if_neg (by omega), if_neg c]
        exact h3 a ha j hj
    · rw [if_neg (by omega), updB_ne _ _ e]
      exact h3 a ha j hj
  · by_cases e : a = i
    · subst e; rw [updB_at]; exact L64_length _
    · rw [updB_ne _ _ e]; exact h4 a
  · by_cases e : a = i
    · subst e
      rw [updB_at] at hx
      exact L64_byte (fun j _ => by split; · exact getD_b hb _
                                    · exact getD_b (h5 a) _) x hx
    · rw [updB_ne _ _ e] at hx; exact h5 a x hx
theorem range_part {b o : Nat} {cs : List Value} (h : w.rangeAt b o cs) (p m : Nat) : w.rangeAt b (o + p) ((cs.drop p).take m) := fun j v hv => by
  have hj : j < m := by
    have := (List.getElem?_eq_some_iff.1 hv).1
    rw [List.length_take] at this; omega
  rw [List.getElem?_take_of_lt hj, List.getElem?_drop] at hv
  rw [Nat.add_assoc]
  exact h (p + j) v hv
theorem cellsB_part (l : List Nat) (p m : Nat) : ((cellsB l).drop p).take m = cellsB ((l.drop p).take m) := by simp [cellsB, List.map_drop, List.map_take]
theorem len_blk : Try.prog.arrayLen BLK = 64 := by kernel_rfl
theorem elem_blk : Try.prog.elem BLK = U8 := by kernel_rfl
theorem size_u8w (W : World) : (Go.sizeOf U8).run Try.prog W = .ok 1 W := by kernel_rfl
theorem under_blk : Try.prog.underlying BLK = some (.array (Try.prog.arrayLen BLK) (Try.prog.elem BLK)) := by rw [len_blk, elem_blk]; exact Try.underlying89
theorem cutA_lh (g o s e : Nat) (hse : s ≤ e) (he : e ≤ 64) (hs : s < 64) (W : World) :
    (Instr.sliceAt BLK (.pointer (some ⟨g, o, none⟩)) (some (.int .i64 (s : Int))) (some (.int .i64 (e : Int))) none).run Try.prog W = .ok (.slice (some ⟨g, o + s, none⟩) (e - s) (64 - s)) W := by
  rw [run_sliceAt_array_lh W BLK _ under_blk .i64 .i64 _ _ (by omega) (by omega) (by rw [len_blk]; omega), elem_blk, size_u8w, len_blk]
  have e2 : ¬ 64 = s := by omega
  simp [Result.andThen, slicedAt, Addr.add_lit, e2]
theorem cutA_l (g o s : Nat) (hs : s < 64) (W : World) :
    (Instr.sliceAt BLK (.pointer (some ⟨g, o, none⟩)) (some (.int .i64 (s : Int))) none none).run Try.prog W = .ok (.slice (some ⟨g, o + s, none⟩) (64 - s) (64 - s)) W := by
  rw [run_sliceAt_array_l W BLK _ under_blk .i64 _ (by omega) (by rw [len_blk]; omega), elem_blk, size_u8w, len_blk]
  have e2 : ¬ 64 = s := by omega
  simp [Result.andThen, slicedAt, Addr.add_lit, e2]
theorem _root_.Go.World.rangeAt.out2 {b o : Nat} {cs : List Value} {X : Nat → Prop} (h : w.rangeAt b o cs) (ho : Out X w w') (hb : b < w.heap.size) (hx : ¬ X b) : w'.rangeAt b o cs := fun j v hv => ho.cell (h j v hv) hx
def TearR (w : World) (g n i gx : Nat) (F : Nat → List Nat) (f : List Nat) (sec : Int) (t : Value) (wr : World) : Prop :=
  ∃ k : Nat, k ≤ 4 ∧ t = .int .i64 k ∧ Rw wr g n (updB F i (tearK k (F i) f sec)) ∧ Out (fun j => j = g) w wr
set_option maxRecDepth 100000 in
set_option maxHeartbeats 2000000 in
theorem tear_any (h : Rw w g n F) (hi : i < n) (hn : n ≤ 5000) (gx : Nat) (f : List Nat) (sec : Int) (hx : w.rangeAt gx 1 (cellsB f)) (hxl : gx < w.heap.size) (hf : f.length = 64) (hfb : ∀ x ∈ f, x < 256) (hne : gx ≠ g) :
    Calls Try.prog 41 #[.pointer (some ⟨g, i * 64, none⟩), .pointer (some ⟨gx, 1, none⟩), .int .i64 sec] w fun e w' => e = .returned (.tuple #[]) ∧ Rw w' g n (updB F i (tearK 4 (F i) f sec)) ∧ Out (fun j => j = g) w w' := by
  have HSt : Hid (TearR w g n i gx F f sec (.int .i64 0) w) := ⟨0, by omega, rfl, by
    rw [tearK_zero _ _ _ (h.len i)]
    have : updB F i (F i) = F := by funext j; unfold updB; split <;> simp_all
    rw [this]; exact h, Out.refl _ _⟩
  have HX := Lib.hid hx
  have HFl := Lib.hid hf
  clear h hx hf
  go_enter Try.func41, Try.ntmps41
  go_wp2_with fail
  go_loopw [7] (fun t wr => TearR w g n i gx F f sec t wr) (fun t _ => 4 - (intOf t).toNat)
  case atStart => exact HSt.out
  case round =>
    clear HSt
    obtain ⟨k, hk, rfl, hR, hO⟩ := hrel
    by_cases hlt : k < 4
    · have HR := Lib.hid hR
      have HO := Lib.hid hO
      clear hR hO
      have k0 : (0 : Int) ≤ (k : Int) := by omega
      have k1 : (k : Int) < 4 := by omega
      have htest := bitS_walk sec k
      cases hb : bitS sec k with
      | false =>
        rw [hb] at htest
        have HRk : Hid (Rw wr g n (updB F i (tearK (k + 1) (F i) f sec))) := by rw [tearK_no _ _ _ _ hb]; exact HR.out
        clear hb HR
        go_wp2
        go_roundw
        case rel => exact ⟨k + 1, hlt, by simp, HRk.out, HO.out⟩
        case measure => simp [intOf]; omega
      | true =>
        rw [hb] at htest
        obtain ⟨s, hs⟩ : ∃ s, 16 * k = s := ⟨_, rfl⟩
        obtain ⟨t, ht⟩ : ∃ t, s + 16 = t := ⟨_, rfl⟩
        have hs48 : s ≤ 48 := by omega
        have HRk : Hid (∀ W, Rw W g n (updB F i (tearK k (F i) f sec)) → Rw (W.setCells g (i * 64 + s) (cellsB ((f.drop s).take 16))) g n (updB F i (tearK (k + 1) (F i) f sec))) := fun W hW => by
          have h1 := hW.part hi s ((f.drop s).take 16) (by rw [List.length_take]; omega) (fun x hx => hfb x (List.mem_of_mem_drop (List.mem_of_mem_take hx)))
          rw [updB_at] at h1
          have h2 := tearK_yes k (F i) f sec hlt HFl.out hb
          rw [hs] at h2
          rw [h2] at h1
          have h3 : updB (updB F i (tearK k (F i) f sec)) i (tearK (k + 1) (F i) f sec) = updB F i (tearK (k + 1) (F i) f sec) := by
            funext j; unfold updB; split <;> rfl
          rw [h3] at h1
          exact h1
        have HM : Hid (((f.drop s).take 16).length = 16) := by
          show ((f.drop s).take 16).length = 16
          rw [List.length_take, List.length_drop, HFl.out]; omega
        have hc1 := fun W => cutA_lh g (i * 64) s t (by omega) (by omega) (by omega) W
        have hc2 := fun W => cutA_l gx 1 s (by omega) W
        have HXr := Lib.hid ((HX.out).out2 HO.out hxl hne)
        have HTh := Lib.hid (HR.out.there hi)
        have HN1 : Hid ((cellsB ((f.drop s).take 16)).length = Nat.min (64 - s) (t - s) * 1) := by
          show (cellsB ((f.drop s).take 16)).length = min (64 - s) (t - s) * 1
          rw [cellsB_length, HM.out]; omega
        have HT1 : Hid (wr.drew.there g (i * 64 + s) (cellsB ((f.drop s).take 16)).length) := by
          show wr.drew.there g (i * 64 + s) (cellsB ((f.drop s).take 16)).length
          rw [cellsB_length, HM.out]
          exact (World.there_drew _ _ _ _).2 (fun j hj => by rw [Nat.add_assoc]; exact HTh.out (s + j) (by omega))
        have HS1 := Lib.hid (range_src (w := wr.drew) (b := gx) (o := 1 + s) (cs := cellsB ((f.drop s).take 16)) ((World.rangeAt_drew _ _ _ _).2 (by rw [← cellsB_part]; exact range_part HXr.out s 16)))
        have e0 : IntKind.i64.wrap ((k : Int) * 16) = (s : Int) := by rw [IntWalk.i64_in _ (by omega)]; omega
        have e1 : IntKind.i64.wrap ((k : Int) + 1) = (k : Int) + 1 := IntWalk.i64_in _ (by omega)
        have e2 : IntKind.i64.wrap (((k : Int) + 1) * 16) = (t : Int) := by rw [IntWalk.i64_in _ (by omega)]; omega
        have ets : t - s = 16 := by omega
        have ETS := Lib.hid ets
        clear hb hs ht ets
        go_wp2_with fail
        go_region_law (refine step_copy_many (by rfl) (.tmp 22) (.tmp 27) 36 36 (by rfl) U8 1 Try.underlying36 size_u8d g (i * 64 + s) (t - s) (64 - s) ⟨gx, 1 + s, none⟩ (64 - s) (64 - s) (by simp [go_sem]) (by simp [go_sem]) (cellsB ((f.drop s).take 16)) HN1.out HS1.out HT1.out (cellsB_one _) ?_)
        clear e0 e1 e2 hc1 hc2
        have HR2 := Lib.hid (HRk.out _ (HR.out.later ((Below.refl _ _).drew)))
        have HO2 := Lib.hid ((HO.out.trans (Out.of_below (X := fun j => j = g) ((Below.refl wr.heap.size wr).drew)) (fun _ _ h => h)).trans (out_cells (X := fun j => j = g) (cellsB ((f.drop s).take 16)) (i * 64 + s) wr.drew rfl) (fun _ _ h => h))
        clear HRk HR HO HXr HTh
        go_wp2_with fail
        go_roundw
        case rel => exact ⟨k + 1, hlt, by simp, HR2.out, HO2.out⟩
        case measure => simp [intOf]; omega
    · have hke : k = 4 := by omega
      subst hke
      have HR := Lib.hid hR
      have HO := Lib.hid hO
      clear hR hO
      go_wp2
      go_end0
      exact ⟨rfl, HR.out, HO.out⟩
end
end Go.Proofs.Ytmkhliabmodbdaa
