/-
  The walks of points: Encode.
-/
import Derived.Test.YtmkhliabmodbdaaPtPut
import Derived.Deep.RegionWith
namespace Go.Proofs.Ytmkhliabmodbdaa
open Go.RowKit

theorem L64_set (f : Nat → Nat) (k v : Nat) : (L64 f).set k v = L64 (fun j => if j = k then v else f j) := by
  unfold L64
  apply List.ext_getElem (by simp)
  intro j h1 h2
  rw [List.getElem_set]
  simp only [List.getElem_map, List.getElem_range]
  by_cases e : k = j
  · subst e; simp
  · rw [if_neg e, if_neg (fun h => e h.symm)]
/-- What is written behind k sectors. -/
def secB (e c k j : Nat) : Nat :=
  if j / 16 < k then (if j % 16 = 0 then e % 256 else if j % 16 = 1 then e / 256 else if j % 16 = 2 then c % 256 else if j % 16 = 3 then c / 256 else if j % 16 = 4 then j / 16 else 0) else 0
theorem sec_step (e c k : Nat) : ((((((L64 (secB e c k)).set (16 * k) (e % 256)).set (16 * k + 1) (e / 256)).set (16 * k + 2) (c % 256)).set (16 * k + 3) (c / 256)).set (16 * k + 4) k) = L64 (secB e c (k + 1)) := by
  rw [L64_set, L64_set, L64_set, L64_set, L64_set]
  refine L64_ext fun j hj => ?_
  unfold secB
  by_cases h : j / 16 = k
  · rw [if_pos (show j / 16 < k + 1 by omega), if_neg (show ¬ j / 16 < k by omega)]
    by_cases h0 : j % 16 = 0
    · rw [if_neg (by omega), if_neg (by omega), if_neg (by omega), if_neg (by omega), if_pos (by omega), if_pos h0]
    · by_cases h1 : j % 16 = 1
      · rw [if_neg (by omega), if_neg (by omega), if_neg (by omega), if_pos (by omega), if_neg h0, if_pos h1]
      · by_cases h2 : j % 16 = 2
        · rw [if_neg (by omega), if_neg (by omega), if_pos (by omega), if_neg h0, if_neg h1, if_pos h2]
        · by_cases h3 : j % 16 = 3
          · rw [if_neg (by omega), if_pos (by omega), if_neg h0, if_neg h1, if_neg h2, if_pos h3]
          · by_cases h4 : j % 16 = 4
            · rw [if_pos (by omega), if_neg h0, if_neg h1, if_neg h2, if_neg h3, if_pos h4]; exact h.symm
            · rw [if_neg (by omega), if_neg (by omega), if_neg (by omega), if_neg (by omega), if_neg (by omega), if_neg h0, if_neg h1, if_neg h2, if_neg h3, if_neg h4]
  · rw [if_neg (by omega), if_neg (by omega), if_neg (by omega), if_neg (by omega), if_neg (by omega)]
    by_cases h2 : j / 16 < k
    · rw [if_pos h2, if_pos (show j / 16 < k + 1 by omega)]
    · rw [if_neg h2, if_neg (show ¬ j / 16 < k + 1 by omega)]
theorem sec_zero (e c : Nat) : L64 (secB e c 0) = zeroB := by
  have : L64 (secB e c 0) = L64 (fun _ => 0) := L64_ext fun j _ => by unfold secB; rw [if_neg (by omega)]
  rw [this]
  decide +kernel
theorem sec_all (e c n f : Nat) : ((((L64 (secB e c 4)).set 5 (n % 256)).set 6 (n / 256)).set 7 (f % 256)).set 8 (f / 256) = L64 (encB e c n f) := by
  rw [L64_set, L64_set, L64_set, L64_set]
  refine L64_ext fun j hj => ?_
  unfold secB encB
  rw [if_pos (show j / 16 < 4 by omega)]
  by_cases h5 : j = 5
  · subst h5; rfl
  · by_cases h6 : j = 6
    · subst h6; rfl
    · by_cases h7 : j = 7
      · subst h7; rfl
      · by_cases h8 : j = 8
        · subst h8; rfl
        · rw [if_neg h8, if_neg h7, if_neg h6, if_neg h5, if_neg h5, if_neg h6, if_neg h7, if_neg h8]
def EncO (w : World) (l : List Nat) (e : Ending) (w' : World) : Prop :=
  ∃ g, e = .returned (.tuple #[.slice (some ⟨g, 0, none⟩) 64 64, .int .i64 0]) ∧ BBlk w' g l ∧ w.heap.size ≤ g ∧ Below w.heap.size w w'
theorem cut_l8 (g o n cap s : Nat) (hs : s < n) (hn : n ≤ cap) (hc : n ≤ 1000) (W : World) :
    (Instr.slice 36 (.slice (some ⟨g, o, none⟩) n cap) (some (.int .i64 (s : Int))) none none).run Try.prog W = .ok (.slice (some ⟨g, o + s, none⟩) (n - s) (cap - s)) W := by
  have ht' : Try.prog.underlying 36 = some (.slice (Try.prog.elem 36)) := by simp [Program.elem, Try.underlying36]
  have he : Try.prog.elem 36 = U8 := by simp [Program.elem, Try.underlying36]
  have e2 : ¬ cap = s := by omega
  rw [run_slice_l W 36 _ _ _ ht' .i64 _ (by omega) (by omega), he, size_u8w]
  simp [Result.andThen, sliced, Addr.add_lit, e2]
set_option maxHeartbeats 1000000 in
theorem encode_bad (e c n f : Int) (w : World) (h : ¬ Good4 ⟨e, c, n, f⟩) : Calls Try.prog 29 #[.agg #[.int .i64 e, .int .i64 c, .int .i64 n, .int .i64 f]] w fun e w' => e = .returned (.tuple #[.slice none 0 0, .int .i64 22]) ∧ Below w.heap.size w w' := by
  have HC := Lib.hid (fun W => check_no e c n f W h)
  have hb := sup_pt w (.cells #[.int .i64 e, .int .i64 c, .int .i64 n, .int .i64 f] PNT)
  have HB := Lib.hid hb
  clear h hb
  go_enter Try.func29, Try.ntmps29
  go_wp2_with fail
  refine (HC.out _).mono ?_
  rintro e w1 ⟨rfl, hb1⟩
  have HB1 := Lib.hid (HB.out.trans (hb1.mono HB.out.size))
  clear hb1
  go_wp2
  go_ret2
  exact ⟨rfl, HB1.out⟩
def EncR (w : World) (gb gx e c n f : Nat) (t : Value) (wr : World) : Prop :=
  ∃ k : Nat, k ≤ 4 ∧ t = .int .i64 k ∧ BBlk wr gx (L64 (secB e c k)) ∧ Blo wr gb PNT #[.int .i64 e, .int .i64 c, .int .i64 n, .int .i64 f] ∧ Below w.heap.size w wr
set_option maxRecDepth 100000 in
set_option maxHeartbeats 4000000 in
theorem encode_nat (e c n f : Nat) (w : World) (h : Good4 ⟨e, c, n, f⟩) : Calls Try.prog 29 #[.agg #[.int .i64 e, .int .i64 c, .int .i64 n, .int .i64 f]] w (EncO w (L64 (encB e c n f))) := by
  have HC := Lib.hid (fun W => check_yes e c n f W h)
  obtain ⟨h1, h2, h3, h4⟩ := h
  simp only at h1 h2 h3 h4
  have he : e < 65536 := by omega
  have hcc : c < 65536 := by omega
  have hn : n < 65536 := by omega
  have hf : f < 65536 := by omega
  have hb := sup_pt w (.cells #[.int .i64 e, .int .i64 c, .int .i64 n, .int .i64 f] PNT)
  have HB := Lib.hid hb
  have HG := Lib.hid (blo_laid w PNT #[.int .i64 e, .int .i64 c, .int .i64 n, .int .i64 f])
  have hmk := run_make64
  clear hb h1 h2 h3 h4
  go_enter Try.func29, Try.ntmps29
  go_wp2_with fail
  refine (HC.out _).mono ?_
  rintro e' w1 ⟨rfl, hb1⟩
  have HB1 := Lib.hid (HB.out.trans (hb1.mono HB.out.size))
  have HG1 := Lib.hid (HG.out.later hb1)
  clear hb1 HB HG HC
  go_wp2_with fail
  have hb2 := sup_pt w1 (.cells Z64 U8)
  have HGb : Hid (w.heap.size ≠ w1.heap.size) := by show w.heap.size ≠ w1.heap.size; have := HG1.out.lt; omega
  have HLow : Hid (w.heap.size ≤ w1.heap.size) := HB1.out.size
  have HSt : Hid (EncR w w.heap.size w1.heap.size e c n f (.int .i64 0) (w1.alloc (.cells Z64 U8))) := ⟨0, by omega, rfl, by rw [sec_zero]; exact bblk_zero w1, HG1.out.later hb2, HB1.out.trans (hb2.mono HB1.out.size)⟩
  clear hb2 HB1 HG1 hmk
  generalize w1.heap.size = gx at *
  go_loopw [14] (fun t wr => EncR w w.heap.size gx e c n f t wr) (fun t _ => 4 - (intOf t).toNat)
  case atStart => exact HSt.out
  case round =>
    clear HSt
    obtain ⟨k, hk, rfl, hX, hP, hb⟩ := hrel
    have HX := Lib.hid hX
    have HP := Lib.hid hP
    have HB := Lib.hid hb
    clear hX hP hb
    by_cases hlt : k < 4
    · have k0 : (0 : Int) ≤ (k : Int) := by omega
      have k1 : (k : Int) < 4 := by omega
      obtain ⟨s, hs⟩ : ∃ s, 16 * k = s := ⟨_, rfl⟩
      have hs48 : s ≤ 48 := by omega
      have e0 : (k : Int) * 16 = (s : Int) := by omega
      have hc0 := cut_l8 gx 0 64 64 s (by omega) (by omega) (by omega)
      have hc1 := cut_l8 gx s (64 - s) (64 - s) 0 (by omega) (by omega) (by omega)
      have hc2 := cut_l8 gx s (64 - s) (64 - s) 2 (by omega) (by omega) (by omega)
      simp only [Nat.zero_add, Nat.add_zero, Nat.sub_zero, Int.natCast_zero, Int.cast_ofNat_Int] at hc0 hc1 hc2
      have HS := Lib.hid hs
      clear hs
      have HP1 : Hid (∀ W, Below wr.heap.size wr W → Calls Try.prog 49 #[.slice (some ⟨gx, s, none⟩) (64 - s) (64 - s), .int .i64 (e : Int)] W fun e' w' => e' = .returned (.tuple #[]) ∧ BBlk w' gx (((L64 (secB e c k)).set s (e % 256)).set (s + 1) (e / 256)) ∧ Out (fun j => j = gx) W w') := fun W hb =>
        put_any e gx s (64 - s) (64 - s) _ W he (by omega) (by omega) (by omega) (HX.out.out (X := fun _ => False) (Out.of_below hb) (fun h => h))
      have HPc : Hid (∀ W, Below wr.heap.size wr W → W.cell? ⟨w.heap.size, 0, none⟩ = some (.int .i64 (e : Int))) := fun W hb => by simpa using (HP.out.later hb).cell 0
      have p0 := HPc.out wr.drew ((Below.refl _ _).drew)
      go_wp2_with fail
      go_region_with (go_at_call 49; (with_reducible refine (HP1.out _ ?_).mono ?_); (exact (Below.refl _ _).drew); rintro e' w3 ⟨rfl, hx3, ho3⟩; have HX3 := Lib.hid hx3; have HO3 := Lib.hid ((Out.of_below (X := fun j => j = gx) ((Below.refl wr.heap.size wr).drew)).trans ho3 (fun _ _ h => h)); clear hx3 ho3)
      have HPb3 := Lib.hid (HO3.out.blo HP.out HGb.out)
      have HB3 := Lib.hid (HB.out.trans (HO3.out.below HB.out.size (fun i _ h => by rw [h]; exact HLow.out)))
      clear p0 HPc HP1 HX HP HB HO3 hc1
      have HP2 : Hid (∀ W, Below w3.heap.size w3 W → Calls Try.prog 49 #[.slice (some ⟨gx, s + 2, none⟩) (64 - s - 2) (64 - s - 2), .int .i64 (c : Int)] W fun e' w' => e' = .returned (.tuple #[]) ∧ BBlk w' gx (((((L64 (secB e c k)).set s (e % 256)).set (s + 1) (e / 256)).set (s + 2) (c % 256)).set (s + 2 + 1) (c / 256)) ∧ Out (fun j => j = gx) W w') := fun W hb =>
        put_any c gx (s + 2) (64 - s - 2) (64 - s - 2) _ W hcc (by omega) (by omega) (by omega) (HX3.out.out (X := fun _ => False) (Out.of_below hb) (fun h => h))
      have p1 : w3.drew.cell? ⟨w.heap.size, 1, none⟩ = some (.int .i64 (c : Int)) := by simpa using (HPb3.out.later ((Below.refl _ _).drew)).cell 1
      go_wp2_with fail
      go_region_with (go_at_call 49; (with_reducible refine (HP2.out _ ?_).mono ?_); (exact (Below.refl _ _).drew); rintro e' w4 ⟨rfl, hx4, ho4⟩; have HX4 := Lib.hid hx4; have HO4 := Lib.hid ((Out.of_below (X := fun j => j = gx) ((Below.refl w3.heap.size w3).drew)).trans ho4 (fun _ _ h => h)); clear hx4 ho4)
      have HPb4 := Lib.hid (HO4.out.blo HPb3.out HGb.out)
      have HB4 := Lib.hid (HB3.out.trans (HO4.out.below HB3.out.size (fun i _ h => by rw [h]; exact HLow.out)))
      clear p1 HP2 HX3 HPb3 HB3 HO4 hc2 hc0
      have x4 := bcell HX4.out (k := s + 4) (by omega)
      have f4 := HX4.out.1.frozen (s + 4)
      have HX5 : Hid (BBlk (w4.setCell ⟨gx, s + 4, none⟩ (.int .u8 (k : Int))) gx (L64 (secB e c (k + 1)))) := by
        have h := bset HX4.out (s + 4) k (by omega)
        rw [← HS.out, sec_step e c k] at h
        rw [← HS.out]
        exact h
      have HO5 := Lib.hid (out_put (X := fun j => j = gx) w4 ⟨gx, s + 4, none⟩ (.int .u8 (k : Int)) rfl)
      have HPb5 := Lib.hid (HO5.out.blo HPb4.out HGb.out)
      have HB5 := Lib.hid (HB4.out.trans (HO5.out.below HB4.out.size (fun i _ h => by rw [h]; exact HLow.out)))
      have s4 : (4 : Int) < ((64 - s : Nat) : Int) := by omega
      clear e0 HX4 HPb4 HB4 HO5
      go_wp2_with fail
      clear x4 f4
      go_roundw
      case rel => exact ⟨k + 1, hlt, by simp, HX5.out, HPb5.out, HB5.out⟩
      case measure => simp [intOf]; omega
    · have hke : k = 4 := by omega
      subst hke
      have hc0 := cut_l8 gx 0 64 64 5 (by omega) (by omega) (by omega)
      have hc1 := cut_l8 gx 0 64 64 7 (by omega) (by omega) (by omega)
      simp only [Nat.zero_add, Int.cast_ofNat_Int] at hc0 hc1
      have HP1 : Hid (∀ W, Below wr.heap.size wr W → Calls Try.prog 49 #[.slice (some ⟨gx, 5, none⟩) (64 - 5) (64 - 5), .int .i64 (n : Int)] W fun e' w' => e' = .returned (.tuple #[]) ∧ BBlk w' gx (((L64 (secB e c 4)).set 5 (n % 256)).set 6 (n / 256)) ∧ Out (fun j => j = gx) W w') := fun W hb =>
        put_any n gx 5 (64 - 5) (64 - 5) _ W hn (by omega) (by omega) (by omega) (HX.out.out (X := fun _ => False) (Out.of_below hb) (fun h => h))
      have p0 : wr.drew.cell? ⟨w.heap.size, 2, none⟩ = some (.int .i64 (n : Int)) := by simpa using (HP.out.later ((Below.refl _ _).drew)).cell 2
      go_wp2_with fail
      go_region_with (go_at_call 49; (refine (HP1.out _ ?_).mono ?_); (exact (Below.refl _ _).drew); rintro e' w3 ⟨rfl, hx3, ho3⟩; have HX3 := Lib.hid hx3; have HO3 := Lib.hid ((Out.of_below (X := fun j => j = gx) ((Below.refl wr.heap.size wr).drew)).trans ho3 (fun _ _ h => h)); clear hx3 ho3)
      have HPb3 := Lib.hid (HO3.out.blo HP.out HGb.out)
      have HB3 := Lib.hid (HB.out.trans (HO3.out.below HB.out.size (fun i _ h => by rw [h]; exact HLow.out)))
      clear p0 HP1 HX HP HB HO3 hc0
      have HP2 : Hid (∀ W, Below w3.heap.size w3 W → Calls Try.prog 49 #[.slice (some ⟨gx, 7, none⟩) (64 - 7) (64 - 7), .int .i64 (f : Int)] W fun e' w' => e' = .returned (.tuple #[]) ∧ BBlk w' gx (L64 (encB e c n f)) ∧ Out (fun j => j = gx) W w') := fun W hb => by
        rw [← sec_all]
        exact put_any f gx 7 (64 - 7) (64 - 7) _ W hf (by omega) (by omega) (by omega) (HX3.out.out (X := fun _ => False) (Out.of_below hb) (fun h => h))
      have p1 : w3.drew.cell? ⟨w.heap.size, 3, none⟩ = some (.int .i64 (f : Int)) := by simpa using (HPb3.out.later ((Below.refl _ _).drew)).cell 3
      go_wp2_with fail
      go_region_with (go_at_call 49; (refine (HP2.out _ ?_).mono ?_); (exact (Below.refl _ _).drew); rintro e' w4 ⟨rfl, hx4, ho4⟩; have HX4 := Lib.hid hx4; have HO4 := Lib.hid ((Out.of_below (X := fun j => j = gx) ((Below.refl w3.heap.size w3).drew)).trans ho4 (fun _ _ h => h)); clear hx4 ho4)
      have HB4 := Lib.hid (HB3.out.trans (HO4.out.below HB3.out.size (fun i _ h => by rw [h]; exact HLow.out)))
      clear p1 HP2 HX3 HPb3 HB3 HO4 hc1
      go_wp2
      go_ret2
      exact ⟨gx, rfl, HX4.out, HLow.out, HB4.out⟩
theorem encode_good (p : Pt) (w : World) (h : Good4 p) : Calls Try.prog 29 #[.agg (ptA p)] w (EncO w (encP p)) := by
  obtain ⟨e, c, n, f⟩ := p
  have h' := h
  obtain ⟨h1, h2, h3, h4⟩ := h'
  simp only at h1 h2 h3 h4
  obtain ⟨e', rfl⟩ := Int.eq_ofNat_of_zero_le h1.1
  obtain ⟨c', rfl⟩ := Int.eq_ofNat_of_zero_le h2.1
  obtain ⟨n', rfl⟩ := Int.eq_ofNat_of_zero_le h3.1
  obtain ⟨f', rfl⟩ := Int.eq_ofNat_of_zero_le h4.1
  exact encode_nat e' c' n' f' w h
end Go.Proofs.Ytmkhliabmodbdaa
