/-
  The walks of the functions of check sums, for any seat that holds them: a step by the table and by single bits, sums of bytes.
-/
import Derived.Test.YtfkobamemehkdaaDoorRows
import Derived.Test.YtfkobamemehkdaaDoorSumMath
import Derived.Test.YtfkobamemehkdaaDoorKit
namespace Go.Proofs.YtfkobamemehkdaaDoor
open Go.RowKit

/-- The table stands in its variable. -/
def Tab (w : World) : Prop := ∀ i, i < 16 → w.cell? ⟨0, i, none⟩ = some (.int .u32 (tab16.getD i 0 : Nat))
theorem wp_xor32 (a b : Nat) (ha : a < 4294967296) (hb : b < 4294967296) : bits .xor .u32 (a : Int) (b : Int) = ((a ^^^ b : Nat) : Int) := u32_xor_nat a b ha hb

theorem half_cast (n : Nat) : ((n : Int) / 2) = ((n / 2 : Nat) : Int) := by omega
theorem xor_lit (m k : Nat) (hm : m < 4294967296) (hk : k < 4294967296) : bits .xor .u32 (m : Int) (k : Int) = ((m ^^^ k : Nat) : Int) := u32_xor_nat m k hm hk
theorem xor_poly (m : Nat) (hm : m < 4294967296) : bits .xor .u32 ((m : Int) / 2) 3988292384 = ((m / 2 ^^^ 3988292384 : Nat) : Int) :=
  u32_xor_nat (m / 2) 3988292384 (by omega) (by omega)
theorem xor_ones (m : Nat) (hm : m < 4294967296) : bits .xor .u32 (m : Int) 4294967295 = ((m ^^^ 4294967295 : Nat) : Int) :=
  u32_xor_nat m 4294967295 hm (by omega)
theorem and15 (m : Nat) (hm : m < 4294967296) : bits .and .u32 (m : Int) 15 = ((m % 16 : Nat) : Int) := by
  have := u32_and_nat m 15 hm (by omega)
  rw [show m &&& 15 = m % 16 from Nat.and_two_pow_sub_one_eq_mod m 4] at this
  exact this
theorem xor_tab (m : Nat) (hm : m < 4294967296) : bits .xor .u32 ((tab16.getD (m % 16) 0 : Nat) : Int) ((m : Int) / 16) = ((nib m : Nat) : Int) :=
  u32_xor_nat (tab16.getD (m % 16) 0) (m / 16) (tab_lt _ (Nat.mod_lt _ (by decide))) (by omega)
set_option maxHeartbeats 400000 in
theorem step_any (c x : Nat) (w : World) (hc : c < 4294967296) (hx : x < 256) :
    Calls Tryd.prog 35 #[.int .u32 c, .int .u8 x] w fun e w' => e = .returned (.int .u32 (byteStep c x : Nat)) ∧ w = w' := by
  have h0 := u32_xor_nat c x hc (by omega)
  have hcx := xor_lt32 hc (by omega : x < 4294967296)
  unfold byteStep
  obtain ⟨n, hn⟩ : ∃ n, c ^^^ x = n := ⟨_, rfl⟩
  rw [hn] at hcx h0 ⊢
  clear hn
  go_enter Tryd.func35, Tryd.ntmps35
  go_wp2
  clear h0
  go_loop [0, 5] (fun t i => ∃ k : Nat, k ≤ 8 ∧ i = .int .i64 k ∧ t = .int .u32 (bitN k n : Nat)) (fun _ i => 8 - (intOf i).toNat)
  case atStart => exact ⟨0, by omega, rfl, rfl⟩
  case round =>
    obtain ⟨k, hk, rfl, rfl⟩ := hrel
    by_cases hlt : k < 8
    · have hb := bitN_lt k n hcx
      obtain ⟨m, hm⟩ : ∃ m, m = bitN k n := ⟨_, rfl⟩
      have hs : bitN (k + 1) n = bit1 m := by rw [hm]; rfl
      rw [← hm] at hb
      rw [← hm]
      have HM := Lib.hid hm
      have HS := Lib.hid hs
      clear hm hs hcx
      rcases Nat.mod_two_eq_zero_or_one m with h2 | h2
      · have h2' : ((m : Int) % 2) = 0 := by omega
        go_wp2
        go_round
        case rel => exact ⟨k + 1, by omega, by go_num, by rw [HS.out, bit1_even m h2]; go_num⟩
        case measure => simp [intOf]; omega
      · have h2' : ((m : Int) % 2) = 1 := by omega
        have hx := xor_poly m hb
        have H2 := Lib.hid h2
        clear h2
        go_wp2
        go_round
        case rel => exact ⟨k + 1, by omega, by go_num, by rw [HS.out, bit1_odd m H2.out]⟩
        case measure => simp [intOf]; omega
    · obtain rfl : k = 8 := by omega
      clear hlt
      go_wp2
      go_ret
      exact ⟨rfl, rfl⟩

set_option maxHeartbeats 400000 in
theorem turn_any (c x : Nat) (w : World) (hc : c < 4294967296) (hx : x < 256) (ht : Tab w) :
    Calls Tryd.prog 36 #[.int .u32 c, .int .u8 x] w fun e w' => e = .returned (.int .u32 (byteStep c x : Nat)) ∧ w = w' := by
  have h0 := u32_xor_nat c x hc (by omega)
  have hcx := xor_lt32 hc (by omega : x < 4294967296)
  unfold byteStep
  obtain ⟨n, hn⟩ : ∃ n, c ^^^ x = n := ⟨_, rfl⟩
  rw [hn] at hcx h0 ⊢
  clear hn
  go_enter Tryd.func36, Tryd.ntmps36
  go_wp2
  clear h0
  go_loop [0, 9] (fun t i => ∃ k m : Nat, k ≤ 2 ∧ i = .int .i64 k ∧ m < 4294967296 ∧ bitN (8 - 4 * k) m = bitN 8 n ∧ t = .int .u32 m) (fun _ i => 2 - (intOf i).toNat)
  case atStart => exact ⟨0, n, by omega, rfl, hcx, rfl, rfl⟩
  case round =>
    obtain ⟨k, m, hk, rfl, hm, hb, rfl⟩ := hrel
    have HB := Lib.hid hb
    clear hb
    by_cases hlt : k < 2
    · have hand := and15 m hm
      have hcell := ht (m % 16) (Nat.mod_lt _ (by decide))
      have hx := xor_tab m hm
      go_wp2
      go_round
      case rel => exact ⟨k + 1, nib m, by omega, by go_num, nib_lt m hm, nib_round k m n hlt HB.out, by rw [← List.getD_eq_getElem?_getD, xor_tab m hm]⟩
      case measure => simp [intOf]; omega
    · obtain rfl : k = 2 := by omega
      clear hlt
      go_wp2
      go_ret
      exact ⟨by rw [← HB.out]; rfl, rfl⟩

set_option maxHeartbeats 400000 in
theorem ref_sum_cells (l : List Nat) (b o cap : Nat) (w : World) (h1 : ∀ x ∈ l, x < 256) (h2 : l.length ≤ 9223372036854775807)
    (h3 : ∀ i, i < l.length → w.cell? ⟨b, o + i, none⟩ = some (.int .u8 (l.getD i 0 : Nat))) :
    Calls Tryd.prog 33 #[.slice (some ⟨b, o, none⟩) l.length cap] w fun e w' => e = .returned (.int .u32 (crc l : Nat)) ∧ w = w' := by
  go_enter Tryd.func33, Tryd.ntmps33
  go_wp2
  have H1 := Lib.hid h1
  have H3 := Lib.hid h3
  clear h1 h3
  go_loop [3, 4] (fun t i => ∃ k : Nat, k ≤ l.length ∧ i = .int .i64 k ∧ t = .int .u32 (crcFold 4294967295 (l.take k) : Nat)) (fun _ i => l.length - (intOf i).toNat)
  case atStart => exact ⟨0, by omega, rfl, rfl⟩
  case round =>
    obtain ⟨k, hk, rfl, rfl⟩ := hrel
    have hlt2 := crcFold_lt (l.take k) 4294967295 (by decide) (fun x hx => H1.out x (List.mem_of_mem_take hx))
    by_cases hlt : k < l.length
    · have hcell := H3.out k hlt
      have hx8 : l.getD k 0 < 256 := H1.out _ (by rw [List.getD_eq_getElem?_getD, List.getElem?_eq_getElem hlt]; exact List.getElem_mem hlt)
      have HS := Lib.hid (crcFold_take 4294967295 l k hlt)
      obtain ⟨c, hc⟩ : ∃ c, crcFold 4294967295 (l.take k) = c := ⟨_, rfl⟩
      obtain ⟨x, hx⟩ : ∃ x, l.getD k 0 = x := ⟨_, rfl⟩
      rw [hx] at hcell hx8 HS
      rw [hc] at hlt2 HS ⊢
      clear hc hx
      go_wp2_with (go_at_call 35; refine (step_any _ _ _ hlt2 hx8).mono ?_; rintro e w' ⟨rfl, rfl⟩)
      go_round
      case rel => exact ⟨k + 1, by omega, by go_num, by rw [HS.out]⟩
      case measure => simp [intOf]; omega
    · obtain rfl : k = l.length := by omega
      clear hlt
      have hxx := xor_ones _ hlt2
      rw [List.take_length] at hxx hlt2
      have e : crcFold 4294967295 l ^^^ 4294967295 = crc l := rfl
      rw [e] at hxx
      rw [List.take_length]
      clear e
      go_wp2
      go_ret
      exact ⟨rfl, rfl⟩

set_option maxHeartbeats 400000 in
theorem ref_sum_none (a : Option Addr) (cap : Nat) (w : World) :
    Calls Tryd.prog 33 #[.slice a 0 cap] w fun e w' => e = .returned (.int .u32 0) ∧ w = w' := by
  have hxx : bits .xor .u32 4294967295 4294967295 = 0 := by decide +kernel
  go_enter Tryd.func33, Tryd.ntmps33
  go_wp2
  refine wp_loop_rounds 1 ?_
  rw [rounds_succ]
  go_wp2
  go_ret
  exact ⟨rfl, rfl⟩
theorem ref_sum_any (l : List Nat) (a : Option Addr) (cap : Nat) (w : World) (h : Bytes w a l) :
    Calls Tryd.prog 33 #[.slice a l.length cap] w fun e w' => e = .returned (.int .u32 (crc l : Nat)) ∧ w = w' := by
  obtain ⟨h1, h2, h3⟩ := h
  by_cases hl : l = []
  · subst hl; exact ref_sum_none a cap w
  · obtain ⟨b, o, rfl, hc⟩ := h3 hl
    exact ref_sum_cells l b o cap w h1 h2 hc

theorem not32 (c : Nat) (hc : c < 4294967296) : bits .xor .u32 IntKind.u32.max (c : Int) = ((c ^^^ 4294967295 : Nat) : Int) := by
  have := u32_xor_nat 4294967295 c (by omega) hc
  rw [Nat.xor_comm] at this
  exact this
def moreN (c : Nat) (l : List Nat) : Nat := crcFold (c ^^^ 4294967295) l ^^^ 4294967295
theorem more_zero (l : List Nat) : moreN 0 l = crc l := by unfold moreN crc; rw [Nat.zero_xor]
theorem moreN_lt (c : Nat) (l : List Nat) (hc : c < 4294967296) (h : ∀ x ∈ l, x < 256) : moreN c l < 4294967296 :=
  xor_lt32 (crcFold_lt l _ (xor_lt32 hc (by decide)) h) (by decide)
theorem more_crc (l m : List Nat) : moreN (crc l) m = crc (l ++ m) := by
  unfold moreN crc
  rw [ones_twice, crcFold_append]
set_option maxHeartbeats 400000 in
theorem more_cells (c0 : Nat) (l : List Nat) (b o cap : Nat) (w : World) (hc : c0 < 4294967296) (h1 : ∀ x ∈ l, x < 256) (h2 : l.length ≤ 9223372036854775807) (ht : Tab w)
    (h3 : ∀ i, i < l.length → w.cell? ⟨b, o + i, none⟩ = some (.int .u8 (l.getD i 0 : Nat))) :
    Calls Tryd.prog 34 #[.int .u32 c0, .slice (some ⟨b, o, none⟩) l.length cap] w fun e w' => e = .returned (.int .u32 (moreN c0 l : Nat)) ∧ w = w' := by
  unfold moreN
  have hn := not32 c0 hc
  have hcx := xor_lt32 hc (by decide : 4294967295 < 4294967296)
  obtain ⟨c, hcc⟩ : ∃ c, c0 ^^^ 4294967295 = c := ⟨_, rfl⟩
  rw [hcc] at hcx hn ⊢
  clear hcc
  go_enter Tryd.func34, Tryd.ntmps34
  go_wp2
  clear hn
  have H1 := Lib.hid h1
  have H3 := Lib.hid h3
  clear h1 h3
  go_loop [5, 12] (fun t i => ∃ k : Nat, k ≤ l.length ∧ i = .int .i64 k ∧ t = .int .u32 (crcFold c (l.take k) : Nat)) (fun _ i => l.length - (intOf i).toNat)
  case atStart => exact ⟨0, by omega, rfl, rfl⟩
  case round =>
    obtain ⟨k, hk, rfl, rfl⟩ := hrel
    have hlt2 := crcFold_lt (l.take k) c hcx (fun x hx => H1.out x (List.mem_of_mem_take hx))
    by_cases hlt : k < l.length
    · have hcell := H3.out k hlt
      have hx8 : l.getD k 0 < 256 := getD_byte H1.out k
      have HS := Lib.hid (crcFold_take c l k hlt)
      obtain ⟨t, hc⟩ : ∃ t, crcFold c (l.take k) = t := ⟨_, rfl⟩
      obtain ⟨x, hx⟩ : ∃ x, l.getD k 0 = x := ⟨_, rfl⟩
      rw [hx] at hcell hx8 HS
      rw [hc] at hlt2 HS ⊢
      clear hc hx
      go_wp2_with (go_at_call 36; refine (turn_any _ _ _ hlt2 hx8 ht).mono ?_; rintro e w' ⟨rfl, rfl⟩)
      go_round
      case rel => exact ⟨k + 1, by omega, by go_num, by rw [HS.out]⟩
      case measure => simp [intOf]; omega
    · obtain rfl : k = l.length := by omega
      clear hlt
      rw [List.take_length] at hlt2 ⊢
      have hxx := not32 _ hlt2
      go_wp2
      go_ret
      exact ⟨rfl, rfl⟩
set_option maxHeartbeats 400000 in
theorem more_none (c : Nat) (a : Option Addr) (cap : Nat) (w : World) (hc : c < 4294967296) :
    Calls Tryd.prog 34 #[.int .u32 c, .slice a 0 cap] w fun e w' => e = .returned (.int .u32 c) ∧ w = w' := by
  have hn := not32 c hc
  have hm := not32 _ (xor_lt32 hc (by decide : 4294967295 < 4294967296))
  rw [ones_twice] at hm
  go_enter Tryd.func34, Tryd.ntmps34
  go_wp2
  refine wp_loop_rounds 1 ?_
  rw [rounds_succ]
  go_wp2
  go_ret
  exact ⟨rfl, rfl⟩
theorem more_any (c : Nat) (l : List Nat) (a : Option Addr) (cap : Nat) (w : World) (hc : c < 4294967296) (ht : Tab w) (h : Bytes w a l) :
    Calls Tryd.prog 34 #[.int .u32 c, .slice a l.length cap] w fun e w' => e = .returned (.int .u32 (moreN c l : Nat)) ∧ w = w' := by
  obtain ⟨h1, h2, h3⟩ := h
  by_cases hl : l = []
  · subst hl
    have e : moreN c [] = c := by unfold moreN; exact ones_twice c
    rw [e]
    exact more_none c a cap w hc
  · obtain ⟨b, o, rfl, hcell⟩ := h3 hl
    exact more_cells c l b o cap w hc h1 h2 ht hcell
set_option maxHeartbeats 400000 in
theorem sum_any (l : List Nat) (a : Option Addr) (cap : Nat) (w : World) (ht : Tab w) (h : Bytes w a l) :
    Calls Tryd.prog 31 #[.slice a l.length cap] w fun e w' => e = .returned (.int .u32 (crc l : Nat)) ∧ w = w' := by
  have hl := h.2.1
  have H := Lib.hid h
  clear h
  go_enter Tryd.func31, Tryd.ntmps31
  go_wp2_with (go_at_call 34; refine (more_any 0 l a cap _ (by decide) ht H.out).mono ?_; rintro e w' ⟨rfl, rfl⟩)
  go_ret
  exact ⟨by rw [more_zero]; rfl, rfl⟩

theorem Tab.below {w w' : World} {B : Nat} (h : Tab w) (hb : Below B w w') (hB : 0 < B) : Tab w' := fun i hi => (hb.cell (p := ⟨0, i, Option.none⟩) hB).trans (h i hi)
theorem sum_len (l : List Nat) (n : Nat) (hn : n = l.length) (a : Option Addr) (cap : Nat) (w : World) (ht : Tab w) (h : Bytes w a l) :
    Calls Tryd.prog 31 #[.slice a n cap] w fun e w' => e = .returned (.int .u32 (crc l : Nat)) ∧ w = w' := by
  subst hn; exact sum_any l a cap w ht h
theorem Tab.drewN {w : World} (h : Tab w) (q : Nat) : Tab (w.drewN q) := fun i hi => by rw [World.cell?_drewN]; exact h i hi
theorem more_len (c : Nat) (l : List Nat) (n : Nat) (hn : n = l.length) (a : Option Addr) (cap : Nat) (w : World) (hc : c < 4294967296) (ht : Tab w) (h : Bytes w a l) :
    Calls Tryd.prog 34 #[.int .u32 c, .slice a n cap] w fun e w' => e = .returned (.int .u32 (moreN c l : Nat)) ∧ w = w' := by
  subst hn; exact more_any c l a cap w hc ht h
theorem ref_len (l : List Nat) (n : Nat) (hn : n = l.length) (a : Option Addr) (cap : Nat) (w : World) (h : Bytes w a l) :
    Calls Tryd.prog 33 #[.slice a n cap] w fun e w' => e = .returned (.int .u32 (crc l : Nat)) ∧ w = w' := by
  subst hn; exact ref_sum_any l a cap w h
theorem info_u8 : (Tryd.prog.info? 5).map (fun i => (i.zero, i.size, i.bytes)) = some (some (.int .u8 0), 1, 1) := by kernel_rfl
theorem size_u8 (w : World) : (Go.sizeOf 5).run Tryd.prog w = .ok 1 w := by kernel_rfl
end Go.Proofs.YtfkobamemehkdaaDoor
