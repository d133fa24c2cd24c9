/-
  The walk of SumOpens: what Open tells of any bytes.
-/
import Derived.Test.YtpgddaipbonjjaaDoorSumOpen
namespace Go.Proofs.YtpgddaipbonjjaaDoor
open Go.RowKit

theorem own_facts {w : World} {base n cap : Nat} {e : TypeId} {a : Option Addr} {l : List Nat} (h : w.ownsRow base e 1 (.slice a n cap) n (cellsB l)) : (a = none → l = [] ∧ cap = 0) ∧ n ≤ cap := by
  have hlen : n = l.length := by have := h.1; rw [cellsB_length, Nat.mul_one] at this; exact this.symm
  rcases h.2 with ⟨h1, h0⟩ | ⟨g, c, cur, h1, _, _, h2, _⟩
  · cases h1
    exact ⟨fun _ => ⟨List.eq_nil_of_length_eq_zero (by omega), rfl⟩, by omega⟩
  · cases h1
    exact ⟨(fun h => by cases h), h2⟩
theorem str_nil (W : World) : (convert 22 9 (.slice none 0 0)).run Tryd.prog W = .ok (.string (strOf [])) W :=
  run_str W 22 9 5 Tryd.underlying22 Tryd.underlying5 Tryd.underlying9 [] none 0 0 rfl (Bytes.none _ _)
/-- What stands behind the copy of the bytes. -/
structure Copied (w w2 : World) (a' : Option Addr) (l : List Nat) (n cap' : Nat) : Prop where
  bytes : Bytes w2 a' l
  nil : a' = none → l = [] ∧ cap' = 0
  cap : n ≤ cap'
  below : Below w.heap.size w w2
theorem copied_of {w w1 w2 : World} {a' : Option Addr} {l : List Nat} {n cap' : Nat} {b0 : Option Nat} (hb1 : Below w.heap.size w w1) (hn : n = l.length) (hown : w2.ownsRow w1.heap.size 5 1 (.slice a' (0 + n) cap') (0 + n) (cellsB ([] ++ l)))
    (o : Obj) (hgr : (w1.alloc o).grownBy w2 b0) (hb0 : ∀ k, b0 = some k → w1.heap.size ≤ k) (hB : Bytes w2 a' ([] ++ l)) : Copied w w2 a' l n cap' := by
  rw [List.nil_append] at hB hown
  rw [Nat.zero_add] at hown
  have hz := hb1.size
  exact ⟨hB, (own_facts hown).1, (own_facts hown).2, (hb1.alloc hz o).grown hgr (by simp; omega) (fun k hk => Nat.le_trans hz (hb0 k hk))⟩

set_option maxHeartbeats 400000 in
theorem sumOpens_long (n : Nat) (a : Option Addr) (cap : Nat) (w : World) (hlen : 5000 < n) (hn : n ≤ 9223372036854775807) (ht : Tab w) (hz : 0 < w.heap.size) :
    Calls Tryd.prog 6 #[.slice a n cap] w fun e w' => e = .returned (.bool true) ∧ Below w.heap.size w w' := by
  have HT := Lib.hid ht
  clear ht
  go_enter Tryd.func6, Tryd.ntmps6
  go_wp2_with fail
  refine (awake_any _ HT.out hz).mono ?_
  rintro e w1 ⟨rfl, hb1⟩
  go_wp2_with fail
  refine (awake_any _ (HT.out.below hb1 hz) (by have := hb1.size; omega)).mono ?_
  rintro e w2 ⟨rfl, hb2⟩
  have hb3 : Below w.heap.size w w2 := hb1.trans (hb2.mono hb1.size)
  go_wp2
  go_ret
  exact ⟨rfl, hb3⟩
set_option maxHeartbeats 800000 in
theorem sumOpens_few (l : List Nat) (n : Nat) (hn : n = l.length) (a : Option Addr) (cap : Nat) (w : World) (hlen : n < 4) (ht : Tab w) (hz : 0 < w.heap.size) (h : Bytes w a l) (ha : a = none → l = [] ∧ cap = 0) :
    Calls Tryd.prog 6 #[.slice a n cap] w fun e w' => e = .returned (.bool true) ∧ Below w.heap.size w w' := by
  have H := Lib.hid h
  have HT := Lib.hid ht
  have HA := Lib.hid ha
  have HN := Lib.hid hn
  have sn := str_nil
  clear h ht ha hn
  go_enter Tryd.func6, Tryd.ntmps6
  go_wp2_with fail
  refine (awake_any _ HT.out hz).mono ?_
  rintro e w1 ⟨rfl, hb1⟩
  have HB1 := Lib.hid hb1
  have H1 := Lib.hid (H.out.below hb1)
  clear hb1
  go_wp2_with (at_builtin; refine wp_append_bytes rfl (.tmp 16) (.tmp 17) 22 rfl w1.heap.size 5 Tryd.underlying22 info_u8 _ 0 [] rfl (World.ownsRow_lit w1 #[] 0 (Nat.le_refl _) (by unfold maxLen; omega) rfl) (by simp) a n cap l rfl HN.out (H1.out.below ((Below.refl _ _).alloc (Nat.le_refl _) _)) HA.out (by omega) (by simp) ?_; intro a' cap' w2 hown hgr hB hn; have HC := Lib.hid (copied_of HB1.out HN.out hown _ hgr (fun k hk => by cases hk; exact Nat.le_refl _) hB); clear hown hgr hB hn)
  refine (open_few n hlen a' cap' _).mono ?_
  rintro e w' ⟨rfl, rfl⟩
  go_wp2_with fail
  refine (refOpen_few l n hlen a cap _).mono ?_
  rintro e w' ⟨rfl, rfl⟩
  go_wp2
  go_ret
  exact ⟨rfl, HC.out.below⟩
set_option maxHeartbeats 800000 in
theorem sumOpens_bad (l : List Nat) (n k : Nat) (hn : n = l.length) (hk : n = k + 4) (a : Option Addr) (cap : Nat) (hc : n ≤ cap) (w : World) (hlen : n ≤ 5000) (ht : Tab w) (hz : 0 < w.heap.size) (h : Bytes w a l) (ha : a = none → l = [] ∧ cap = 0) (hs : sealN (l.take k) ≠ l) :
    Calls Tryd.prog 6 #[.slice a n cap] w fun e w' => e = .returned (.bool true) ∧ Below w.heap.size w w' := by
  have H := Lib.hid h
  have HT := Lib.hid ht
  have HA := Lib.hid ha
  have HN := Lib.hid hn
  have HK := Lib.hid hk
  have HS := Lib.hid hs
  have sn := str_nil
  clear h ht ha hn hk hs
  go_enter Tryd.func6, Tryd.ntmps6
  go_wp2_with fail
  refine (awake_any _ HT.out hz).mono ?_
  rintro e w1 ⟨rfl, hb1⟩
  have HB1 := Lib.hid hb1
  have H1 := Lib.hid (H.out.below hb1)
  clear hb1
  go_wp2_with (at_builtin; refine wp_append_bytes rfl (.tmp 16) (.tmp 17) 22 rfl w1.heap.size 5 Tryd.underlying22 info_u8 _ 0 [] rfl (World.ownsRow_lit w1 #[] 0 (Nat.le_refl _) (by unfold maxLen; omega) rfl) (by simp) a n cap l rfl HN.out (H1.out.below ((Below.refl _ _).alloc (Nat.le_refl _) _)) HA.out (by omega) (by simp) ?_; intro a' cap' w2 hown hgr hB hn; have HC := Lib.hid (copied_of HB1.out HN.out hown _ hgr (fun k hk => by cases hk; exact Nat.le_refl _) hB); clear hown hgr hB hn)
  refine (open_bad l n k HN.out HK.out (by omega) a' cap' HC.out.cap _ (HT.out.below HC.out.below hz) HC.out.bytes HC.out.nil HS.out).mono ?_
  rintro e w3 ⟨rfl, hb3⟩
  have HB3 : Hid (Below w.heap.size w w3) := HC.out.below.trans (hb3.mono HC.out.below.size)
  clear hb3
  go_wp2_with fail
  refine (refOpen_bad l n k HN.out HK.out (by omega) a cap hc _ (H.out.below HB3.out) HA.out HS.out).mono ?_
  rintro e w4 ⟨rfl, hb4⟩
  have HB4 : Hid (Below w.heap.size w w4) := HB3.out.trans (hb4.mono HB3.out.size)
  clear hb4
  go_wp2
  go_ret
  exact ⟨rfl, HB4.out⟩
set_option maxHeartbeats 800000 in
theorem sumOpens_good (l : List Nat) (n k : Nat) (hn : n = l.length) (hk : n = k + 4) (a : Option Addr) (cap : Nat) (hc : n ≤ cap) (w : World) (hlen : n ≤ 5000) (ht : Tab w) (hz : 0 < w.heap.size) (h : Bytes w a l) (ha : a = none → l = [] ∧ cap = 0) (hs : sealN (l.take k) = l) :
    Calls Tryd.prog 6 #[.slice a n cap] w fun e w' => e = .returned (.bool true) ∧ Below w.heap.size w w' := by
  have H := Lib.hid h
  have HT := Lib.hid ht
  have HA := Lib.hid ha
  have HN := Lib.hid hn
  have HK := Lib.hid hk
  have HS := Lib.hid hs
  have HTk : Hid (∀ x ∈ l.take k, x < 256) := fun x hx => h.1 x (List.mem_of_mem_take hx)
  have HKl : Hid (k = (l.take k).length) := by show _ = _; simp; omega
  clear h ht ha hn hk hs
  go_enter Tryd.func6, Tryd.ntmps6
  go_wp2_with fail
  refine (awake_any _ HT.out hz).mono ?_
  rintro e w1 ⟨rfl, hb1⟩
  have HB1 := Lib.hid hb1
  have H1 := Lib.hid (H.out.below hb1)
  clear hb1
  go_wp2_with (at_builtin; refine wp_append_bytes rfl (.tmp 16) (.tmp 17) 22 rfl w1.heap.size 5 Tryd.underlying22 info_u8 _ 0 [] rfl (World.ownsRow_lit w1 #[] 0 (Nat.le_refl _) (by unfold maxLen; omega) rfl) (by simp) a n cap l rfl HN.out (H1.out.below ((Below.refl _ _).alloc (Nat.le_refl _) _)) HA.out (by omega) (by simp) ?_; intro a' cap' w2 hown hgr hB hn; have HC := Lib.hid (copied_of HB1.out HN.out hown _ hgr (fun k hk => by cases hk; exact Nat.le_refl _) hB); clear hown hgr hB hn)
  refine (open_good l n k HN.out HK.out (by omega) a' cap' HC.out.cap _ (HT.out.below HC.out.below hz) HC.out.bytes HC.out.nil HS.out).mono ?_
  rintro e w3 ⟨g, rfl, hr3, hg3, hb3⟩
  have HB3 : Hid (Below w.heap.size w w3) := HC.out.below.trans (hb3.mono HC.out.below.size)
  have HX3 := Lib.hid (hr3.bytes HTk.out (by rw [← HKl.out]; have := HK.out; omega))
  clear hr3 hb3 hg3
  go_wp2_with fail
  refine (refOpen_good l n k HN.out HK.out (by omega) a cap hc _ (H.out.below HB3.out) HA.out HS.out).mono ?_
  rintro e w4 ⟨a5, cap5, rfl, hB5, hb4⟩
  have s1 := run_str w4 22 9 5 Tryd.underlying22 Tryd.underlying5 Tryd.underlying9 (l.take k) (some ⟨g, 0, none⟩) k k HKl.out (HX3.out.below hb4)
  have s2 := run_str w4 22 9 5 Tryd.underlying22 Tryd.underlying5 Tryd.underlying9 (l.take k) a5 k cap5 HKl.out hB5
  have HB4 : Hid (Below w.heap.size w w4) := HB3.out.trans (hb4.mono HB3.out.size)
  clear hb4 hB5
  go_wp2
  go_ret
  exact ⟨rfl, HB4.out⟩
theorem sumOpens_walk (a0 : Option Addr) (len0 cap0 : Nat) (z0 : List Int) (w : World) (hL : Tab w ∧ 0 < w.heap.size) (w0 : IsRow .u8 w a0 len0 cap0 z0) :
    Calls Tryd.prog 6 #[.slice a0 len0 cap0] w fun e w' => e = .returned (.bool true) ∧ Below w.heap.size w w' := by
  obtain ⟨l, hl, hB, ha, hm, hc⟩ := w0.bytes
  by_cases h : len0 ≤ 5000
  · by_cases h4 : len0 < 4
    · exact sumOpens_few l len0 hl a0 cap0 w h4 hL.1 hL.2 hB ha
    · by_cases hs : sealN (l.take (len0 - 4)) = l
      · exact sumOpens_good l len0 (len0 - 4) hl (by omega) a0 cap0 hc w h hL.1 hL.2 hB ha hs
      · exact sumOpens_bad l len0 (len0 - 4) hl (by omega) a0 cap0 hc w h hL.1 hL.2 hB ha hs
  · exact sumOpens_long len0 a0 cap0 w (by omega) hm hL.1 hL.2
end Go.Proofs.YtpgddaipbonjjaaDoor
