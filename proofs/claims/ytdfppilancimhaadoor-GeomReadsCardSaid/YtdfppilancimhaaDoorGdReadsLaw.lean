/-
  The walk of GeomReads, out of the contracts of both Decodes.
-/
import Derived.Test.YtdfppilancimhaaDoorGdReads
namespace Go.Proofs.YtdfppilancimhaaDoor
open Go.RowKit

theorem refDecode_any (l : List Nat) (n : Nat) (hn : n = l.length) (a : Option Addr) (cap : Nat) (hc : n ≤ cap) (w : World) (h : Bytes w a l) (ha : a = none → l = [] ∧ cap = 0) :
    Calls Tryd.prog 17 #[.slice a n cap] w fun e w' => e = .returned (dec l) ∧ Below w.heap.size w w' := by
  by_cases h1 : n = 64
  · subst h1
    by_cases h2 : sealN (l.take 60) = l
    · exact refDecode_sealed l hn a cap hc w h ha h2
    · have e : dec l = .tuple #[.agg #[.int .i64 0, .int .i64 0, .int .i64 0], .int .i64 101] := by
        unfold dec
        rw [if_pos hn.symm, if_neg h2]
      rw [e]
      exact refDecode_badsum l hn a cap hc w h ha h2
  · have e : dec l = .tuple #[.agg #[.int .i64 0, .int .i64 0, .int .i64 0], .int .i64 100] := by
      unfold dec
      rw [if_neg (by omega)]
    rw [e]
    exact refDecode_len n h1 a cap w
theorem dec_form (l : List Nat) (h8 : ∀ x ∈ l, x < 256) : ∃ x y z c : Nat, dec l = .tuple #[.agg #[.int .i64 x, .int .i64 y, .int .i64 z], .int .i64 c] ∧ (c ≠ 0 ∨ (c = 0 ∧ Good x y z ∧ sealN (bodyN x y z) = l)) := by
  unfold dec
  split
  · split
    · rename_i h1 h2
      split
      · rename_i h3
        exact ⟨_, _, _, 0, rfl, .inr ⟨rfl, h3.1, by rw [h3.2]; exact h2⟩⟩
      · exact ⟨0, 0, 0, 100, rfl, .inl (by decide)⟩
    · exact ⟨0, 0, 0, 101, rfl, .inl (by decide)⟩
  · exact ⟨0, 0, 0, 100, rfl, .inl (by decide)⟩
set_option maxHeartbeats 4000000 in
theorem geomReads_small (l : List Nat) (n : Nat) (hn : n = l.length) (hs : n ≤ 1000) (a : Option Addr) (cap : Nat) (hc : n ≤ cap) (w : World) (ht : Tab w) (hz : 0 < w.heap.size) (h : Bytes w a l) (ha : a = none → l = [] ∧ cap = 0) :
    Calls Tryd.prog 4 #[.slice a n cap] w fun e w' => e = .returned (.bool true) ∧ Below w.heap.size w w' := by
  obtain ⟨x, y, z, c, hdec, hcase⟩ := dec_form l h.1
  have HT := Lib.hid ht
  have H := Lib.hid h
  have HA := Lib.hid ha
  have HN := Lib.hid hn
  have HD := Lib.hid (fun a' cap' hc' W h1 h2 h3 h4 => decode_any l n hn a' cap' hc' W h1 h2 h3 h4)
  have HR := Lib.hid (fun a' cap' hc' W h3 h4 => refDecode_any l n hn a' cap' hc' W h3 h4)
  rw [hdec] at HD HR
  have HC := Lib.hid hcase
  clear ht h ha hn hdec hcase
  go_enter Tryd.func4, Tryd.ntmps4
  go_wp2_with fail
  refine (awake_any _).mono ?_
  rintro e w1 ⟨rfl, hb1⟩
  have HB1 := Lib.hid hb1
  have H1 := Lib.hid (H.out.below hb1)
  have hz1 : 0 < w1.heap.size := by have := hb1.size; omega
  clear hb1
  go_wp2_with (at_builtin; refine wp_append_bytes rfl (.tmp 18) (.tmp 19) 28 rfl w1.heap.size 5 Tryd.underlying28 info_u8 _ 0 [] rfl (World.ownsRow_lit w1 #[] 0 (Nat.le_refl _) (by unfold maxLen; omega) rfl) (by simp) a n cap l rfl HN.out (H1.out.below ((Below.refl _ _).alloc (Nat.le_refl _) _)) HA.out (by omega) (by simp) ?_; intro a' cap' w2 hown hgr hB hn; have HCp := Lib.hid (copied_of HB1.out HN.out hown _ hgr (fun k hk => by cases hk; exact Nat.le_refl _) hB); clear hown hgr hB hn)
  refine (HD.out a' cap' HCp.out.cap _ (HT.out.below HCp.out.below hz) (by have := HCp.out.below.size; omega) HCp.out.bytes HCp.out.nil).mono ?_
  rintro e w3 ⟨rfl, hb3⟩
  have HB3 : Hid (Below w.heap.size w w3) := HCp.out.below.trans (hb3.mono HCp.out.below.size)
  have hB4 : Below w.heap.size w (w3.alloc (.cells #[.int .i64 x, .int .i64 y, .int .i64 z] 23)) := HB3.out.alloc HB3.out.size _
  have HB4 := Lib.hid hB4
  have K2 := Lib.hid ((HCp.out.bytes.below hb3).below (sup_below w3 (.cells #[.int .i64 x, .int .i64 y, .int .i64 z] 23)))
  have G4 := Lib.hid (blo_laid w3 23 #[.int .i64 x, .int .i64 y, .int .i64 z])
  clear hb3 HB1 H1 HD hB4 HB3
  go_wp2_with fail
  refine (HR.out a cap hc _ (H.out.below HB4.out) HA.out).mono ?_
  rintro e w5 ⟨rfl, hb5⟩
  have K3 := Lib.hid ((K2.out.below hb5).below (sup_below w5 (.cells #[.int .i64 x, .int .i64 y, .int .i64 z] 26)))
  have G5 := Lib.hid ((G4.out.later hb5).alloc (.cells #[.int .i64 x, .int .i64 y, .int .i64 z] 26))
  have G6 := Lib.hid (blo_laid w5 26 #[.int .i64 x, .int .i64 y, .int .i64 z])
  have HB5 : Hid (Below w.heap.size w w5) := HB4.out.trans (hb5.mono HB4.out.size)
  have HB6 : Hid (Below w.heap.size w (w5.alloc (.cells #[.int .i64 x, .int .i64 y, .int .i64 z] 26))) := HB5.out.alloc HB5.out.size _
  clear hb5 K2 G4 HB4 HB5 HR
  go_wp2_with fail
  generalize w3.heap.size = g1 at *
  generalize w5.heap.size = g2 at *
  generalize w5.alloc (.cells #[.int .i64 x, .int .i64 y, .int .i64 z] 26) = w6 at *
  have KP : Hid (∀ W, Below w6.heap.size w6 W → W.cell? ⟨g1, 0, none⟩ = some (.int .i64 x) ∧ W.cell? ⟨g1, 1, none⟩ = some (.int .i64 y) ∧ W.cell? ⟨g1, 2, none⟩ = some (.int .i64 z) ∧
      W.cell? ⟨g2, 0, none⟩ = some (.int .i64 x) ∧ W.cell? ⟨g2, 1, none⟩ = some (.int .i64 y) ∧ W.cell? ⟨g2, 2, none⟩ = some (.int .i64 z) ∧
      (convert 28 9 (.slice a n cap)).run Tryd.prog W = .ok (.string (strOf l)) W ∧ (convert 28 9 (.slice a' n cap')).run Tryd.prog W = .ok (.string (strOf l)) W) := fun W hb =>
    ⟨by simpa using (G5.out.later hb).cell 0, by simpa using (G5.out.later hb).cell 1, by simpa using (G5.out.later hb).cell 2, by simpa using (G6.out.later hb).cell 0, by simpa using (G6.out.later hb).cell 1, by simpa using (G6.out.later hb).cell 2,
     run_str W 28 9 5 Tryd.underlying28 Tryd.underlying5 Tryd.underlying9 l _ n cap HN.out (H.out.below (HB6.out.trans (hb.mono HB6.out.size))),
     run_str W 28 9 5 Tryd.underlying28 Tryd.underlying5 Tryd.underlying9 l _ n cap' HN.out (K3.out.below hb)⟩
  have hRf := Lib.hid (fun W => ref_any (x : Int) y z W)
  have hcc : ((c : Int) != (c : Int)) = false := by simp
  go_region_held (fun W => W.cell? ⟨g1, 0, none⟩ = some (.int .i64 x) ∧ W.cell? ⟨g1, 1, none⟩ = some (.int .i64 y) ∧ W.cell? ⟨g1, 2, none⟩ = some (.int .i64 z) ∧
      W.cell? ⟨g2, 0, none⟩ = some (.int .i64 x) ∧ W.cell? ⟨g2, 1, none⟩ = some (.int .i64 y) ∧ W.cell? ⟨g2, 2, none⟩ = some (.int .i64 z) ∧
      (convert 28 9 (.slice a n cap)).run Tryd.prog W = .ok (.string (strOf l)) W ∧ (convert 28 9 (.slice a' n cap')).run Tryd.prog W = .ok (.string (strOf l)) W)
    (first | exact KP.out _ HBx.out | exact KP.out _ ((Below.refl _ _).drew) | fail)
    ((go_at_call 8; refine (hRf.out _).mono ?_; rintro e wx ⟨rfl, hbx⟩; have HBx : Hid (Below w6.heap.size w6 wx) := ((Below.refl _ _).drew).trans hbx; clear hbx))
  have HB7 : Hid (Below w.heap.size w wx) := HB6.out.trans (HBx.out.mono HB6.out.size)
  have G7 := Lib.hid (G5.out.later HBx.out)
  clear KP hRf hcc G5 G6 K3 HB6
  rcases HC.out with hc0 | ⟨hc0, hg, hse⟩
  · have hcn : ((c : Int) != 0) = true := by simpa using (by omega : ¬ (c : Int) = 0)
    have hcn2 : ((c : Int) == 0) = false := by simpa using (by omega : ¬ (c : Int) = 0)
    clear hc0 HC
    go_wp2_with fail
    go_ret
    exact ⟨rfl, HB7.out⟩
  · subst hc0
    have HEn := Lib.hid (fun W h1 h2 => encode_good x y z W h1 h2 hg)
    have HSe := Lib.hid hse
    clear hg hse HC
    have c0 := G7.out.cell 0
    have c1 := G7.out.cell 1
    have c2 := G7.out.cell 2
    simp at c0 c1 c2
    go_wp2_with fail
    refine (HEn.out _ (HT.out.below HB7.out hz) (by have := HB7.out.size; omega)).mono ?_
    rintro e w8 ⟨g, rfl, hr8, hg8, hb8⟩
    have HB8 : Hid (Below w.heap.size w w8) := HB7.out.trans (hb8.mono HB7.out.size)
    have h64 : 64 = l.length := by rw [← HSe.out, len4, bodyN_length]
    have hy := hr8.bytes (sealN_lt (bodyN_lt x y z)) (by rw [len4, bodyN_length]; decide)
    rw [HSe.out] at hy
    have s1 := run_str w8 28 9 5 Tryd.underlying28 Tryd.underlying5 Tryd.underlying9 l _ 64 64 h64 hy
    have s2 := run_str w8 28 9 5 Tryd.underlying28 Tryd.underlying5 Tryd.underlying9 l _ n cap HN.out (H.out.below HB8.out)
    clear hr8 hg8 hb8 hy h64 c0 c1 c2
    go_wp2_with fail
    go_ret
    exact ⟨by simp, HB8.out⟩
set_option maxHeartbeats 400000 in
theorem geomReads_big (n : Nat) (hs : 1000 < n) (hm : n ≤ 9223372036854775807) (a : Option Addr) (cap : Nat) (w : World) :
    Calls Tryd.prog 4 #[.slice a n cap] w fun e w' => e = .returned (.bool true) ∧ Below w.heap.size w w' := by
  go_enter Tryd.func4, Tryd.ntmps4
  go_wp2_with fail
  refine (awake_any _).mono ?_
  rintro e w1 ⟨rfl, hb1⟩
  have HB1 := Lib.hid hb1
  clear hb1
  go_wp2_with fail
  refine (awake_any _).mono ?_
  rintro e w2 ⟨rfl, hb2⟩
  have HB2 : Hid (Below w.heap.size w w2) := HB1.out.trans (hb2.mono HB1.out.size)
  clear hb2
  go_wp2_with fail
  go_ret
  exact ⟨rfl, HB2.out⟩
theorem geomReads_walk (a : Option Addr) (len cap : Nat) (zs : List Int) (w : World) (hL : Tab w ∧ 0 < w.heap.size) (h : IsRow .u8 w a len cap zs) :
    Calls Tryd.prog 4 #[.slice a len cap] w fun e w' => e = .returned (.bool true) ∧ Below w.heap.size w w' := by
  obtain ⟨l, hn, hb, ha, hm, hc⟩ := h.bytes
  by_cases hs : len ≤ 1000
  · exact geomReads_small l len hn hs a cap hc w hL.1 hL.2 hb ha
  · exact geomReads_big len (by omega) hm a cap w
end Go.Proofs.YtdfppilancimhaaDoor
