/-
  The walk of GeomReads: of any bytes just a geometry's block is read, and written so again.
-/
import Derived.Test.YtdfppilancimhaaDoorGdDecode
import Derived.Test.YtdfppilancimhaaDoorMem
import Derived.Deep.RegionHeld3
import Derived.Deep.RegionLaw
namespace Go.Proofs.YtdfppilancimhaaDoor
open Go.RowKit

theorem own_facts {w : World} {base n cap : Nat} {e : TypeId} {a : Option Addr} {l : List Nat} (h : w.ownsRow base e 1 (.slice a n cap) n (cellsB l)) : (a = none → l = [] ∧ cap = 0) ∧ n ≤ cap := by
  have hlen : n = l.length := by have := h.1; rw [cellsB_length, Nat.mul_one] at this; exact this.symm
  rcases h.2 with ⟨h1, h0⟩ | ⟨g, c, cur, h1, _, _, h2, _⟩
  · cases h1
    exact ⟨fun _ => ⟨List.eq_nil_of_length_eq_zero (by omega), rfl⟩, by omega⟩
  · cases h1
    exact ⟨(fun h => by cases h), h2⟩
structure Copied (w w2 : World) (a' : Option Addr) (l : List Nat) (n cap' : Nat) : Prop where
  bytes : Bytes w2 a' l
  nil : a' = none → l = [] ∧ cap' = 0
  cap : n ≤ cap'
  below : Below w.heap.size w w2
theorem copied_of {w w1 w2 : World} {a' : Option Addr} {l : List Nat} {n cap' : Nat} {b0 : Option Nat} (hb1 : Below w.heap.size w w1) (hn : n = l.length) (hown : w2.ownsRow w1.heap.size 5 1 (.slice a' (0 + n) cap') (0 + n) (cellsB ([] ++ l)))
    (o : Obj) (hgr : (w1.alloc o).grownBy w2 b0) (hb0 : ∀ k, b0 = some k → w1.heap.size ≤ k) (hB : Bytes w2 a' ([] ++ l)) : Copied w w2 a' l n cap' := by
  rw [List.nil_append] at hB hown
  rw [Nat.zero_add] at hown
  have hz := hb1.size
  exact ⟨hB, (own_facts hown).1, (own_facts hown).2, (hb1.alloc hz o).grown hgr (by simp; omega) (fun k hk => Nat.le_trans hz (hb0 k hk))⟩

/-- The number that four bytes of a row are. -/
def num4 (l : List Nat) (k : Nat) : Nat := l.getD k 0 + l.getD (k + 1) 0 * 256 + l.getD (k + 2) 0 * 65536 + l.getD (k + 3) 0 * 16777216
theorem num4_lt {l : List Nat} (h : ∀ x ∈ l, x < 256) (k : Nat) : num4 l k < 4294967296 := by
  have := getD_byte h k
  have := getD_byte h (k + 1)
  have := getD_byte h (k + 2)
  have := getD_byte h (k + 3)
  unfold num4
  omega
def dec (l : List Nat) : Value :=
  if l.length = 64 then
    if sealN (l.take 60) = l then
      if Good (num4 l 4) (num4 l 8) (num4 l 12) ∧ bodyN (num4 l 4) (num4 l 8) (num4 l 12) = l.take 60 then .tuple #[.agg #[.int .i64 (num4 l 4), .int .i64 (num4 l 8), .int .i64 (num4 l 12)], .int .i64 0]
      else .tuple #[.agg #[.int .i64 0, .int .i64 0, .int .i64 0], .int .i64 100]
    else .tuple #[.agg #[.int .i64 0, .int .i64 0, .int .i64 0], .int .i64 101]
  else .tuple #[.agg #[.int .i64 0, .int .i64 0, .int .i64 0], .int .i64 100]
theorem take_getD (l : List Nat) (k : Nat) (h : k < 60) : (l.take 60).getD k 0 = l.getD k 0 := by
  rw [List.getD_eq_getElem?_getD, List.getD_eq_getElem?_getD, List.getElem?_take, if_pos h]
theorem gget_num (l : List Nat) (hl : l.length = 60) (h : ∀ x ∈ l, x < 256) (g k m : Nat) (w : World) (hr : Row w g l) (hk : k + 4 ≤ 60) (hm : 4 ≤ m) (hm2 : m ≤ 60) :
    Calls Tryd.prog 24 #[.slice (some ⟨g, k, none⟩) m m] w fun e w' => e = .returned (.int .i64 (num4 l k)) ∧ w = w' :=
  gget_any _ _ _ _ g k m m w hm (by omega) (getD_byte h _) (getD_byte h _) (getD_byte h _) (getD_byte h _) (hr.cell k (by omega)) (hr.cell (k + 1) (by omega)) (hr.cell (k + 2) (by omega)) (hr.cell (k + 3) (by omega))
theorem decode_len (n : Nat) (hn : n ≠ 64) (a : Option Addr) (cap : Nat) (w : World) :
    Calls Tryd.prog 16 #[.slice a n cap] w fun e w' => e = .returned (.tuple #[.agg #[.int .i64 0, .int .i64 0, .int .i64 0], .int .i64 100]) ∧ Below w.heap.size w w' := by
  have hn' : ¬ ((n : Int) = 64) := by omega
  go_enter Tryd.func16, Tryd.ntmps16
  have HB0 : Hid (Below w.heap.size w (w.alloc (.cells #[.int .i64 0, .int .i64 0, .int .i64 0] 23))) := sup_below w _
  have hc := cells3_laid w 0 0 0 23
  obtain ⟨c0, c1, c2⟩ := hc
  have hf : ∀ j, (w.alloc (.cells #[.int .i64 0, .int .i64 0, .int .i64 0] 23)).frozen? ⟨w.heap.size, j, none⟩ = false := fun j => by simp
  have f0 := hf 0
  have f1 := hf 1
  have f2 := hf 2
  go_wp2_with fail
  refine bodyPost_ret (v := .tuple #[.agg #[.int .i64 0, .int .i64 0, .int .i64 0], .int .i64 100]) ?_ rfl ⟨rfl, ?_⟩
  · simp [results, Tryd.results16, go_sem, c0, c1, c2]
  · exact HB0.out
theorem Bytes.some {w : World} {a : Option Addr} {l : List Nat} (h : Bytes w a l) (hl : l ≠ []) : a ≠ Option.none := by
  obtain ⟨b, o, rfl, _⟩ := h.2.2 hl
  exact fun e => by cases e
theorem decode_any (l : List Nat) (n : Nat) (hn : n = l.length) (a : Option Addr) (cap : Nat) (hc : n ≤ cap) (w : World) (ht : Tab w) (hz : 0 < w.heap.size) (h : Bytes w a l) (ha : a = none → l = [] ∧ cap = 0) :
    Calls Tryd.prog 16 #[.slice a n cap] w fun e w' => e = .returned (dec l) ∧ Below w.heap.size w w' := by
  unfold dec
  by_cases h1 : l.length = 64
  · have hn64 : n = 64 := by omega
    subst hn64
    rw [if_pos h1]
    by_cases h2 : sealN (l.take 60) = l
    · rw [if_pos h2]
      have h60 : (l.take 60).length = 60 := by simp; omega
      have h8 : ∀ x ∈ l.take 60, x < 256 := fun x hx => h.1 x (List.mem_of_mem_take hx)
      have e : ∀ k, k + 4 ≤ 60 → num4 (l.take 60) k = num4 l k := fun k hk => by
        unfold num4
        rw [take_getD l k (by omega), take_getD l (k + 1) (by omega), take_getD l (k + 2) (by omega), take_getD l (k + 3) (by omega)]
      refine decode_sealed (l.take 60) h60 (num4 l 4) (num4 l 8) (num4 l 12) a cap hc w ht hz (by rw [h2]; exact h) (h.some (fun e => by rw [e] at h1; cases h1)) ?_
      intro g W hr
      rw [← e 4 (by omega), ← e 8 (by omega), ← e 12 (by omega)]
      exact ⟨gget_num _ h60 h8 g 4 56 W hr (by omega) (by omega) (by omega), gget_num _ h60 h8 g 8 52 W hr (by omega) (by omega) (by omega), gget_num _ h60 h8 g 12 48 W hr (by omega) (by omega) (by omega)⟩
    · rw [if_neg h2]
      exact decode_badsum l hn a cap hc w ht hz h ha h2
  · rw [if_neg h1]
    exact decode_len n (by omega) a cap w
theorem refDecode_len (n : Nat) (hn : n ≠ 64) (a : Option Addr) (cap : Nat) (w : World) :
    Calls Tryd.prog 17 #[.slice a n cap] w fun e w' => e = .returned (.tuple #[.agg #[.int .i64 0, .int .i64 0, .int .i64 0], .int .i64 100]) ∧ Below w.heap.size w w' := by
  have hn' : ¬ ((n : Int) = 64) := by omega
  go_enter Tryd.func17, Tryd.ntmps17
  go_wp2_with fail
  refine bodyPost_ret (v := .tuple #[.agg #[.int .i64 0, .int .i64 0, .int .i64 0], .int .i64 100]) ?_ rfl ⟨rfl, ?_⟩
  · simp [results, Tryd.results17, go_sem]
  · exact (sup_below w _)
theorem refDecode_badsum (l : List Nat) (hl : 64 = l.length) (a : Option Addr) (cap : Nat) (hc : 64 ≤ cap) (w : World) (h : Bytes w a l) (ha : a = none → l = [] ∧ cap = 0) (hs : sealN (l.take 60) ≠ l) :
    Calls Tryd.prog 17 #[.slice a 64 cap] w fun e w' => e = .returned (.tuple #[.agg #[.int .i64 0, .int .i64 0, .int .i64 0], .int .i64 101]) ∧ Below w.heap.size w w' := by
  have H := Lib.hid h
  have HA := Lib.hid ha
  have HS := Lib.hid hs
  have HL := Lib.hid hl
  clear h ha hs hl
  go_enter Tryd.func17, Tryd.ntmps17
  go_wp2_with fail
  have HB0 : Hid (Below w.heap.size w (w.alloc (.cells #[.int .i64 0, .int .i64 0, .int .i64 0] 26))) := sup_below w _
  have HC0 := Lib.hid (cells3_laid w 0 0 0 26)
  have HF0 : Hid (∀ j, (w.alloc (.cells #[.int .i64 0, .int .i64 0, .int .i64 0] 26)).frozen? ⟨w.heap.size, j, none⟩ = false) := fun j => by simp
  refine (refOpen_bad l 64 60 HL.out rfl (by decide) a cap hc _ (H.out.below HB0.out) HA.out HS.out).mono ?_
  rintro e w1 ⟨rfl, hb1⟩
  have HB1 : Hid (Below w.heap.size w w1) := HB0.out.trans (hb1.mono (by simp))
  obtain ⟨c0, c1, c2⟩ := HC0.out.below hb1 (by simp)
  have f0 := (hb1.frozen (p := ⟨w.heap.size, 0, none⟩) (by simp)).trans (HF0.out 0)
  have f1 := (hb1.frozen (p := ⟨w.heap.size, 1, none⟩) (by simp)).trans (HF0.out 1)
  have f2 := (hb1.frozen (p := ⟨w.heap.size, 2, none⟩) (by simp)).trans (HF0.out 2)
  have HB1' := HB1
  clear hb1
  go_wp2_with fail
  refine bodyPost_ret (v := .tuple #[.agg #[.int .i64 0, .int .i64 0, .int .i64 0], .int .i64 101]) ?_ rfl ⟨rfl, ?_⟩
  · simp [results, Tryd.results17, go_sem, c0, c1, c2]
  · exact ((HB1.out.setCell (p := ⟨w.heap.size, 0, none⟩) (Nat.le_refl _) _).setCell (p := ⟨w.heap.size, 1, none⟩) (Nat.le_refl _) _).setCell (p := ⟨w.heap.size, 2, none⟩) (Nat.le_refl _) _
theorem hi4 (y0 y1 y2 y3 : Nat) : ((((y3 : Int) * 256 + (y2 : Int)) * 256 + (y1 : Int)) * 256 + (y0 : Int)) = ((y0 + y1 * 256 + y2 * 65536 + y3 * 16777216 : Nat) : Int) := by omega
set_option maxHeartbeats 4000000 in
theorem refDecode_sealed (l : List Nat) (hl : 64 = l.length) (a : Option Addr) (cap : Nat) (hc : 64 ≤ cap) (w : World) (h : Bytes w a l) (ha : a = none → l = [] ∧ cap = 0) (hs : sealN (l.take 60) = l) :
    Calls Tryd.prog 17 #[.slice a 64 cap] w fun e w' => e = .returned (dec l) ∧ Below w.heap.size w w' := by
  obtain ⟨b, o, rfl, hcell0⟩ := h.2.2 (fun e => by rw [e] at hl; cases hl)
  have H := Lib.hid h
  have HA := Lib.hid ha
  have HS := Lib.hid hs
  have HL := Lib.hid hl
  clear h ha hs hl hcell0
  go_enter Tryd.func17, Tryd.ntmps17
  go_wp2_with fail
  have HB0 : Hid (Below w.heap.size w (w.alloc (.cells #[.int .i64 0, .int .i64 0, .int .i64 0] 26))) := sup_below w _
  have G0 := Lib.hid (blo_laid w 26 #[.int .i64 0, .int .i64 0, .int .i64 0])
  refine (refOpen_good l 64 60 HL.out rfl (by decide) _ cap hc _ (H.out.below HB0.out) HA.out HS.out).mono ?_
  rintro e w1 ⟨a', cap', rfl, hby, hb1⟩
  have HB1 : Hid (Below w.heap.size w w1) := HB0.out.trans (hb1.mono (by simp))
  have G1 := Lib.hid (G0.out.later hb1)
  clear hb1 hby G0
  go_wp2_with fail
  have hbw : b < w1.heap.size ∧ ∀ i, i < 64 → w1.cell? ⟨b, o + i, none⟩ = some (.int .u8 (l.getD i 0 : Nat)) := by
    obtain ⟨b', o', he, hcell⟩ := (H.out.below HB1.out).2.2 (fun e => by have := HL.out; rw [e] at this; cases this)
    cases he
    refine ⟨?_, fun i hi => hcell i (by have := HL.out; omega)⟩
    have h0 := hcell 0 (by have := HL.out; omega)
    rcases Nat.lt_or_ge b w1.heap.size with h' | h'
    · exact h'
    · simp [World.cell?, Array.getElem?_eq_none h'] at h0
  have HC := Lib.hid hbw.2
  have hblt := hbw.1
  clear hbw
  have c4 := fun o' => cell_later (sup_below w1 o') (HC.out 4 (by omega))
  have c5 := fun o' => cell_later (sup_below w1 o') (HC.out 5 (by omega))
  have c6 := fun o' => cell_later (sup_below w1 o') (HC.out 6 (by omega))
  have c7 := fun o' => cell_later (sup_below w1 o') (HC.out 7 (by omega))
  have c8 := fun o' => cell_later (sup_below w1 o') (HC.out 8 (by omega))
  have c9 := fun o' => cell_later (sup_below w1 o') (HC.out 9 (by omega))
  have c10 := fun o' => cell_later (sup_below w1 o') (HC.out 10 (by omega))
  have c11 := fun o' => cell_later (sup_below w1 o') (HC.out 11 (by omega))
  have c12 := fun o' => cell_later (sup_below w1 o') (HC.out 12 (by omega))
  have c13 := fun o' => cell_later (sup_below w1 o') (HC.out 13 (by omega))
  have c14 := fun o' => cell_later (sup_below w1 o') (HC.out 14 (by omega))
  have c15 := fun o' => cell_later (sup_below w1 o') (HC.out 15 (by omega))
  have l4 := getD_byte H.out.1 4
  have l5 := getD_byte H.out.1 5
  have l6 := getD_byte H.out.1 6
  have l7 := getD_byte H.out.1 7
  have l8 := getD_byte H.out.1 8
  have l9 := getD_byte H.out.1 9
  have l10 := getD_byte H.out.1 10
  have l11 := getD_byte H.out.1 11
  have l12 := getD_byte H.out.1 12
  have l13 := getD_byte H.out.1 13
  have l14 := getD_byte H.out.1 14
  have l15 := getD_byte H.out.1 15
  have hne : ¬ (b = w1.heap.size) := by omega
  generalize hy4 : l.getD 4 0 = y4 at *
  have Y4 := Lib.hid hy4
  clear hy4
  generalize hy5 : l.getD 5 0 = y5 at *
  have Y5 := Lib.hid hy5
  clear hy5
  generalize hy6 : l.getD 6 0 = y6 at *
  have Y6 := Lib.hid hy6
  clear hy6
  generalize hy7 : l.getD 7 0 = y7 at *
  have Y7 := Lib.hid hy7
  clear hy7
  generalize hy8 : l.getD 8 0 = y8 at *
  have Y8 := Lib.hid hy8
  clear hy8
  generalize hy9 : l.getD 9 0 = y9 at *
  have Y9 := Lib.hid hy9
  clear hy9
  generalize hy10 : l.getD 10 0 = y10 at *
  have Y10 := Lib.hid hy10
  clear hy10
  generalize hy11 : l.getD 11 0 = y11 at *
  have Y11 := Lib.hid hy11
  clear hy11
  generalize hy12 : l.getD 12 0 = y12 at *
  have Y12 := Lib.hid hy12
  clear hy12
  generalize hy13 : l.getD 13 0 = y13 at *
  have Y13 := Lib.hid hy13
  clear hy13
  generalize hy14 : l.getD 14 0 = y14 at *
  have Y14 := Lib.hid hy14
  clear hy14
  generalize hy15 : l.getD 15 0 = y15 at *
  have Y15 := Lib.hid hy15
  clear hy15
  refine wp_loop_rounds 5 ?_
  rw [rounds_succ]
  go_wp2_with fail
  apply region_one
  · go_region
    all_goals exact ⟨rfl, rfl⟩
  go_wp2_with fail
  apply region_one
  · go_region
    all_goals exact ⟨rfl, rfl⟩
  go_wp2_with fail
  apply region_one
  · go_region
    all_goals exact ⟨rfl, rfl⟩
  go_wp2_with fail
  rw [rounds_succ]
  go_wp2_with fail
  apply region_one
  · go_region
    all_goals exact ⟨rfl, rfl⟩
  go_wp2_with fail
  apply region_one
  · go_region
    all_goals exact ⟨rfl, rfl⟩
  go_wp2_with fail
  apply region_one
  · go_region
    all_goals exact ⟨rfl, rfl⟩
  go_wp2_with fail
  rw [rounds_succ]
  go_wp2_with fail
  apply region_one
  · go_region
    all_goals exact ⟨rfl, rfl⟩
  go_wp2_with fail
  apply region_one
  · go_region
    all_goals exact ⟨rfl, rfl⟩
  go_wp2_with fail
  apply region_one
  · go_region
    all_goals exact ⟨rfl, rfl⟩
  go_wp2_with fail
  rw [rounds_succ]
  go_wp2_with fail
  apply region_one
  · go_region
    all_goals exact ⟨rfl, rfl⟩
  go_wp2_with fail
  apply region_one
  · go_region
    all_goals exact ⟨rfl, rfl⟩
  go_wp2_with fail
  apply region_one
  · go_region
    all_goals exact ⟨rfl, rfl⟩
  go_wp2_with fail
  rw [rounds_succ]
  go_wp2_with fail
  rw [hi4, hi4, hi4]
  have eB : Hid (num4 l 4 = y4 + y5 * 256 + y6 * 65536 + y7 * 16777216) := by show _ = _; unfold num4; rw [Y4.out, Y5.out, Y6.out, Y7.out]
  have eS : Hid (num4 l 8 = y8 + y9 * 256 + y10 * 65536 + y11 * 16777216) := by show _ = _; unfold num4; rw [Y8.out, Y9.out, Y10.out, Y11.out]
  have eI : Hid (num4 l 12 = y12 + y13 * 256 + y14 * 65536 + y15 * 16777216) := by show _ = _; unfold num4; rw [Y12.out, Y13.out, Y14.out, Y15.out]
  have bB : y4 + y5 * 256 + y6 * 65536 + y7 * 16777216 < 4294967296 := by omega
  have bS : y8 + y9 * 256 + y10 * 65536 + y11 * 16777216 < 4294967296 := by omega
  have bI : y12 + y13 * 256 + y14 * 65536 + y15 * 16777216 < 4294967296 := by omega
  generalize y4 + y5 * 256 + y6 * 65536 + y7 * 16777216 = B at *
  generalize y8 + y9 * 256 + y10 * 65536 + y11 * 16777216 = S at *
  generalize y12 + y13 * 256 + y14 * 65536 + y15 * 16777216 = I at *
  clear c4 c5 c6 c7 c8 c9 c10 c11 c12 c13 c14 c15 l4 l5 l6 l7 l8 l9 l10 l11 l12 l13 l14 l15 Y4 Y5 Y6 Y7 Y8 Y9 Y10 Y11 Y12 Y13 Y14 Y15
  have hD : dec l = if Good B S I ∧ bodyN B S I = l.take 60 then .tuple #[.agg #[.int .i64 B, .int .i64 S, .int .i64 I], .int .i64 0] else .tuple #[.agg #[.int .i64 0, .int .i64 0, .int .i64 0], .int .i64 100] := by
    unfold dec
    rw [if_pos HL.out.symm, if_pos HS.out, eB.out, eS.out, eI.out]
  have HDec := Lib.hid hD
  clear hD eB eS eI
  have gs := blo_laid w1 26 #[.int .i64 B, .int .i64 S, .int .i64 I]
  have hx2 : Below w1.heap.size w1 (w1.alloc (.cells #[.int .i64 B, .int .i64 S, .int .i64 I] 26)).drew.drew.drew.drew.drew.drew.drew.drew.drew.drew.drew.drew := (((((((((((((Below.refl _ _).alloc (Nat.le_refl _) _).drew).drew).drew).drew).drew).drew).drew).drew).drew).drew).drew).drew
  have GS : Hid (Blo ((w1.alloc (.cells #[.int .i64 B, .int .i64 S, .int .i64 I] 26)).drew.drew.drew.drew.drew.drew.drew.drew.drew.drew.drew.drew) w1.heap.size 26 #[.int .i64 B, .int .i64 S, .int .i64 I]) := gs
  have HX2 := Lib.hid hx2
  clear gs hx2 HC hne hblt
  generalize (w1.alloc (.cells #[.int .i64 B, .int .i64 S, .int .i64 I] 26)).drew.drew.drew.drew.drew.drew.drew.drew.drew.drew.drew.drew = w2 at *
  have G2 := Lib.hid (G1.out.later HX2.out)
  have HB2 : Hid (Below w.heap.size w w2) := HB1.out.trans (HX2.out.mono HB1.out.size)
  generalize w1.heap.size = g at *
  clear G1 HB1 HX2
  have HSeg := Lib.hid (fun W => refSegs_any (B : Int) S I W)
  by_cases hG : Good (B : Int) S I
  · have hne0 : (nsegs (B : Int) S I == 0) = false := by
      rw [nsegs_good hG]
      have := hG.2.2.2.2.2.2
      simpa using (by omega : ¬ ((B : Int) - 3) / S = 0)
    generalize nsegs (B : Int) S I = q at *
    have HEn := Lib.hid (fun W => refEncode_any B S I W bB bS bI)
    by_cases hE : bodyN B S I = l.take 60
    · have hR := HDec.out
      rw [if_pos ⟨hG, hE⟩] at hR
      have HR := Lib.hid hR
      have HEn2 : Hid (∀ W, Calls Tryd.prog 12 #[.agg #[.int .i64 B, .int .i64 S, .int .i64 I]] W fun e w' => ∃ a' cap', e = .returned (.slice a' 64 cap') ∧ Bytes w' a' l ∧ Below W.heap.size W w') := fun W => (HEn.out W).mono fun e w' ⟨a', cap', h1, h2, h3⟩ => ⟨a', cap', h1, by rw [hE, HS.out] at h2; exact h2, h3⟩
      clear hR HDec hE HEn
      have KP : Hid (∀ W, Below w2.heap.size w2 W → W.cell? ⟨g, 0, none⟩ = some (.int .i64 B) ∧ W.cell? ⟨g, 1, none⟩ = some (.int .i64 S) ∧ W.cell? ⟨g, 2, none⟩ = some (.int .i64 I) ∧ (convert 28 9 (.slice (some ⟨b, o, none⟩) 64 cap)).run Tryd.prog W = .ok (.string (strOf l)) W) := fun W hb =>
        ⟨by simpa using (GS.out.later hb).cell 0, by simpa using (GS.out.later hb).cell 1, by simpa using (GS.out.later hb).cell 2,
         run_str W 28 9 5 Tryd.underlying28 Tryd.underlying5 Tryd.underlying9 l _ 64 cap HL.out (H.out.below (HB2.out.trans (hb.mono HB2.out.size)))⟩
      go_region_held (fun W => W.cell? ⟨g, 0, none⟩ = some (.int .i64 B) ∧ W.cell? ⟨g, 1, none⟩ = some (.int .i64 S) ∧ W.cell? ⟨g, 2, none⟩ = some (.int .i64 I) ∧ (convert 28 9 (.slice (some ⟨b, o, none⟩) 64 cap)).run Tryd.prog W = .ok (.string (strOf l)) W)
        (first | exact KP.out _ HBy.out | exact KP.out _ HBx.out | exact KP.out _ ((Below.refl _ _).drew) | fail)
        (first
          | (go_at_call 12; refine (HEn2.out _).mono ?_; rintro e wy ⟨a1, cap1, rfl, hby1, hbw⟩; have HBy : Hid (Below w2.heap.size w2 wy) := HBx.out.trans (hbw.mono HBx.out.size); have hcv := run_str wy 28 9 5 Tryd.underlying28 Tryd.underlying5 Tryd.underlying9 l a1 64 cap1 HL.out hby1; clear hby1 hbw)
          | (go_at_call 7; refine (HSeg.out _).mono ?_; rintro e wx ⟨rfl, hbx⟩; have HBx : Hid (Below w2.heap.size w2 wx) := ((Below.refl _ _).drew).trans hbx; clear hbx))
      have G3 := G2.out.later HBy.out
      have G4 := GS.out.later HBy.out
      have HB3 : Hid (Below w.heap.size w wy) := HB2.out.trans (HBy.out.mono HB2.out.size)
      have q0 := G3.cell 0
      have q1 := G3.cell 1
      have q2 := G3.cell 2
      have r0 := G3.frozen 0
      have r1 := G3.frozen 1
      have r2 := G3.frozen 2
      have p0 := G4.cell 0
      have p1 := G4.cell 1
      have p2 := G4.cell 2
      simp at q0 q1 q2 p0 p1 p2
      clear G3 G4 HBx HBy KP hcv
      go_wp2_with fail
      refine bodyPost_ret (v := .tuple #[.agg #[.int .i64 B, .int .i64 S, .int .i64 I], .int .i64 0]) (by simp [results, Tryd.results17, go_sem, q0, q1, q2]) rfl ⟨by rw [HR.out], ?_⟩
      exact ((HB3.out.setCell (p := ⟨w.heap.size, 0, none⟩) (Nat.le_refl _) _).setCell (p := ⟨w.heap.size, 1, none⟩) (Nat.le_refl _) _).setCell (p := ⟨w.heap.size, 2, none⟩) (Nat.le_refl _) _
    · have hR := HDec.out
      rw [if_neg (fun e => hE e.2)] at hR
      have HR := Lib.hid hR
      have hneq : sealN (bodyN B S I) ≠ l := fun e => hE (by
        rw [← e]
        unfold sealN
        rw [List.take_append_of_le_length (by rw [bodyN_length]; decide), List.take_of_length_le (by rw [bodyN_length]; decide)])
      have hM : 64 = (sealN (bodyN B S I)).length := by rw [len4, bodyN_length]
      have hne8 := str_ne (sealN_lt (bodyN_lt B S I)) H.out.1 hneq
      have HEn2 : Hid (∀ W, Calls Tryd.prog 12 #[.agg #[.int .i64 B, .int .i64 S, .int .i64 I]] W fun e w' => ∃ a' cap', e = .returned (.slice a' 64 cap') ∧ Bytes w' a' (sealN (bodyN B S I)) ∧ Below W.heap.size W w') := HEn
      have HMl := Lib.hid hM
      clear hR HDec hE HEn hneq hM
      generalize sealN (bodyN B S I) = M at *
      have KP : Hid (∀ W, Below w2.heap.size w2 W → W.cell? ⟨g, 0, none⟩ = some (.int .i64 B) ∧ W.cell? ⟨g, 1, none⟩ = some (.int .i64 S) ∧ W.cell? ⟨g, 2, none⟩ = some (.int .i64 I) ∧ (convert 28 9 (.slice (some ⟨b, o, none⟩) 64 cap)).run Tryd.prog W = .ok (.string (strOf l)) W) := fun W hb =>
        ⟨by simpa using (GS.out.later hb).cell 0, by simpa using (GS.out.later hb).cell 1, by simpa using (GS.out.later hb).cell 2,
         run_str W 28 9 5 Tryd.underlying28 Tryd.underlying5 Tryd.underlying9 l _ 64 cap HL.out (H.out.below (HB2.out.trans (hb.mono HB2.out.size)))⟩
      go_region_held (fun W => W.cell? ⟨g, 0, none⟩ = some (.int .i64 B) ∧ W.cell? ⟨g, 1, none⟩ = some (.int .i64 S) ∧ W.cell? ⟨g, 2, none⟩ = some (.int .i64 I) ∧ (convert 28 9 (.slice (some ⟨b, o, none⟩) 64 cap)).run Tryd.prog W = .ok (.string (strOf l)) W)
        (first | exact KP.out _ HBy.out | exact KP.out _ HBx.out | exact KP.out _ ((Below.refl _ _).drew) | fail)
        (first
          | (go_at_call 12; refine (HEn2.out _).mono ?_; rintro e wy ⟨a1, cap1, rfl, hby1, hbw⟩; have HBy : Hid (Below w2.heap.size w2 wy) := HBx.out.trans (hbw.mono HBx.out.size); have hcv := run_str wy 28 9 5 Tryd.underlying28 Tryd.underlying5 Tryd.underlying9 M a1 64 cap1 HMl.out hby1; clear hby1 hbw)
          | (go_at_call 7; refine (HSeg.out _).mono ?_; rintro e wx ⟨rfl, hbx⟩; have HBx : Hid (Below w2.heap.size w2 wx) := ((Below.refl _ _).drew).trans hbx; clear hbx))
      have G3 := G2.out.later HBy.out
      have G4 := GS.out.later HBy.out
      have HB3 : Hid (Below w.heap.size w wy) := HB2.out.trans (HBy.out.mono HB2.out.size)
      have q0 := G3.cell 0
      have q1 := G3.cell 1
      have q2 := G3.cell 2
      have r0 := G3.frozen 0
      have r1 := G3.frozen 1
      have r2 := G3.frozen 2
      have p0 := G4.cell 0
      have p1 := G4.cell 1
      have p2 := G4.cell 2
      simp at q0 q1 q2 p0 p1 p2
      clear G3 G4 HBx HBy KP hcv
      go_wp2_with fail
      refine bodyPost_ret (v := .tuple #[.agg #[.int .i64 0, .int .i64 0, .int .i64 0], .int .i64 100]) (by simp [results, Tryd.results17, go_sem, q0, q1, q2]) rfl ⟨by rw [HR.out], ?_⟩
      exact ((HB3.out.setCell (p := ⟨w.heap.size, 0, none⟩) (Nat.le_refl _) _).setCell (p := ⟨w.heap.size, 1, none⟩) (Nat.le_refl _) _).setCell (p := ⟨w.heap.size, 2, none⟩) (Nat.le_refl _) _
  · have hq0 : nsegs (B : Int) S I = 0 := nsegs_bad hG
    rw [hq0] at HSeg
    have hR := HDec.out
    rw [if_neg (fun e => hG e.1)] at hR
    have HR := Lib.hid hR
    clear hq0 hG hR HDec
    have c0 := GS.out.cell 0
    have c1 := GS.out.cell 1
    have c2 := GS.out.cell 2
    simp at c0 c1 c2
    have KP : Hid (∀ W, Below w2.heap.size w2 W → W.cell? ⟨g, 0, none⟩ = some (.int .i64 B) ∧ W.cell? ⟨g, 1, none⟩ = some (.int .i64 S) ∧ W.cell? ⟨g, 2, none⟩ = some (.int .i64 I)) := fun W hb =>
        ⟨by simpa using (GS.out.later hb).cell 0, by simpa using (GS.out.later hb).cell 1, by simpa using (GS.out.later hb).cell 2⟩
    have h00 : ((0 : Int) == 0) = true := rfl
    first
      | go_region_with (go_at_call 7; refine (HSeg.out _).mono ?_; rintro e wx ⟨rfl, hbx⟩; have HBx : Hid (Below w2.heap.size w2 wx) := ((Below.refl _ _).drew).trans hbx; clear hbx)
      | fail
    all_goals
      have G3 := G2.out.later HBx.out
      have HB3 : Hid (Below w.heap.size w wx) := HB2.out.trans (HBx.out.mono HB2.out.size)
      have q0 := G3.cell 0
      have q1 := G3.cell 1
      have q2 := G3.cell 2
      have r0 := G3.frozen 0
      have r1 := G3.frozen 1
      have r2 := G3.frozen 2
      simp at q0 q1 q2
      clear G3 HBx c0 c1 c2 h00
      go_wp2_with fail
      refine bodyPost_ret (v := .tuple #[.agg #[.int .i64 0, .int .i64 0, .int .i64 0], .int .i64 100]) (by simp [results, Tryd.results17, go_sem, q0, q1, q2]) rfl ⟨by rw [HR.out], ?_⟩
      exact ((HB3.out.setCell (p := ⟨w.heap.size, 0, none⟩) (Nat.le_refl _) _).setCell (p := ⟨w.heap.size, 1, none⟩) (Nat.le_refl _) _).setCell (p := ⟨w.heap.size, 2, none⟩) (Nat.le_refl _) _
end Go.Proofs.YtdfppilancimhaaDoor
