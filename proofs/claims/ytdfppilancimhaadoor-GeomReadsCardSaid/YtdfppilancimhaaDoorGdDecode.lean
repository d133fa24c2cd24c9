/-
  The walks of a geometry's block read again: the program's Decode.
-/
import Derived.Test.YtdfppilancimhaaDoorGdChecks
import Derived.Test.YtdfppilancimhaaDoorSumTellsMath
import Derived.Deep.RegionWith
namespace Go.Proofs.YtdfppilancimhaaDoor
open Go.RowKit

theorem i64_or_nat (a b : Nat) (ha : a < 9223372036854775808) (hb : b < 9223372036854775808) : bits .or .i64 (a : Int) (b : Int) = ((a ||| b : Nat) : Int) := by
  have hx : a ||| b < 2 ^ 63 := Nat.or_lt_two_pow (by omega) (by omega)
  show IntKind.i64.wrap ((BitVec.ofInt 64 (a : Int) ||| BitVec.ofInt 64 (b : Int)).toNat : Int) = _
  rw [BitVec.toNat_or, ofInt_u64 a (by omega), ofInt_u64 b (by omega), IntKind.wrap_i64]
  omega
theorem orl_b0 (x0 : Nat) (h : x0 < 256) : bits .or .i64 0 (x0 : Int) = (x0 : Int) := by
  have := i64_or_nat 0 x0 (by omega) (by omega)
  rw [Nat.zero_or] at this
  exact this
theorem orl_b1 (a b : Nat) (ha : a < 256) (hb : b < 256) : bits .or .i64 (a : Int) ((b : Int) * 256) = ((a + b * 256 : Nat) : Int) := by
  have := i64_or_nat a (b * 256) (by omega) (by omega)
  rw [or_sum a b 8 ha] at this
  exact this
theorem orl_b2 (a b : Nat) (ha : a < 65536) (hb : b < 256) : bits .or .i64 (a : Int) ((b : Int) * 65536) = ((a + b * 65536 : Nat) : Int) := by
  have := i64_or_nat a (b * 65536) (by omega) (by omega)
  rw [or_sum a b 16 ha] at this
  exact this
theorem orl_b3 (a b : Nat) (ha : a < 16777216) (hb : b < 256) : bits .or .i64 (a : Int) ((b : Int) * 16777216) = ((a + b * 16777216 : Nat) : Int) := by
  have := i64_or_nat a (b * 16777216) (by omega) (by omega)
  rw [or_sum a b 24 ha] at this
  exact this
set_option maxHeartbeats 400000 in
theorem gget_any (x0 x1 x2 x3 b k m c : Nat) (w : World) (hm : 4 ≤ m) (hm2 : m ≤ 9223372036854775807) (h0 : x0 < 256) (h1 : x1 < 256) (h2 : x2 < 256) (h3 : x3 < 256)
    (c0 : w.cell? ⟨b, k, none⟩ = some (.int .u8 x0)) (c1 : w.cell? ⟨b, k + 1, none⟩ = some (.int .u8 x1)) (c2 : w.cell? ⟨b, k + 2, none⟩ = some (.int .u8 x2)) (c3 : w.cell? ⟨b, k + 3, none⟩ = some (.int .u8 x3)) :
    Calls Tryd.prog 24 #[.slice (some ⟨b, k, none⟩) m c] w fun e w' => e = .returned (.int .i64 (x0 + x1 * 256 + x2 * 65536 + x3 * 16777216 : Nat)) ∧ w = w' := by
  go_enter Tryd.func24, Tryd.ntmps24
  go_wp2
  refine wp_loop_rounds 5 ?_
  rw [rounds_succ]
  go_wp2
  rw [rounds_succ]
  go_wp2
  rw [rounds_succ]
  go_wp2
  rw [rounds_succ]
  go_wp2
  rw [rounds_succ]
  go_wp2
  go_ret
  refine ⟨?_, rfl⟩
  have e : (bits BinOp.or IntKind.i64 (bits BinOp.or IntKind.i64 (bits BinOp.or IntKind.i64 (bits BinOp.or IntKind.i64 0 (x0 : Int)) ((x1 : Int) * 256)) ((x2 : Int) * 65536)) ((x3 : Int) * 16777216)) = ((x0 + x1 * 256 + x2 * 65536 + x3 * 16777216 : Nat) : Int) := by
    rw [orl_b0 x0 h0, orl_b1 x0 x1 h0 h1, orl_b2 _ x2 (by omega) h2, orl_b3 _ x3 (by omega) h3]
  rw [← e]
  rfl
/-- Of a row of bytes those from k on are a number's four. -/
theorem gget_row (v : Nat) (l : List Nat) (g k m c : Nat) (w : World) (hv : v < 4294967296) (hr : Row w g l) (hk : k + 4 ≤ l.length) (hm : 4 ≤ m) (hm2 : m ≤ 9223372036854775807)
    (e0 : l.getD k 0 = v % 256) (e1 : l.getD (k + 1) 0 = v / 256 % 256) (e2 : l.getD (k + 2) 0 = v / 65536 % 256) (e3 : l.getD (k + 3) 0 = v / 16777216 % 256) :
    Calls Tryd.prog 24 #[.slice (some ⟨g, k, none⟩) m c] w fun e w' => e = .returned (.int .i64 v) ∧ w = w' := by
  have c0 := hr.cell k (by omega)
  have c1 := hr.cell (k + 1) (by omega)
  have c2 := hr.cell (k + 2) (by omega)
  have c3 := hr.cell (k + 3) (by omega)
  rw [e0] at c0
  rw [e1] at c1
  rw [e2] at c2
  rw [e3] at c3
  have h := gget_any _ _ _ _ g k m c w hm hm2 (by omega) (by omega) (by omega) (by omega) c0 c1 c2 c3
  have e : v % 256 + v / 256 % 256 * 256 + v / 65536 % 256 * 65536 + v / 16777216 % 256 * 16777216 = v := by omega
  rw [e] at h
  exact h
set_option maxHeartbeats 400000 in
theorem equal_same (l : List Nat) (n : Nat) (hn : n = l.length) (a1 a2 : Option Addr) (c1 c2 : Nat) (w : World) (h1 : Bytes w a1 l) (h2 : Bytes w a2 l) :
    Calls Tryd.prog 25 #[.slice a1 n c1, .slice a2 n c2] w fun e w' => e = .returned (.bool true) ∧ w = w' := by
  have s1 := run_str w 28 9 5 Tryd.underlying28 Tryd.underlying5 Tryd.underlying9 l a1 n c1 hn h1
  have s2 := run_str w 28 9 5 Tryd.underlying28 Tryd.underlying5 Tryd.underlying9 l a2 n c2 hn h2
  clear h1 h2 hn
  go_enter Tryd.func25, Tryd.ntmps25
  go_wp2
  go_ret
  exact ⟨rfl, rfl⟩
set_option maxHeartbeats 400000 in
theorem equal_ne (l m : List Nat) (n k : Nat) (hn : n = l.length) (hk : k = m.length) (hne : l ≠ m) (a1 a2 : Option Addr) (c1 c2 : Nat) (w : World) (h1 : Bytes w a1 l) (h2 : Bytes w a2 m) :
    Calls Tryd.prog 25 #[.slice a1 n c1, .slice a2 k c2] w fun e w' => e = .returned (.bool false) ∧ w = w' := by
  have s1 := run_str w 28 9 5 Tryd.underlying28 Tryd.underlying5 Tryd.underlying9 l a1 n c1 hn h1
  have s2 := run_str w 28 9 5 Tryd.underlying28 Tryd.underlying5 Tryd.underlying9 m a2 k c2 hk h2
  have hs := str_ne h1.1 h2.1 hne
  clear h1 h2 hn hk hne
  generalize strOf l = x at *
  generalize strOf m = y at *
  go_enter Tryd.func25, Tryd.ntmps25
  go_wp2
  go_ret
  exact ⟨by simp [hs], rfl⟩
set_option maxHeartbeats 600000 in
theorem decode_badsum (l : List Nat) (hl : 64 = l.length) (a : Option Addr) (cap : Nat) (hc : 64 ≤ cap) (w : World) (ht : Tab w) (hz : 0 < w.heap.size) (h : Bytes w a l) (ha : a = none → l = [] ∧ cap = 0) (hs : sealN (l.take 60) ≠ l) :
    Calls Tryd.prog 16 #[.slice a 64 cap] w fun e w' => e = .returned (.tuple #[.agg #[.int .i64 0, .int .i64 0, .int .i64 0], .int .i64 101]) ∧ Below w.heap.size w w' := by
  have HT := Lib.hid ht
  have H := Lib.hid h
  have HA := Lib.hid ha
  have HS := Lib.hid hs
  have HL := Lib.hid hl
  clear ht h ha hs hl
  go_enter Tryd.func16, Tryd.ntmps16
  go_wp2_with fail
  have HB0 : Hid (Below w.heap.size w (w.alloc (.cells #[.int .i64 0, .int .i64 0, .int .i64 0] 23))) := sup_below w _
  have HC0 := Lib.hid (cells3_laid w 0 0 0 23)
  have HF0 : Hid (∀ j, (w.alloc (.cells #[.int .i64 0, .int .i64 0, .int .i64 0] 23)).frozen? ⟨w.heap.size, j, none⟩ = false) := fun j => by simp
  refine (open_bad l 64 60 HL.out rfl (by decide) a cap hc _ (HT.out.below HB0.out hz) (H.out.below HB0.out) HA.out HS.out).mono ?_
  rintro e w1 ⟨rfl, hb1⟩
  have HB1 : Hid (Below w.heap.size w w1) := HB0.out.trans (hb1.mono (by simp))
  obtain ⟨c0, c1, c2⟩ := HC0.out.below hb1 (by simp)
  have f0 := (hb1.frozen (p := ⟨w.heap.size, 0, none⟩) (by simp)).trans (HF0.out 0)
  have f1 := (hb1.frozen (p := ⟨w.heap.size, 1, none⟩) (by simp)).trans (HF0.out 1)
  have f2 := (hb1.frozen (p := ⟨w.heap.size, 2, none⟩) (by simp)).trans (HF0.out 2)
  have HB1' := HB1
  clear hb1
  go_wp2
  refine bodyPost_ret (v := .tuple #[.agg #[.int .i64 0, .int .i64 0, .int .i64 0], .int .i64 101]) ?_ rfl ⟨rfl, ?_⟩
  · simp [results, Tryd.results16, go_sem, c0, c1, c2]
  · exact ((HB1.out.setCell (p := ⟨w.heap.size, 0, none⟩) (Nat.le_refl _) _).setCell (p := ⟨w.heap.size, 1, none⟩) (Nat.le_refl _) _).setCell (p := ⟨w.heap.size, 2, none⟩) (Nat.le_refl _) _
theorem body_at (B S I : Nat) : (bodyN B S I).getD 4 0 = B % 256 ∧ (bodyN B S I).getD 5 0 = B / 256 % 256 ∧ (bodyN B S I).getD 6 0 = B / 65536 % 256 ∧ (bodyN B S I).getD 7 0 = B / 16777216 % 256 ∧
    (bodyN B S I).getD 8 0 = S % 256 ∧ (bodyN B S I).getD 9 0 = S / 256 % 256 ∧ (bodyN B S I).getD 10 0 = S / 65536 % 256 ∧ (bodyN B S I).getD 11 0 = S / 16777216 % 256 ∧
    (bodyN B S I).getD 12 0 = I % 256 ∧ (bodyN B S I).getD 13 0 = I / 256 % 256 ∧ (bodyN B S I).getD 14 0 = I / 65536 % 256 ∧ (bodyN B S I).getD 15 0 = I / 16777216 % 256 :=
  ⟨rfl, rfl, rfl, rfl, rfl, rfl, rfl, rfl, rfl, rfl, rfl, rfl⟩
theorem gget_body (B S I : Nat) (g : Nat) (w : World) (hr : Row w g (bodyN B S I)) (hB : B < 4294967296) (hS : S < 4294967296) (hI : I < 4294967296) :
    (Calls Tryd.prog 24 #[.slice (some ⟨g, 4, none⟩) 56 56] w fun e w' => e = .returned (.int .i64 B) ∧ w = w') ∧
    (Calls Tryd.prog 24 #[.slice (some ⟨g, 8, none⟩) 52 52] w fun e w' => e = .returned (.int .i64 S) ∧ w = w') ∧
    (Calls Tryd.prog 24 #[.slice (some ⟨g, 12, none⟩) 48 48] w fun e w' => e = .returned (.int .i64 I) ∧ w = w') := by
  obtain ⟨h0, h1, h2, h3, h4, h5, h6, h7, h8, h9, h10, h11⟩ := body_at B S I
  have hl := bodyN_length B S I
  exact ⟨gget_row B _ g 4 56 56 w hB hr (by omega) (by decide) (by decide) h0 h1 h2 h3, gget_row S _ g 8 52 52 w hS hr (by omega) (by decide) (by decide) h4 h5 h6 h7,
    gget_row I _ g 12 48 48 w hI hr (by omega) (by decide) (by decide) h8 h9 h10 h11⟩
theorem region_one {P : Program} {c : Code} {Q : Exit → Act → World → Prop} {a : Act} {w : World} (A : Act) (W : World) (h : c.wp P (Exit.then (fun a' w' => a' = A ∧ w' = W) (fun _ _ _ => False)) a w) (t : Q .normal A W) : c.wp P Q a w := by
  refine Code.wp_mono (fun e a' w' hq => ?_) h
  cases e with
  | normal => obtain ⟨rfl, rfl⟩ := hq; exact t
  | _ => exact hq.elim
instance good_dec (b s i : Int) : Decidable (Good b s i) := by unfold Good; infer_instance
structure RowS (w : World) (g : Nat) (l : List Nat) : Prop where
  out : Row w g l
/-- What Encode answers, of sixty bytes that are told by a letter. -/
def EncL (w : World) (L : List Nat) (e : Ending) (w' : World) : Prop :=
  ∃ g, e = .returned (.tuple #[.slice (some ⟨g, 0, none⟩) 64 64, .int .i64 0]) ∧ Row w' g (sealN L) ∧ w.heap.size ≤ g ∧ Below w.heap.size w w'
set_option maxHeartbeats 4000000 in
theorem decode_sealed (L : List Nat) (hlen : L.length = 60) (B S I : Nat) (a : Option Addr) (cap : Nat) (hc : 64 ≤ cap) (w : World) (ht : Tab w) (hz : 0 < w.heap.size) (h : Bytes w a (sealN L)) (ha : a ≠ none)
    (GB0 : ∀ g W, Row W g L →
    (Calls Tryd.prog 24 #[.slice (some ⟨g, 4, none⟩) 56 56] W fun e w' => e = .returned (.int .i64 B) ∧ W = w') ∧
    (Calls Tryd.prog 24 #[.slice (some ⟨g, 8, none⟩) 52 52] W fun e w' => e = .returned (.int .i64 S) ∧ W = w') ∧
    (Calls Tryd.prog 24 #[.slice (some ⟨g, 12, none⟩) 48 48] W fun e w' => e = .returned (.int .i64 I) ∧ W = w')) :
    Calls Tryd.prog 16 #[.slice a 64 cap] w fun e w' => e = .returned (if Good B S I ∧ bodyN B S I = L then .tuple #[.agg #[.int .i64 B, .int .i64 S, .int .i64 I], .int .i64 0] else .tuple #[.agg #[.int .i64 0, .int .i64 0, .int .i64 0], .int .i64 100]) ∧ Below w.heap.size w w' := by
  have HT := Lib.hid ht
  have H := Lib.hid h
  have HL : Hid (64 = (sealN L).length) := by show _ = _; rw [len4, hlen]
  have HK : Hid ((sealN L).take 60 = L) := by
    show _ = _
    unfold sealN
    rw [List.take_append_of_le_length (by rw [hlen]; decide), List.take_of_length_le (by rw [hlen]; decide)]
  have HA := Lib.hid ha
  have GB := Lib.hid GB0
  clear ht h ha GB0 hlen
  generalize hR : (if Good B S I ∧ bodyN B S I = L then Value.tuple #[.agg #[.int .i64 B, .int .i64 S, .int .i64 I], .int .i64 0] else Value.tuple #[.agg #[.int .i64 0, .int .i64 0, .int .i64 0], .int .i64 100]) = R
  have HR := Lib.hid hR
  clear hR
  go_enter Tryd.func16, Tryd.ntmps16
  go_wp2_with fail
  have HB0 : Hid (Below w.heap.size w (w.alloc (.cells #[.int .i64 0, .int .i64 0, .int .i64 0] 23))) := sup_below w _
  have HC0 := Lib.hid (cells3_laid w 0 0 0 23)
  have HF0 : Hid (∀ j, (w.alloc (.cells #[.int .i64 0, .int .i64 0, .int .i64 0] 23)).frozen? ⟨w.heap.size, j, none⟩ = false) := fun j => by simp
  have hz0 : w.heap.size < (w.alloc (.cells #[.int .i64 0, .int .i64 0, .int .i64 0] 23)).heap.size := by simp
  generalize w.alloc (.cells #[.int .i64 0, .int .i64 0, .int .i64 0] 23) = w0 at HB0 HC0 HF0 hz0 ⊢
  refine (open_good (sealN L) 64 60 HL.out rfl (by decide) a cap hc _ (HT.out.below HB0.out hz) (H.out.below HB0.out) (fun e => absurd e HA.out) (by rw [HK.out])).mono ?_
  rintro e w1 ⟨gi, rfl, hr1, hg1, hb1⟩
  rw [HK.out] at hr1
  have HR1 := Lib.hid hr1
  have HX1 := Lib.hid hb1
  have hlt1 : gi < w1.heap.size := by
    rcases Nat.lt_or_ge gi w1.heap.size with h' | h'
    · exact h'
    · unfold Row at hr1
      rw [Array.getElem?_eq_none h'] at hr1; cases hr1
  clear hr1 hb1
  have hRow : Hid (∀ W, Below w1.heap.size w1 W → Row W gi L) := fun W hb => HR1.out.below hb hlt1
  have s4 : ∀ W, (Instr.slice 28 (.slice (some ⟨gi, 0, none⟩) 60 60) (some (.int .i64 4)) none none).run Tryd.prog W = .ok (.slice (some ⟨gi, 4, none⟩) 56 56) W := slice60 _ 4 56 rfl (by decide)
  have s8 : ∀ W, (Instr.slice 28 (.slice (some ⟨gi, 0, none⟩) 60 60) (some (.int .i64 8)) none none).run Tryd.prog W = .ok (.slice (some ⟨gi, 8, none⟩) 52 52) W := slice60 _ 8 52 rfl (by decide)
  have s12 : ∀ W, (Instr.slice 28 (.slice (some ⟨gi, 0, none⟩) 60 60) (some (.int .i64 12)) none none).run Tryd.prog W = .ok (.slice (some ⟨gi, 12, none⟩) 48 48) W := slice60 _ 12 48 rfl (by decide)
  go_wp2_with fail
  have e1 : IntKind.i64.wrap (4 + 4) = 8 := by decide
  have e2 : IntKind.i64.wrap (4 + 8) = 12 := by decide
  have hD : Hid (RowS w1.drew gi L) := ⟨hRow.out _ ((Below.refl _ _).drew)⟩
  have hA2 : Hid (∀ o, RowS (w1.drew.alloc o) gi L) := fun o => ⟨hRow.out _ (((Below.refl _ _).drew).alloc (Nat.le_refl _) o)⟩
  have hA1 : Hid (∀ o, RowS (w1.alloc o).drew gi L) := fun o => ⟨hRow.out _ (((Below.refl _ _).alloc (Nat.le_refl _) o).drew)⟩
  have G4 : Hid (∀ W, RowS W gi L → Calls Tryd.prog 24 #[.slice (some ⟨gi, 4, none⟩) 56 56] W fun e w' => e = .returned (.int .i64 B) ∧ W = w') := fun W h => (GB.out gi W h.out).1
  have G8 : Hid (∀ W, RowS W gi L → Calls Tryd.prog 24 #[.slice (some ⟨gi, 8, none⟩) 52 52] W fun e w' => e = .returned (.int .i64 S) ∧ W = w') := fun W h => (GB.out gi W h.out).2.1
  have G12 : Hid (∀ W, RowS W gi L → Calls Tryd.prog 24 #[.slice (some ⟨gi, 12, none⟩) 48 48] W fun e w' => e = .returned (.int .i64 I) ∧ W = w') := fun W h => (GB.out gi W h.out).2.2
  clear GB
  refine region_one { tmps := #[Value.slice a 64 cap, undef, Value.pointer (some { block := w.heap.size, off := 0 }), Value.int IntKind.i64 0,
          Value.slice (some { block := gi, off := 0 }) 60 60, Value.int IntKind.i64 0, Value.int IntKind.i64 4,
          Value.pointer (some { block := w1.heap.size, off := 0 }), undef, undef, Value.slice a 64 cap,
          Value.int IntKind.i64 64, Value.bool false, undef,
          Value.tuple #[Value.slice (some { block := gi, off := 0 }) 60 60, Value.int IntKind.i64 0],
          Value.slice a 64 cap,
          Value.tuple #[Value.slice (some { block := gi, off := 0 }) 60 60, Value.int IntKind.i64 0],
          Value.slice (some { block := gi, off := 0 }) 60 60, Value.int IntKind.i64 0, Value.int IntKind.i64 0,
          Value.bool false, undef, undef, Value.slice (some { block := gi, off := 0 }) 60 60, Value.int IntKind.i64 4,
          Value.slice (some { block := gi, off := 4 }) 56 56, Value.int IntKind.i64 B,
          Value.slice (some { block := gi, off := 0 }) 60 60, Value.int IntKind.i64 4, Value.int IntKind.i64 8,
          Value.slice (some { block := gi, off := 8 }) 52 52, Value.int IntKind.i64 S,
          Value.slice (some { block := gi, off := 0 }) 60 60, Value.int IntKind.i64 4, Value.int IntKind.i64 12,
          Value.slice (some { block := gi, off := 12 }) 48 48, Value.int IntKind.i64 I,
          Value.agg #[Value.int IntKind.i64 B, Value.int IntKind.i64 S, Value.int IntKind.i64 I], undef, undef,
          undef, undef, undef, undef, undef, undef, undef, undef, undef, undef, undef, undef, undef], defers := [] } ((w1.alloc (.cells #[.int .i64 B, .int .i64 S, .int .i64 I] 23)).drew) ?_ ?_
  · go_region_with (go_at_call 24; (first | (with_reducible refine (G4.out _ ?_).mono ?_) | (with_reducible refine (G8.out _ ?_).mono ?_) | (with_reducible refine (G12.out _ ?_).mono ?_)); (first | (with_reducible exact hD.out) | (with_reducible exact hA1.out _) | (with_reducible exact hA2.out _)); rintro e wx ⟨rfl, rfl⟩)
    all_goals exact ⟨rfl, rfl⟩
  clear G4 G8 G12 hD hA1 hA2 s4 s8 s12 e1 e2 hRow
  have hb2 : Below w1.heap.size w1 ((w1.alloc (.cells #[.int .i64 B, .int .i64 S, .int .i64 I] 23)).drew) := ((Below.refl _ _).alloc (Nat.le_refl _) _).drew
  have HC2 : Hid (Cells3 ((w1.alloc (.cells #[.int .i64 B, .int .i64 S, .int .i64 I] 23)).drew) w1.heap.size B S I) := (cells3_laid w1 B S I 23).later ((Below.refl _ _).drew)
  have HB1 : Hid (Below w.heap.size w w1) := HB0.out.trans (HX1.out.mono HB0.out.size)
  have HB2 : Hid (Below w.heap.size w ((w1.alloc (.cells #[.int .i64 B, .int .i64 S, .int .i64 I] 23)).drew)) := HB1.out.trans (hb2.mono HB1.out.size)
  generalize (w1.alloc (.cells #[.int .i64 B, .int .i64 S, .int .i64 I] 23)).drew = w2 at hb2 HC2 HB2 ⊢
  have hz2 : w1.heap.size ≤ w2.heap.size := hb2.size
  have HX2 : Hid (Below w0.heap.size w0 w2) := HX1.out.trans (hb2.mono HX1.out.size)
  clear hb2
  by_cases hG : Good B S I
  · by_cases hE : bodyN B S I = L
    · have hR := HR.out
      rw [if_pos ⟨hG, hE⟩] at hR
      subst hR
      have HEn : Hid (∀ W, Tab W → 0 < W.heap.size → Calls Tryd.prog 9 #[.agg #[.int .i64 B, .int .i64 S, .int .i64 I]] W (EncL W L)) := by rw [← hE]; exact fun W h1 h2 => encode_good B S I W h1 h2 hG
      clear HR hG hE
      obtain ⟨c0, c1, c2⟩ := HC2.out
      go_wp2_with fail
      refine (HEn.out _ (HT.out.below HB2.out hz) (by have := HB2.out.size; omega)).mono ?_
      rintro e w3 ⟨g, rfl, hr3, hg3, hb3⟩
      have HB3 : Hid (Below w.heap.size w w3) := HB2.out.trans (hb3.mono HB2.out.size)
      have HC3 := Lib.hid (HC2.out.later hb3)
      have HY3 : Hid (Bytes w3 (some ⟨g, 0, none⟩) (sealN L)) := hr3.bytes H.out.1 (by have := H.out.2.1; exact this)
      have HX3 : Hid (Below w0.heap.size w0 w3) := HX2.out.trans (hb3.mono HX2.out.size)
      obtain ⟨d0, d1, d2⟩ := HC0.out.below HX3.out hz0
      have f0 := (HX3.out.frozen (p := ⟨w.heap.size, 0, none⟩) hz0).trans (HF0.out 0)
      have f1 := (HX3.out.frozen (p := ⟨w.heap.size, 1, none⟩) hz0).trans (HF0.out 1)
      have f2 := (HX3.out.frozen (p := ⟨w.heap.size, 2, none⟩) hz0).trans (HF0.out 2)
      clear hb3 hr3 hg3 c0 c1 c2
      obtain ⟨c0, c1, c2⟩ := HC3.out
      go_wp2_with fail
      refine (equal_same (sealN L) 64 HL.out _ _ 64 cap _ HY3.out (H.out.below HB3.out)).mono ?_
      rintro e w4 ⟨rfl, rfl⟩
      go_wp2_with fail
      all_goals
        refine bodyPost_ret (v := .tuple #[.agg #[.int .i64 B, .int .i64 S, .int .i64 I], .int .i64 0]) ?_ rfl ⟨rfl, ?_⟩
        · simp [results, Tryd.results16, go_sem, d0, d1, d2]
        · exact ((HB3.out.setCell (p := ⟨w.heap.size, 0, none⟩) (Nat.le_refl _) _).setCell (p := ⟨w.heap.size, 1, none⟩) (Nat.le_refl _) _).setCell (p := ⟨w.heap.size, 2, none⟩) (Nat.le_refl _) _
    · have hR := HR.out
      rw [if_neg (fun h => hE h.2)] at hR
      subst hR
      have HEn : Hid (∀ W, Tab W → 0 < W.heap.size → Calls Tryd.prog 9 #[.agg #[.int .i64 B, .int .i64 S, .int .i64 I]] W (EncL W (bodyN B S I))) := fun W h1 h2 => encode_good B S I W h1 h2 hG
      have HM : Hid (64 = (sealN (bodyN B S I)).length) := by show _ = _; rw [len4, bodyN_length]
      have HM8 : Hid (∀ x ∈ sealN (bodyN B S I), x < 256) := sealN_lt (bodyN_lt B S I)
      have HNe : Hid (sealN (bodyN B S I) ≠ sealN L) := fun e => hE (by
        have h1 := congrArg (List.take 60) e
        rw [HK.out] at h1
        rw [← h1]
        unfold sealN
        rw [List.take_append_of_le_length (by rw [bodyN_length]; decide), List.take_of_length_le (by rw [bodyN_length]; decide)])
      clear HR hG hE
      generalize bodyN B S I = M at *
      obtain ⟨c0, c1, c2⟩ := HC2.out
      go_wp2_with fail
      refine (HEn.out _ (HT.out.below HB2.out hz) (by have := HB2.out.size; omega)).mono ?_
      rintro e w3 ⟨g, rfl, hr3, hg3, hb3⟩
      have HB3 : Hid (Below w.heap.size w w3) := HB2.out.trans (hb3.mono HB2.out.size)
      have HC3 := Lib.hid (HC2.out.later hb3)
      have HY3 : Hid (Bytes w3 (some ⟨g, 0, none⟩) (sealN M)) := hr3.bytes HM8.out (by have := HM.out; omega)
      have HX3 : Hid (Below w0.heap.size w0 w3) := HX2.out.trans (hb3.mono HX2.out.size)
      obtain ⟨d0, d1, d2⟩ := HC0.out.below HX3.out hz0
      have f0 := (HX3.out.frozen (p := ⟨w.heap.size, 0, none⟩) hz0).trans (HF0.out 0)
      have f1 := (HX3.out.frozen (p := ⟨w.heap.size, 1, none⟩) hz0).trans (HF0.out 1)
      have f2 := (HX3.out.frozen (p := ⟨w.heap.size, 2, none⟩) hz0).trans (HF0.out 2)
      clear hb3 hr3 hg3 c0 c1 c2
      obtain ⟨c0, c1, c2⟩ := HC3.out
      go_wp2_with fail
      refine (equal_ne (sealN M) (sealN L) 64 64 HM.out HL.out HNe.out _ _ 64 cap _ HY3.out (H.out.below HB3.out)).mono ?_
      rintro e w4 ⟨rfl, rfl⟩
      go_wp2_with fail
      all_goals
        refine bodyPost_ret (v := .tuple #[.agg #[.int .i64 0, .int .i64 0, .int .i64 0], .int .i64 100]) ?_ rfl ⟨rfl, ?_⟩
        · simp [results, Tryd.results16, go_sem, d0, d1, d2]
        · exact ((HB3.out.setCell (p := ⟨w.heap.size, 0, none⟩) (Nat.le_refl _) _).setCell (p := ⟨w.heap.size, 1, none⟩) (Nat.le_refl _) _).setCell (p := ⟨w.heap.size, 2, none⟩) (Nat.le_refl _) _
  · have hR := HR.out
    rw [if_neg (fun h => hG h.1)] at hR
    subst hR
    have HGn := Lib.hid hG
    clear HR hG
    obtain ⟨c0, c1, c2⟩ := HC2.out
    go_wp2_with fail
    refine (encode_bad B S I _ HGn.out).mono ?_
    rintro e w3 ⟨rfl, hb3⟩
    have HB3 : Hid (Below w.heap.size w w3) := HB2.out.trans (hb3.mono HB2.out.size)
    have HX3 : Hid (Below w0.heap.size w0 w3) := HX2.out.trans (hb3.mono HX2.out.size)
    obtain ⟨d0, d1, d2⟩ := HC0.out.below HX3.out hz0
    have f0 := (HX3.out.frozen (p := ⟨w.heap.size, 0, none⟩) hz0).trans (HF0.out 0)
    have f1 := (HX3.out.frozen (p := ⟨w.heap.size, 1, none⟩) hz0).trans (HF0.out 1)
    have f2 := (HX3.out.frozen (p := ⟨w.heap.size, 2, none⟩) hz0).trans (HF0.out 2)
    clear hb3 c0 c1 c2
    go_wp2_with fail
    all_goals
      refine bodyPost_ret (v := .tuple #[.agg #[.int .i64 0, .int .i64 0, .int .i64 0], .int .i64 100]) ?_ rfl ⟨rfl, ?_⟩
      · simp [results, Tryd.results16, go_sem, d0, d1, d2]
      · exact ((HB3.out.setCell (p := ⟨w.heap.size, 0, none⟩) (Nat.le_refl _) _).setCell (p := ⟨w.heap.size, 1, none⟩) (Nat.le_refl _) _).setCell (p := ⟨w.heap.size, 2, none⟩) (Nat.le_refl _) _
theorem decode_good (B S I : Nat) (hG : Good B S I) (a : Option Addr) (cap : Nat) (hc : 64 ≤ cap) (w : World) (ht : Tab w) (hz : 0 < w.heap.size) (h : Bytes w a (sealN (bodyN B S I))) (ha : a ≠ none) :
    Calls Tryd.prog 16 #[.slice a 64 cap] w fun e w' => e = .returned (.tuple #[.agg #[.int .i64 B, .int .i64 S, .int .i64 I], .int .i64 0]) ∧ Below w.heap.size w w' := by
  have hB : B < 4294967296 := by have := hG.2.1; omega
  have hS : S < 4294967296 := by have := hG.2.2.2.1; omega
  have hI : I < 4294967296 := by have := hG.2.2.2.2.2.1; omega
  have h1 := decode_sealed (bodyN B S I) (bodyN_length B S I) B S I a cap hc w ht hz h ha (fun g W hr => gget_body B S I g W hr hB hS hI)
  rw [if_pos ⟨hG, rfl⟩] at h1
  exact h1
end Go.Proofs.YtdfppilancimhaaDoor
