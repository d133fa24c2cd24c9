/-
  The walk of an inode's Decode, of a block that is sealed.
-/
import Derived.Test.YtfkobamemehkdaaDoorInSealed
import Derived.Test.YtfkobamemehkdaaDoorInGet
import Derived.Test.YtfkobamemehkdaaDoorEqual
import Derived.Laws.Tables
import Derived.Laws.CopyOwn
namespace Go.Proofs.YtfkobamemehkdaaDoor
open Go.RowKit

/-- The numbers of sixty bytes. -/
def b2 (L : List Nat) (k : Nat) : Nat := L.getD k 0 + L.getD (k + 1) 0 * 256
def b4 (L : List Nat) (k : Nat) : Nat := L.getD k 0 + L.getD (k + 1) 0 * 256 + L.getD (k + 2) 0 * 65536 + L.getD (k + 3) 0 * 16777216
def ptI (L : List Nat) (k : Nat) : Nat := b4 L (10 + k * 4)
theorem b4_lt {L : List Nat} (h : ∀ x ∈ L, x < 256) (k : Nat) : b4 L k < 4294967296 := by
  have h0 := getD_byte h k
  have h1 := getD_byte h (k + 1)
  have h2 := getD_byte h (k + 2)
  have h3 := getD_byte h (k + 3)
  unfold b4
  omega
def icells (a b c d s : Nat) (L : List Nat) (k : Nat) : List Value := Value.int .i64 a :: .int .i64 b :: .int .i64 c :: .int .i64 d :: .int .i64 s :: (List.range 9).map fun j => if j < k then .int .u32 (ptI L j : Nat) else .int .u32 0
theorem icells_next (a b c d s : Nat) (L : List Nat) (k : Nat) : (icells a b c d s L k).set (5 + k) (.int .u32 (ptI L k : Nat)) = icells a b c d s L (k + 1) := by
  have e : 5 + k = k + 1 + 1 + 1 + 1 + 1 := by omega
  unfold icells
  rw [e]
  simp only [List.set_cons_succ]
  congr 5
  apply List.ext_getElem (by simp)
  intro i h1 h2
  simp only [List.getElem_set, List.getElem_map, List.getElem_range]
  by_cases e : k = i
  · subst e; simp
  · rw [if_neg e]
    by_cases e2 : i < k
    · rw [if_pos e2, if_pos (by omega)]
    · rw [if_neg e2, if_neg (by omega)]
theorem icells_zero (a b c d s : Nat) (L : List Nat) : (icells a b c d s L 0).toArray = #[.int .i64 a, .int .i64 b, .int .i64 c, .int .i64 d, .int .i64 s, .int .u32 0, .int .u32 0, .int .u32 0, .int .u32 0, .int .u32 0, .int .u32 0, .int .u32 0, .int .u32 0, .int .u32 0] := by kernel_rfl
theorem icells_all (a b c d s : Nat) (L : List Nat) : (icells a b c d s L 9).toArray = ino a b c d s (ptI L 0) (ptI L 1) (ptI L 2) (ptI L 3) (ptI L 4) (ptI L 5) (ptI L 6) (ptI L 7) (ptI L 8) := by kernel_rfl
def DRel (w2 : World) (g6 A B C D S : Nat) (L : List Nat) (i : Value) (wr : World) : Prop :=
  ∃ k : Nat, k ≤ 9 ∧ i = .int .i64 k ∧ Blo wr g6 25 (icells A B C D S L k).toArray ∧ Below g6 w2 wr
theorem infoIno : (Tryd.prog.info? 25).map (·.size) = some 14 := by kernel_rfl
theorem icells_one (A B C D S : Nat) (L : List Nat) : (icells A B C D S L 9).toArray.all (·.oneCell') = true := by rw [icells_all]; simp [Value.oneCell']
theorem zino_one : zino.all (·.oneCell') = true := by kernel_rfl
/-- What Decode answers of sixty bytes that are sealed. -/
def DecR (L : List Nat) (R : Value) : Prop :=
  (GoodI (b2 L 0) (b2 L 2) (L.getD 4 0) (L.getD 5 0) (b4 L 6) ∧ inoN (b2 L 0) (b2 L 2) (L.getD 4 0) (L.getD 5 0) (b4 L 6) (ptI L 0) (ptI L 1) (ptI L 2) (ptI L 3) (ptI L 4) (ptI L 5) (ptI L 6) (ptI L 7) (ptI L 8) = L ∧ R = .tuple #[.agg (ino (b2 L 0) (b2 L 2) (L.getD 4 0) (L.getD 5 0) (b4 L 6) (ptI L 0) (ptI L 1) (ptI L 2) (ptI L 3) (ptI L 4) (ptI L 5) (ptI L 6) (ptI L 7) (ptI L 8)), .int .i64 0]) ∨
  (¬ (GoodI (b2 L 0) (b2 L 2) (L.getD 4 0) (L.getD 5 0) (b4 L 6) ∧ inoN (b2 L 0) (b2 L 2) (L.getD 4 0) (L.getD 5 0) (b4 L 6) (ptI L 0) (ptI L 1) (ptI L 2) (ptI L 3) (ptI L 4) (ptI L 5) (ptI L 6) (ptI L 7) (ptI L 8) = L) ∧ R = .tuple #[.agg zino, .int .i64 100])
structure RowS (w : World) (g : Nat) (l : List Nat) : Prop where
  out : Row w g l
theorem get1_row (L : List Nat) (g k c : Nat) (h8 : ∀ x ∈ L, x < 256) (hk : k < L.length) (W : World) (hr : RowS W g L) :
    Calls Tryd.prog 25 #[.slice (some ⟨g, k, none⟩) 1 c] W fun e w' => e = .returned (.int .i64 (L.getD k 0 : Nat)) ∧ W = w' :=
  get1_any _ g k c W (getD_byte h8 _) (hr.out.cell k hk)
theorem get2_row (L : List Nat) (g k c : Nat) (h8 : ∀ x ∈ L, x < 256) (hk : k + 1 < L.length) (W : World) (hr : RowS W g L) :
    Calls Tryd.prog 25 #[.slice (some ⟨g, k, none⟩) 2 c] W fun e w' => e = .returned (.int .i64 (b2 L k : Nat)) ∧ W = w' :=
  get2_any _ _ g k c W (getD_byte h8 _) (getD_byte h8 _) (hr.out.cell k (by omega)) (hr.out.cell (k + 1) hk)
theorem get4_row (L : List Nat) (g k c : Nat) (h8 : ∀ x ∈ L, x < 256) (hk : k + 3 < L.length) (W : World) (hr : RowS W g L) :
    Calls Tryd.prog 25 #[.slice (some ⟨g, k, none⟩) 4 c] W fun e w' => e = .returned (.int .i64 (b4 L k : Nat)) ∧ W = w' :=
  get4_any _ _ _ _ g k c W (getD_byte h8 _) (getD_byte h8 _) (getD_byte h8 _) (getD_byte h8 _) (hr.out.cell k (by omega)) (hr.out.cell (k + 1) (by omega)) (hr.out.cell (k + 2) (by omega)) (hr.out.cell (k + 3) hk)
set_option maxHeartbeats 4000000 in
theorem inDecode_sealed (L : List Nat) (hlen : L.length = 60) (a : Option Addr) (cap : Nat) (hc : 64 ≤ cap) (w : World) (ht : Tab w) (hz : 0 < w.heap.size) (h : Bytes w a (sealN L)) (ha : a ≠ none) (R : Value) (hR0 : DecR L R) :
    Calls Tryd.prog 14 #[.slice a 64 cap] w fun e w' => e = .returned R ∧ Below w.heap.size w w' := by
  have HT := Lib.hid ht
  have H := Lib.hid h
  have HL : Hid (64 = (sealN L).length) := by show _ = _; rw [len4, hlen]
  have HK : Hid ((sealN L).take 60 = L) := by
    show _ = _
    unfold sealN
    rw [List.take_append_of_le_length (by rw [hlen]; decide), List.take_of_length_le (by rw [hlen]; decide)]
  have HA := Lib.hid ha
  have H8 : Hid (∀ x ∈ L, x < 256) := fun x hx => h.1 x (by unfold sealN; exact List.mem_append_left _ hx)
  have HLen := Lib.hid hlen
  have hR := hR0
  unfold DecR at hR
  have HR0 := Lib.hid hR
  have h32 : ∀ k, ptI L k < 4294967296 := fun k => b4_lt H8.out _
  have H32 := Lib.hid h32
  clear hR hR0 h32
  clear ht h ha hlen
  go_enter Tryd.func14, Tryd.ntmps14
  go_wp2_with fail
  have HB0 : Hid (Below w.heap.size w (w.alloc (.cells zino 25))) := sup_below w _
  have HG0 := Lib.hid (blo_laid w 25 zino)
  have hz0 : w.heap.size < (w.alloc (.cells zino 25)).heap.size := by simp
  generalize w.alloc (.cells zino 25) = w0 at HB0 HG0 hz0 ⊢
  refine (open_good (sealN L) 64 60 HL.out rfl (by decide) a cap hc _ (HT.out.below HB0.out hz) (H.out.below HB0.out) (fun e => absurd e HA.out) (by rw [HK.out])).mono ?_
  rintro e w1 ⟨gi, rfl, hr1, hg1, hb1⟩
  rw [HK.out] at hr1
  have HR1 := Lib.hid hr1
  have HX1 := Lib.hid hb1
  have hlt1 : gi < w1.heap.size := by
    rcases Nat.lt_or_ge gi w1.heap.size with h' | h'
    · exact h'
    · unfold Row at hr1
      rw [Array.getElem?_eq_none h'] at hr1; cases hr1
  clear hr1 hb1
  have hRow : Hid (∀ W, Below w1.heap.size w1 W → Row W gi L) := fun W hb => HR1.out.below hb hlt1
  go_wp2_with fail
  have hD : Hid (RowS w1.drew gi L) := ⟨hRow.out _ ((Below.refl _ _).drew)⟩
  have hA2 : Hid (∀ o, RowS (w1.drew.alloc o) gi L) := fun o => ⟨hRow.out _ (((Below.refl _ _).drew).alloc (Nat.le_refl _) o)⟩
  have hA1 : Hid (∀ o, RowS (w1.alloc o).drew gi L) := fun o => ⟨hRow.out _ (((Below.refl _ _).alloc (Nat.le_refl _) o).drew)⟩
  have G0 : Hid (∀ W, RowS W gi L → Calls Tryd.prog 25 #[.slice (some ⟨gi, 0, none⟩) 2 60] W fun e w' => e = .returned (.int .i64 (b2 L 0 : Nat)) ∧ W = w') := get2_row L gi 0 60 H8.out (by rw [HLen.out]; decide)
  have G2 : Hid (∀ W, RowS W gi L → Calls Tryd.prog 25 #[.slice (some ⟨gi, 2, none⟩) 2 58] W fun e w' => e = .returned (.int .i64 (b2 L 2 : Nat)) ∧ W = w') := get2_row L gi 2 58 H8.out (by rw [HLen.out]; decide)
  have G4 : Hid (∀ W, RowS W gi L → Calls Tryd.prog 25 #[.slice (some ⟨gi, 4, none⟩) 1 56] W fun e w' => e = .returned (.int .i64 (L.getD 4 0 : Nat)) ∧ W = w') := get1_row L gi 4 56 H8.out (by rw [HLen.out]; decide)
  have G5 : Hid (∀ W, RowS W gi L → Calls Tryd.prog 25 #[.slice (some ⟨gi, 5, none⟩) 1 55] W fun e w' => e = .returned (.int .i64 (L.getD 5 0 : Nat)) ∧ W = w') := get1_row L gi 5 55 H8.out (by rw [HLen.out]; decide)
  have G6 : Hid (∀ W, RowS W gi L → Calls Tryd.prog 25 #[.slice (some ⟨gi, 6, none⟩) 4 54] W fun e w' => e = .returned (.int .i64 (b4 L 6 : Nat)) ∧ W = w') := get4_row L gi 6 54 H8.out (by rw [HLen.out]; decide)
  generalize b2 L 0 = A at *
  generalize b2 L 2 = B at *
  generalize L.getD 4 0 = C at *
  generalize L.getD 5 0 = D at *
  generalize b4 L 6 = S at *
  refine region_one { tmps := #[Value.slice a 64 cap, undef, Value.pointer (some { block := w.heap.size, off := 0 }), Value.int IntKind.i64 0, Value.slice (some { block := gi, off := 0 }) 60 60, Value.int IntKind.i64 0, Value.pointer (some { block := w1.heap.size, off := 0 }), undef, undef, undef, Value.slice a 64 cap, Value.int IntKind.i64 64, Value.bool false, undef, Value.tuple #[Value.slice (some { block := gi, off := 0 }) 60 60, Value.int IntKind.i64 0], Value.slice a 64 cap, Value.tuple #[Value.slice (some { block := gi, off := 0 }) 60 60, Value.int IntKind.i64 0], Value.slice (some { block := gi, off := 0 }) 60 60, Value.int IntKind.i64 0, Value.int IntKind.i64 0, Value.bool false, undef, undef, Value.slice (some { block := gi, off := 0 }) 60 60, Value.slice (some { block := gi, off := 0 }) 2 60, Value.int IntKind.i64 A, Value.slice (some { block := gi, off := 0 }) 60 60, Value.slice (some { block := gi, off := 2 }) 2 58, Value.int IntKind.i64 B, Value.slice (some { block := gi, off := 0 }) 60 60, Value.slice (some { block := gi, off := 4 }) 1 56, Value.int IntKind.i64 C, Value.slice (some { block := gi, off := 0 }) 60 60, Value.slice (some { block := gi, off := 5 }) 1 55, Value.int IntKind.i64 D, Value.slice (some { block := gi, off := 0 }) 60 60, Value.slice (some { block := gi, off := 6 }) 4 54, Value.int IntKind.i64 S, Value.agg #[Value.int IntKind.i64 A, Value.int IntKind.i64 B, Value.int IntKind.i64 C, Value.int IntKind.i64 D, Value.int IntKind.i64 S, Value.int IntKind.u32 0, Value.int IntKind.u32 0, Value.int IntKind.u32 0, Value.int IntKind.u32 0, Value.int IntKind.u32 0, Value.int IntKind.u32 0, Value.int IntKind.u32 0, Value.int IntKind.u32 0, Value.int IntKind.u32 0], undef, undef, undef, undef, undef, undef, undef, undef, undef, undef, undef, undef, undef, undef, undef, undef, undef, undef, undef, undef, undef, undef, undef, undef, undef, undef, undef, undef, undef, undef], defers := [] } ((w1.alloc (.cells #[Value.int IntKind.i64 A, Value.int IntKind.i64 B, Value.int IntKind.i64 C, Value.int IntKind.i64 D, Value.int IntKind.i64 S, Value.int IntKind.u32 0, Value.int IntKind.u32 0, Value.int IntKind.u32 0, Value.int IntKind.u32 0, Value.int IntKind.u32 0, Value.int IntKind.u32 0, Value.int IntKind.u32 0, Value.int IntKind.u32 0, Value.int IntKind.u32 0] 25)).drew) ?_ ?_
  · go_region_with (go_at_call 25; (first | (with_reducible refine (G0.out _ ?_).mono ?_) | (with_reducible refine (G2.out _ ?_).mono ?_) | (with_reducible refine (G4.out _ ?_).mono ?_) | (with_reducible refine (G5.out _ ?_).mono ?_) | (with_reducible refine (G6.out _ ?_).mono ?_)); (first | (with_reducible exact hD.out) | (with_reducible exact hA1.out _) | (with_reducible exact hA2.out _)); rintro e wx ⟨rfl, rfl⟩)
    all_goals exact ⟨rfl, rfl⟩
  have hb2 : Below w1.heap.size w1 ((w1.alloc (.cells #[Value.int IntKind.i64 A, Value.int IntKind.i64 B, Value.int IntKind.i64 C, Value.int IntKind.i64 D, Value.int IntKind.i64 S, Value.int IntKind.u32 0, Value.int IntKind.u32 0, Value.int IntKind.u32 0, Value.int IntKind.u32 0, Value.int IntKind.u32 0, Value.int IntKind.u32 0, Value.int IntKind.u32 0, Value.int IntKind.u32 0, Value.int IntKind.u32 0] 25)).drew) := ((Below.refl _ _).alloc (Nat.le_refl _) _).drew
  have hg2 : Blo ((w1.alloc (.cells #[Value.int IntKind.i64 A, Value.int IntKind.i64 B, Value.int IntKind.i64 C, Value.int IntKind.i64 D, Value.int IntKind.i64 S, Value.int IntKind.u32 0, Value.int IntKind.u32 0, Value.int IntKind.u32 0, Value.int IntKind.u32 0, Value.int IntKind.u32 0, Value.int IntKind.u32 0, Value.int IntKind.u32 0, Value.int IntKind.u32 0, Value.int IntKind.u32 0] 25)).drew) w1.heap.size 25 (icells A B C D S L 0).toArray := by rw [icells_zero]; exact (blo_laid w1 _ _).drew
  have HX2 := Lib.hid hb2
  have HG2 := Lib.hid hg2
  have hz2 := hb2.size
  clear hD hA1 hA2 G0 G2 G4 G5 G6 hb2 hg2
  generalize ((w1.alloc (.cells #[Value.int IntKind.i64 A, Value.int IntKind.i64 B, Value.int IntKind.i64 C, Value.int IntKind.i64 D, Value.int IntKind.i64 S, Value.int IntKind.u32 0, Value.int IntKind.u32 0, Value.int IntKind.u32 0, Value.int IntKind.u32 0, Value.int IntKind.u32 0, Value.int IntKind.u32 0, Value.int IntKind.u32 0, Value.int IntKind.u32 0, Value.int IntKind.u32 0] 25)).drew) = w2 at *
  have HR2 : Hid (Row w2 gi L) := hRow.out _ HX2.out
  generalize hg6 : w1.heap.size = g6 at *
  have HG6 := Lib.hid hg6
  clear hg6 hRow
  go_wp2_with fail
  go_loopw [39] (fun i wr => DRel w2 g6 A B C D S L i wr) (fun i _ => 9 - (intOf i).toNat)
  case atStart => exact ⟨0, by omega, rfl, HG2.out, Below.refl _ _⟩
  case round =>
    obtain ⟨k, hk, rfl, hg, hb⟩ := hrel
    have HGk := Lib.hid hg
    have HBk := Lib.hid hb
    clear hg hb
    by_cases hlt : k < 9
    · obtain ⟨o', ho'⟩ : ∃ o', o' = 0 + (10 + k * 4) := ⟨_, rfl⟩
      obtain ⟨n', hn'⟩ : ∃ n', n' = 60 - (10 + k * 4) := ⟨_, rfl⟩
      obtain ⟨c', hc'⟩ : ∃ c', c' = 60 - (10 + k * 4) := ⟨_, rfl⟩
      have hs1 := fun W => cut_from gi 0 60 60 (10 + k * 4) o' n' c' (10 + (k : Int) * 4) (by omega) (by omega) (by decide) (by decide) ho' hn' hc' W
      have hs2 := fun W => cut_upto gi o' n' c' 4 4 rfl (by omega) (by omega) (by omega) (by omega) W
      have HRk : Hid (RowS wr gi L) := ⟨HR2.out.below HBk.out hlt1⟩
      have hget := get4_row L gi o' c' H8.out (by rw [HLen.out]; omega) wr HRk.out
      rw [show b4 L o' = ptI L k by rw [ho', Nat.zero_add]; rfl] at hget
      have HGet := Lib.hid hget
      have hV : ptI L k < 4294967296 := b4_lt H8.out _
      have HNx := Lib.hid (icells_next A B C D S L k)
      have hfr := HGk.out.frozen (5 + k)
      have hco := HGk.out.cell (5 + k)
      rw [show (icells A B C D S L k).toArray[5 + k]? = some (.int .u32 0) by
        rw [show 5 + k = k + 1 + 1 + 1 + 1 + 1 by omega]; simp [icells, List.getElem?_range hlt]] at hco
      clear hget hn' hc' ho'
      go_wp2_with fail
      refine HGet.out.mono ?_
      generalize ptI L k = V at *
      rintro e wy ⟨rfl, rfl⟩
      go_wp2_with fail
      go_roundw
      case rel =>
        have hx := HGk.out.put (5 + k) (.int .u32 (V : Int))
        rw [List.setIfInBounds_toArray, HNx.out] at hx
        exact ⟨k + 1, by omega, by simp, hx, HBk.out.setCell (p := ⟨g6, 5 + k, none⟩) (Nat.le_refl _) _⟩
      case measure => simp [intOf]; omega
    · obtain rfl : k = 9 := by omega
      clear hlt
      have hgk := HGk.out
      rw [icells_all] at hgk
      have HGk' := Lib.hid hgk
      clear hgk HGk
      have HXk : Hid (Below w0.heap.size w0 wr) := HX1.out.trans ((HX2.out.trans HBk.out).mono (by rw [← HG6.out]; exact HX1.out.size))
      have HBw : Hid (Below w.heap.size w wr) := HB0.out.trans (HXk.out.mono HB0.out.size)
      have v0 := H32.out 0
      have v1 := H32.out 1
      have v2 := H32.out 2
      have v3 := H32.out 3
      have v4 := H32.out 4
      have v5 := H32.out 5
      have v6 := H32.out 6
      have v7 := H32.out 7
      have v8 := H32.out 8
      clear HBk H32 HX2 HG2
      generalize ptI L 0 = P0 at *
      generalize ptI L 1 = P1 at *
      generalize ptI L 2 = P2 at *
      generalize ptI L 3 = P3 at *
      generalize ptI L 4 = P4 at *
      generalize ptI L 5 = P5 at *
      generalize ptI L 6 = P6 at *
      generalize ptI L 7 = P7 at *
      generalize ptI L 8 = P8 at *
      have HII : Hid ((Tryd.prog.info? 25).map (·.size) = some (ino A B C D S P0 P1 P2 P3 P4 P5 P6 P7 P8).size) := infoIno
      have hui := Tryd.underlying25
      by_cases hG : GoodI A B C D S
      · have HEn := Lib.hid (fun W h1 h2 => encode_good A B C D S P0 P1 P2 P3 P4 P5 P6 P7 P8 W h1 h2 hG v0 v1 v2 v3 v4 v5 v6 v7 v8)
        have HM : Hid (64 = (sealN (inoN A B C D S P0 P1 P2 P3 P4 P5 P6 P7 P8)).length) := by show _ = _; rw [len4, inoN_length]
        have HM8 : Hid (∀ x ∈ sealN (inoN A B C D S P0 P1 P2 P3 P4 P5 P6 P7 P8), x < 256) := sealN_lt (inoN_lt _ _ _ _ _ _ _ _ _ _ _ _ _ _)
        have HML : Hid ((inoN A B C D S P0 P1 P2 P3 P4 P5 P6 P7 P8).length = 60) := inoN_length _ _ _ _ _ _ _ _ _ _ _ _ _ _
        have HGo := Lib.hid hG
        clear hG
        generalize inoN A B C D S P0 P1 P2 P3 P4 P5 P6 P7 P8 = M at *
        go_wp2_with (refine wpList_load_row rfl 25 (.tmp 6) rfl g6 rfl 25 (ino A B C D S P0 P1 P2 P3 P4 P5 P6 P7 P8) (0, 0) _ HGk'.out hui rfl HII.out ?_)
        refine (HEn.out _ (HT.out.below HBw.out hz) (by have := HBw.out.size; omega)).mono ?_
        rintro e we ⟨g, rfl, hr3, hg3, hb3⟩
        have HXe : Hid (Below w0.heap.size w0 we) := HXk.out.trans (hb3.mono HXk.out.size)
        have HBe : Hid (Below w.heap.size w we) := HBw.out.trans (hb3.mono HBw.out.size)
        have HGe := Lib.hid (HGk'.out.later hb3)
        have HYe : Hid (Bytes we (some ⟨g, 0, none⟩) (sealN M)) := hr3.bytes HM8.out (by have := HM.out; omega)
        clear hb3 hr3 hg3
        go_wp2_with fail
        by_cases hE : M = L
        · subst hE
          refine (equal_same (sealN M) 64 HL.out _ _ 64 cap _ HYe.out (H.out.below HBe.out)).mono ?_
          rintro e wf ⟨rfl, rfl⟩
          obtain ⟨_, _, rfl⟩ | ⟨hno, _⟩ := HR0.out
          · clear HR0
            have HG5 := Lib.hid (HG0.out.later HXe.out)
            have hone : (ino A B C D S P0 P1 P2 P3 P4 P5 P6 P7 P8).all (·.oneCell') = true := by simp [Value.oneCell']
            have HOne := Lib.hid hone
            clear hone
            have HRes : Hid (∀ V : Array Value, V = ino A B C D S P0 P1 P2 P3 P4 P5 P6 P7 P8 → V.size = 14) := fun V h => by subst h; rfl
            go_wp2_with (first | (refine wpList_load_row rfl 25 (.tmp 6) rfl g6 rfl 25 (ino A B C D S P0 P1 P2 P3 P4 P5 P6 P7 P8) (0, 0) _ HGe.out hui rfl HII.out ?_) | (refine wpList_store_row rfl 25 (.tmp 2) (.tmp 68) rfl w.heap.size (ino A B C D S P0 P1 P2 P3 P4 P5 P6 P7 P8) rfl rfl 25 _ HG5.out HII.out rfl HOne.out ?_))
            have hrow : (we.setRow w.heap.size (ino A B C D S P0 P1 P2 P3 P4 P5 P6 P7 P8)).heap[w.heap.size]? = some (.cells (ino A B C D S P0 P1 P2 P3 P4 P5 P6 P7 P8) 25 (0, 0)) := setRow_heap we w.heap.size _ _ _ _ HG5.out
            refine bodyPost_ret (v := .tuple #[.agg (ino A B C D S P0 P1 P2 P3 P4 P5 P6 P7 P8), .int .i64 0]) ?_ rfl ⟨rfl, ?_⟩
            · simp [results, Tryd.results14, asAddr, run_loadVar_row _ _ 25 25 (ino A B C D S P0 P1 P2 P3 P4 P5 P6 P7 P8) (0, 0) _ hrow hui rfl HII.out]
            · exact below_setRow HBe.out (Nat.le_refl _) _
          · exact absurd ⟨HGo.out, rfl⟩ hno
        · have HNe : sealN M ≠ sealN L := fun e => hE (by
            have h1 := congrArg (List.take 60) e
            rw [HK.out] at h1
            rw [← h1]
            unfold sealN
            rw [List.take_append_of_le_length (by rw [HML.out]; decide), List.take_of_length_le (by rw [HML.out]; decide)])
          refine (equal_ne (sealN M) (sealN L) 64 64 HM.out HL.out HNe _ _ 64 cap _ HYe.out (H.out.below HBe.out)).mono ?_
          rintro e wf ⟨rfl, rfl⟩
          obtain ⟨_, h, _⟩ | ⟨_, rfl⟩ := HR0.out
          · exact absurd h hE
          · clear HR0 hE HNe
            have HG5 := Lib.hid (HG0.out.later HXe.out)
            have HI : Hid ((Tryd.prog.info? 25).map (·.size) = some zino.size) := infoIno
            go_wp2_with (refine wpList_store_row rfl 25 (.tmp 2) (.tmp 67) rfl w.heap.size zino rfl rfl 25 _ HG5.out HI.out rfl zino_one ?_)
            have hrow : (we.setRow w.heap.size zino).heap[w.heap.size]? = some (.cells zino 25 (0, 0)) := setRow_heap we w.heap.size _ _ _ _ HG5.out
            refine bodyPost_ret (v := .tuple #[.agg zino, .int .i64 100]) ?_ rfl ⟨rfl, ?_⟩
            · simp [results, Tryd.results14, asAddr, run_loadVar_row _ _ 25 25 zino (0, 0) _ hrow hui rfl HI.out]
            · exact below_setRow (HB0.out.trans (HXe.out.mono HB0.out.size)) (Nat.le_refl _) _
      · have HEb := Lib.hid (fun W => encode_bad A B C D S P0 P1 P2 P3 P4 P5 P6 P7 P8 W hG)
        obtain ⟨h, _⟩ | ⟨_, rfl⟩ := HR0.out
        · exact absurd h hG
        · clear HR0 hG
          go_wp2_with (refine wpList_load_row rfl 25 (.tmp 6) rfl g6 rfl 25 (ino A B C D S P0 P1 P2 P3 P4 P5 P6 P7 P8) (0, 0) _ HGk'.out hui rfl HII.out ?_)
          refine (HEb.out _).mono ?_
          rintro e we ⟨rfl, hb3⟩
          have HXe : Hid (Below w0.heap.size w0 we) := HXk.out.trans (hb3.mono HXk.out.size)
          clear hb3
          have HG5 := Lib.hid (HG0.out.later HXe.out)
          have HI : Hid ((Tryd.prog.info? 25).map (·.size) = some zino.size) := infoIno
          go_wp2_with (refine wpList_store_row rfl 25 (.tmp 2) (.tmp 67) rfl w.heap.size zino rfl rfl 25 _ HG5.out HI.out rfl zino_one ?_)
          have hrow : (we.setRow w.heap.size zino).heap[w.heap.size]? = some (.cells zino 25 (0, 0)) := setRow_heap we w.heap.size _ _ _ _ HG5.out
          refine bodyPost_ret (v := .tuple #[.agg zino, .int .i64 100]) ?_ rfl ⟨rfl, ?_⟩
          · simp [results, Tryd.results14, asAddr, run_loadVar_row _ _ 25 25 zino (0, 0) _ hrow hui rfl HI.out]
          · exact below_setRow (HB0.out.trans (HXe.out.mono HB0.out.size)) (Nat.le_refl _) _
end Go.Proofs.YtfkobamemehkdaaDoor
