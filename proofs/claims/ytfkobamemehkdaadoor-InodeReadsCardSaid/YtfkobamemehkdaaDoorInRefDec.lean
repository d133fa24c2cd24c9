/-
  The walk of the document's reading of an inode's block that is sealed.
-/
import Derived.Test.YtfkobamemehkdaaDoorInWrites
import Derived.Deep.RegionLaw
namespace Go.Proofs.YtfkobamemehkdaaDoor
open Go.RowKit

/-- The highest m bytes of the four from k on. -/
def part (L : List Nat) (k : Nat) : Nat → Nat
  | 0 => 0
  | m + 1 => part L k m * 256 + L.getD (k + (3 - m)) 0
theorem part_four (L : List Nat) (k : Nat) : part L k 4 = b4 L k := by
  show (((0 * 256 + L.getD (k + 3) 0) * 256 + L.getD (k + 2) 0) * 256 + L.getD (k + 1) 0) * 256 + L.getD k 0 = _
  unfold b4
  omega
theorem part_lt {L : List Nat} (h : ∀ x ∈ L, x < 256) (k : Nat) : ∀ m, part L k m < 256 ^ m
  | 0 => by simp [part]
  | m + 1 => by
    have h1 := part_lt h k m
    have h2 := getD_byte h (k + (3 - m))
    show part L k m * 256 + _ < _
    rw [Nat.pow_succ]
    omega
theorem part_lt3 {L : List Nat} (h : ∀ x ∈ L, x < 256) (k m : Nat) (hm : m < 4) : part L k m < 16777216 := by
  have h1 := part_lt h k m
  have h2 : 256 ^ m ≤ 256 ^ 3 := Nat.pow_le_pow_right (by decide) (by omega)
  omega
/-- The cells of an inode that is being read: m bytes of all words, m + 1 of the size and of the first k pointers. -/
def dcells (A B C D S : Nat) (L : List Nat) (m k : Nat) : List Value :=
  Value.int .i64 A :: .int .i64 B :: .int .i64 C :: .int .i64 D :: .int .i64 S :: (List.range 9).map fun j => .int .u32 ((if j < k then part L (10 + j * 4) (m + 1) else part L (10 + j * 4) m : Nat) : Int)
theorem dcells_next (A B C D S : Nat) (L : List Nat) (m k : Nat) : (dcells A B C D S L m k).set (5 + k) (.int .u32 (part L (10 + k * 4) (m + 1) : Nat)) = dcells A B C D S L m (k + 1) := by
  have e : 5 + k = k + 1 + 1 + 1 + 1 + 1 := by omega
  unfold dcells
  rw [e]
  simp only [List.set_cons_succ]
  congr 5
  apply List.ext_getElem (by simp)
  intro i h1 h2
  simp only [List.getElem_set, List.getElem_map, List.getElem_range]
  by_cases e : k = i
  · subst e; simp
  · rw [if_neg e]
    by_cases e2 : i < k
    · rw [if_pos e2, if_pos (by omega)]
    · rw [if_neg e2, if_neg (by omega)]
theorem dcells_turn (A B C D S : Nat) (L : List Nat) (m : Nat) : dcells A B C D S L m 9 = dcells A B C D S L (m + 1) 0 := by kernel_rfl
theorem dcells_size (A B C D S S' : Nat) (L : List Nat) (m k : Nat) : (dcells A B C D S L m k).set 4 (.int .i64 S') = dcells A B C D S' L m k := rfl
theorem dcells_zero (A B C D : Nat) (L : List Nat) : (dcells A B C D 0 L 0 0).toArray = #[.int .i64 A, .int .i64 B, .int .i64 C, .int .i64 D, .int .i64 0, .int .u32 0, .int .u32 0, .int .u32 0, .int .u32 0, .int .u32 0, .int .u32 0, .int .u32 0, .int .u32 0, .int .u32 0] := by kernel_rfl
theorem dcells_all (A B C D S : Nat) (L : List Nat) : (dcells A B C D S L 4 0).toArray = ino A B C D S (ptI L 0) (ptI L 1) (ptI L 2) (ptI L 3) (ptI L 4) (ptI L 5) (ptI L 6) (ptI L 7) (ptI L 8) := by
  show ino A B C D S (part L 10 4) (part L 14 4) (part L 18 4) (part L 22 4) (part L 26 4) (part L 30 4) (part L 34 4) (part L 38 4) (part L 42 4) = _
  simp only [part_four]
  rfl
def ORel (w2 : World) (g6 A B C D : Nat) (L : List Nat) (i : Value) (wr : World) : Prop :=
  ∃ m : Nat, m ≤ 4 ∧ i = .int .i64 (3 - (m : Int)) ∧ Blo wr g6 25 (dcells A B C D (part L 6 m) L m 0).toArray ∧ Below g6 w2 wr
def NRel (w2 : World) (g6 A B C D m : Nat) (L : List Nat) (i : Value) (wr : World) : Prop :=
  ∃ k : Nat, k ≤ 9 ∧ i = .int .i64 k ∧ Blo wr g6 25 (dcells A B C D (part L 6 (m + 1)) L m k).toArray ∧ Below g6 w2 wr
set_option maxHeartbeats 4000000 in
theorem refDecode_sealed (L : List Nat) (hlen : L.length = 60) (a : Option Addr) (cap : Nat) (hc : 64 ≤ cap) (w : World) (h : Bytes w a (sealN L)) (ha : a ≠ none) (R : Value) (hR0 : DecR L R) :
    Calls Tryd.prog 16 #[.slice a 64 cap] w fun e w' => e = .returned R ∧ Below w.heap.size w w' := by
  have H := Lib.hid h
  have HL : Hid (64 = (sealN L).length) := by show _ = _; rw [len4, hlen]
  have HK : Hid ((sealN L).take 60 = L) := by
    show _ = _
    unfold sealN
    rw [List.take_append_of_le_length (by rw [hlen]; decide), List.take_of_length_le (by rw [hlen]; decide)]
  have HA := Lib.hid ha
  have H8 : Hid (∀ x ∈ L, x < 256) := fun x hx => h.1 x (by unfold sealN; exact List.mem_append_left _ hx)
  have HLen := Lib.hid hlen
  have hR := hR0
  unfold DecR at hR
  have HR0 := Lib.hid hR
  have h32 : ∀ k, ptI L k < 4294967296 := fun k => b4_lt H8.out _
  have H32 := Lib.hid h32
  have h4 := b4_lt H8.out 6
  obtain ⟨b, o, rfl, hcell⟩ := h.2.2 (fun e => by rw [e] at HL; exact absurd HL.out (by decide))
  have HC : Hid (∀ j, j < 60 → w.cell? ⟨b, o + j, none⟩ = some (.int .u8 (L.getD j 0 : Nat))) := fun j hj => by
    rw [hcell j (by rw [← HL.out]; omega)]
    unfold sealN
    rw [List.getD_eq_getElem?_getD, List.getElem?_append_left (by omega), ← List.getD_eq_getElem?_getD]
  clear h ha hlen hR0 hR h32 hcell
  go_enter Tryd.func16, Tryd.ntmps16
  go_wp2_with fail
  have HB0 : Hid (Below w.heap.size w (w.alloc (.cells zino 25))) := sup_below w _
  have HG0 := Lib.hid (blo_laid w 25 zino)
  have hz0 : w.heap.size < (w.alloc (.cells zino 25)).heap.size := by simp
  generalize w.alloc (.cells zino 25) = w0 at HB0 HG0 hz0 ⊢
  refine (refOpen_good (sealN L) 64 60 HL.out rfl (by decide) _ cap hc _ (H.out.below HB0.out) (fun e => by cases e) (by rw [HK.out])).mono ?_
  rintro e w1 ⟨ai, ci, rfl, _, hb1⟩
  have HX1 := Lib.hid hb1
  have HB1 : Hid (Below w.heap.size w w1) := HB0.out.trans (hb1.mono HB0.out.size)
  clear hb1
  have KC : Hid (∀ W, Below w.heap.size w W → ∀ j, j < 60 → W.cell? ⟨b, o + j, none⟩ = some (.int .u8 (L.getD j 0 : Nat))) := fun W hb j hj => cell_later hb (HC.out j hj)
  have y0 := getD_byte H8.out 0
  have y1 := getD_byte H8.out 1
  have y2 := getD_byte H8.out 2
  have y3 := getD_byte H8.out 3
  have y4 := getD_byte H8.out 4
  have y5 := getD_byte H8.out 5
  have KP : Hid (∀ W, Below w1.heap.size w1 W → W.cell? ⟨b, o, none⟩ = some (.int .u8 (L.getD 0 0 : Nat)) ∧ W.cell? ⟨b, o + 1, none⟩ = some (.int .u8 (L.getD 1 0 : Nat)) ∧ W.cell? ⟨b, o + 2, none⟩ = some (.int .u8 (L.getD 2 0 : Nat)) ∧ W.cell? ⟨b, o + 3, none⟩ = some (.int .u8 (L.getD 3 0 : Nat)) ∧ W.cell? ⟨b, o + 4, none⟩ = some (.int .u8 (L.getD 4 0 : Nat)) ∧ W.cell? ⟨b, o + 5, none⟩ = some (.int .u8 (L.getD 5 0 : Nat))) := fun W hb => by
    have hk := KC.out W (HB1.out.trans (hb.mono HB1.out.size))
    exact ⟨hk 0 (by decide), hk 1 (by decide), hk 2 (by decide), hk 3 (by decide), hk 4 (by decide), hk 5 (by decide)⟩
  have hA : Hid ((L.getD 0 0 : Int) + 256 * (L.getD 1 0 : Int) = ((b2 L 0 : Nat) : Int)) := by show _ = _; rw [show b2 L 0 = L.getD 0 0 + L.getD 1 0 * 256 from rfl]; omega
  have hB : Hid ((L.getD 2 0 : Int) + 256 * (L.getD 3 0 : Int) = ((b2 L 2 : Nat) : Int)) := by show _ = _; rw [show b2 L 2 = L.getD 2 0 + L.getD 3 0 * 256 from rfl]; omega
  have HU := Lib.hid (⟨rfl, rfl⟩ : L.getD 4 0 = L.getD 4 0 ∧ L.getD 5 0 = L.getD 5 0)
  generalize L.getD 0 0 = x0 at *
  generalize L.getD 1 0 = x1 at *
  generalize L.getD 2 0 = x2 at *
  generalize L.getD 3 0 = x3 at *
  generalize b2 L 0 = A at *
  generalize b2 L 2 = B at *
  generalize hC : L.getD 4 0 = C at *
  generalize hD : L.getD 5 0 = D at *
  have HCd := Lib.hid hC
  have HDd := Lib.hid hD
  clear hC hD
  have v0 : IntKind.i64.wrap (x0 : Int) = x0 := IntWalk.i64_in _ (by omega)
  have v1 : IntKind.i64.wrap (x1 : Int) = x1 := IntWalk.i64_in _ (by omega)
  have v2 : IntKind.i64.wrap (x2 : Int) = x2 := IntWalk.i64_in _ (by omega)
  have v3 : IntKind.i64.wrap (x3 : Int) = x3 := IntWalk.i64_in _ (by omega)
  have v4 : IntKind.i64.wrap (C : Int) = C := IntWalk.i64_in _ (by omega)
  have v5 : IntKind.i64.wrap (D : Int) = D := IntWalk.i64_in _ (by omega)
  have v6 : IntKind.i64.wrap (256 * (x1 : Int)) = 256 * x1 := IntWalk.i64_in _ (by omega)
  have v7 : IntKind.i64.wrap (256 * (x3 : Int)) = 256 * x3 := IntWalk.i64_in _ (by omega)
  have v8 : IntKind.i64.wrap ((x0 : Int) + 256 * (x1 : Int)) = A := by rw [hA.out]; exact IntWalk.i64_in _ (by have := hA.out; omega)
  have v9 : IntKind.i64.wrap ((x2 : Int) + 256 * (x3 : Int)) = B := by rw [hB.out]; exact IntWalk.i64_in _ (by have := hB.out; omega)
  go_wp2_with fail
  go_region_held (fun W => W.cell? ⟨b, o, none⟩ = some (.int .u8 x0) ∧ W.cell? ⟨b, o + 1, none⟩ = some (.int .u8 x1) ∧ W.cell? ⟨b, o + 2, none⟩ = some (.int .u8 x2) ∧ W.cell? ⟨b, o + 3, none⟩ = some (.int .u8 x3) ∧ W.cell? ⟨b, o + 4, none⟩ = some (.int .u8 C) ∧ W.cell? ⟨b, o + 5, none⟩ = some (.int .u8 D))
    (first | exact KP.out _ ((Below.refl _ _).drew) | exact KP.out _ (((Below.refl _ _).alloc (Nat.le_refl _) _).drew) | exact KP.out _ (((Below.refl _ _).drew).alloc (Nat.le_refl _) _) | fail)
    (fail)
  clear v0 v1 v2 v3 v4 v5 v6 v7 v8 v9 KP
  have hb2 : Below w1.heap.size w1 ((w1.alloc (.cells #[.int .i64 A, .int .i64 B, .int .i64 C, .int .i64 D, .int .i64 0, .int .u32 0, .int .u32 0, .int .u32 0, .int .u32 0, .int .u32 0, .int .u32 0, .int .u32 0, .int .u32 0, .int .u32 0] 25)).drew) := ((Below.refl _ _).alloc (Nat.le_refl _) _).drew
  have hg2 : Blo ((w1.alloc (.cells #[.int .i64 A, .int .i64 B, .int .i64 C, .int .i64 D, .int .i64 0, .int .u32 0, .int .u32 0, .int .u32 0, .int .u32 0, .int .u32 0, .int .u32 0, .int .u32 0, .int .u32 0, .int .u32 0] 25)).drew) w1.heap.size 25 (dcells A B C D (part L 6 0) L 0 0).toArray := by
    show Blo _ _ _ (dcells A B C D 0 L 0 0).toArray
    rw [dcells_zero]
    exact (blo_laid w1 _ _).drew
  have HX2 := Lib.hid hb2
  have HG2 := Lib.hid hg2
  have hz2 := hb2.size
  clear hb2 hg2
  generalize ((w1.alloc (.cells #[.int .i64 A, .int .i64 B, .int .i64 C, .int .i64 D, .int .i64 0, .int .u32 0, .int .u32 0, .int .u32 0, .int .u32 0, .int .u32 0, .int .u32 0, .int .u32 0, .int .u32 0, .int .u32 0] 25)).drew) = w2 at *
  generalize hg6 : w1.heap.size = g6 at *
  have HG6 := Lib.hid hg6
  clear hg6
  go_wp2_with fail
  go_loopw [7] (fun i wr => ORel w2 g6 A B C D L i wr) (fun i _ => (intOf i + 1).toNat)
  case atStart => exact ⟨0, by omega, rfl, HG2.out, Below.refl _ _⟩
  case round =>
    obtain ⟨m, hm, rfl, hg, hb⟩ := hrel
    have HGk := Lib.hid hg
    have HBk := Lib.hid hb
    clear hg hb
    by_cases hlt : m < 4
    · obtain ⟨q, hq, hq3⟩ : ∃ q : Nat, (3 - (m : Int)) = (q : Int) ∧ q = 3 - m := ⟨3 - m, by omega, rfl⟩
      rw [hq]
      have HQ := Lib.hid hq
      clear hq
      have HXk : Hid (Below w.heap.size w wr) := HB1.out.trans ((HX2.out.trans HBk.out).mono (by rw [← HG6.out]; exact HB1.out.size))
      have hS := part_lt3 H8.out 6 m hlt
      have hSt : part L 6 (m + 1) = part L 6 m * 256 + L.getD (6 + q) 0 := by rw [hq3]; rfl
      have hq4 : q ≤ 3 := by omega
      have HQ3 := Lib.hid hq3
      clear hq3
      have HSt := Lib.hid hSt
      have hby := KC.out wr HXk.out (6 + q) (by omega)
      have hy := getD_byte H8.out (6 + q)
      have hco : wr.cell? ⟨g6, 4, none⟩ = some (.int .i64 (part L 6 m : Nat)) := by simpa [dcells] using HGk.out.cell 4
      have hfr := HGk.out.frozen 4
      clear hSt
      generalize part L 6 m = S at *
      generalize L.getD (6 + q) 0 = y at *
      have u1 : IntKind.i64.wrap ((S : Int) * 256) = (S : Int) * 256 := IntWalk.i64_in _ (by omega)
      have u2 : IntKind.i64.wrap (y : Int) = (y : Int) := IntWalk.i64_in _ (by omega)
      have u3 : IntKind.i64.wrap ((S : Int) * 256 + (y : Int)) = (S : Int) * 256 + (y : Int) := IntWalk.i64_in _ (by omega)
      have u4 : IntKind.i64.wrap (6 + (q : Int)) = 6 + (q : Int) := IntWalk.i64_in _ (by omega)
      have u5 : (0 : Int) ≤ 6 + (q : Int) := by omega
      have u6 : 6 + (q : Int) < 64 := by omega
      have u7 : (6 + (q : Int)).toNat = 6 + q := by omega
      go_wp2_with fail
      go_still_tail 11, (by kernel_rfl)
      have hc3 : wr.drew.cell? ⟨g6, 4, none⟩ = some (.int .i64 S) := hco
      have hf3 : wr.drew.frozen? ⟨g6, 4, none⟩ = false := hfr
      have HG3 : Hid (Blo wr.drew g6 25 (dcells A B C D S L m 0).toArray) := HGk.out.drew
      have HB3 : Hid (Below g6 w2 wr.drew) := HBk.out.drew
      clear hco hfr hby u1 u2 u3 u4 u5 u6 u7 HGk HBk
      change wpList _ _ _ _ _ wr.drew
      generalize wr.drew = wd at HG3 HB3 hc3 hf3 ⊢
      have e4 : (dcells A B C D S L m 0).set 4 (.int .i64 ((S : Int) * 256 + (y : Int))) = dcells A B C D (part L 6 (m + 1)) L m 0 := by
        rw [show ((S : Int) * 256 + (y : Int)) = ((part L 6 (m + 1) : Nat) : Int) by rw [HSt.out]; omega]
        rfl
      have hg4 := HG3.out.put 4 (.int .i64 ((S : Int) * 256 + (y : Int)))
      rw [List.setIfInBounds_toArray, e4] at hg4
      clear e4
      have HB4 : Hid (Below g6 w2 (wd.setCell ⟨g6, 4, none⟩ (.int .i64 ((S : Int) * 256 + (y : Int))))) := HB3.out.setCell (p := ⟨g6, 4, none⟩) (Nat.le_refl _) _
      have HG4 := Lib.hid hg4
      clear hg4 HG3 HB3
      go_wp2_with fail
      generalize (wd.setCell ⟨g6, 4, none⟩ (.int .i64 ((S : Int) * 256 + (y : Int)))) = wi at *
      obtain ⟨wo, rfl⟩ : ∃ wo : World, wo = wr := ⟨_, rfl⟩
      go_loopw [8] (fun v wr => NRel w2 g6 A B C D m L v wr) (fun v _ => 9 - (intOf v).toNat)
      case atStart => exact ⟨0, by omega, rfl, HG4.out, HB4.out⟩
      case round =>
        obtain ⟨k, hk, rfl, hg, hb⟩ := hrel
        have HGi := Lib.hid hg
        have HBi := Lib.hid hb
        clear hg hb
        by_cases hlk : k < 9
        · have HXi : Hid (Below w.heap.size w wr) := HB1.out.trans ((HX2.out.trans HBi.out).mono (by rw [← HG6.out]; exact HB1.out.size))
          have hP := part_lt3 H8.out (10 + k * 4) m hlt
          have hPt : part L (10 + k * 4) (m + 1) = part L (10 + k * 4) m * 256 + L.getD (10 + k * 4 + q) 0 := by rw [HQ3.out]; rfl
          have HPt := Lib.hid hPt
          have hby := KC.out wr HXi.out (10 + k * 4 + q) (by omega)
          have hyy := getD_byte H8.out (10 + k * 4 + q)
          have hco : wr.cell? ⟨g6, 5 + k, none⟩ = some (.int .u32 (part L (10 + k * 4) m : Nat)) := by
            rw [HGi.out.cell (5 + k), show 5 + k = k + 1 + 1 + 1 + 1 + 1 by omega]
            simp [dcells, List.getElem?_range hlk]
          have hfr := HGi.out.frozen (5 + k)
          have HNx := Lib.hid (dcells_next A B C D (part L 6 (m + 1)) L m k)
          clear hPt
          generalize part L (10 + k * 4) m = V at *
          generalize L.getD (10 + k * 4 + q) 0 = z at *
          rw [show o + (10 + k * 4 + q) = o + (10 + 4 * k + q) by omega] at hby
          have u1 : IntKind.u32.wrap ((V : Int) * 256) = (V : Int) * 256 := IntWalk.u32_in _ (by omega)
          have u2 : IntKind.u32.wrap (z : Int) = (z : Int) := IntWalk.u32_in _ (by omega)
          have u3 : IntKind.u32.wrap ((V : Int) * 256 + (z : Int)) = (V : Int) * 256 + (z : Int) := IntWalk.u32_in _ (by omega)
          have u4 : IntKind.i64.wrap (4 * (k : Int)) = 4 * (k : Int) := IntWalk.i64_in _ (by omega)
          have u5 : IntKind.i64.wrap (10 + 4 * (k : Int)) = 10 + 4 * (k : Int) := IntWalk.i64_in _ (by omega)
          have u6 : IntKind.i64.wrap (10 + 4 * (k : Int) + (q : Int)) = 10 + 4 * (k : Int) + (q : Int) := IntWalk.i64_in _ (by omega)
          have u7 : (0 : Int) ≤ 10 + 4 * (k : Int) + (q : Int) := by omega
          have u8' : 10 + 4 * (k : Int) + (q : Int) < 64 := by omega
          have u9 : (10 + 4 * (k : Int) + (q : Int)).toNat = 10 + 4 * k + q := by omega
          go_wp2_with fail
          go_still_tail 18, (by kernel_rfl)
          have hc3 : wr.drew.cell? ⟨g6, 5 + k, none⟩ = some (.int .u32 V) := hco
          have hf3 : wr.drew.frozen? ⟨g6, 5 + k, none⟩ = false := hfr
          have HG3 : Hid (Blo wr.drew g6 25 (dcells A B C D (part L 6 (m + 1)) L m k).toArray) := HGi.out.drew
          have HB3 : Hid (Below g6 w2 wr.drew) := HBi.out.drew
          clear hco hfr hby u1 u2 u3 u4 u5 u6 u7 u8' u9 HGi HBi
          change wpList _ _ _ _ _ wr.drew
          generalize wr.drew = we at HG3 HB3 hc3 hf3 ⊢
          have hg5 := HG3.out.put (5 + k) (.int .u32 ((V : Int) * 256 + (z : Int)))
          have HB5 : Hid (Below g6 w2 (we.setCell ⟨g6, 5 + k, none⟩ (.int .u32 ((V : Int) * 256 + (z : Int))))) := HB3.out.setCell (p := ⟨g6, 5 + k, none⟩) (Nat.le_refl _) _
          rw [show ((V : Int) * 256 + (z : Int)) = ((part L (10 + k * 4) (m + 1) : Nat) : Int) by rw [HPt.out]; omega, List.setIfInBounds_toArray, HNx.out] at hg5
          have HG5 := Lib.hid hg5
          clear hg5 HG3 HB3
          go_wp2_with fail
          go_roundw
          case rel =>
            rw [show ((V : Int) * 256 + (z : Int)) = ((part L (10 + k * 4) (m + 1) : Nat) : Int) by rw [HPt.out]; omega] at HB5 ⊢
            exact ⟨k + 1, by omega, by simp, HG5.out, HB5.out⟩
          case measure => simp [intOf]; omega
        · obtain rfl : k = 9 := by omega
          clear hlk
          have hgi := HGi.out
          rw [dcells_turn] at hgi
          have HG5 := Lib.hid hgi
          clear hgi HGi
          go_wp2_with fail
          go_roundw
          case rel => exact ⟨m + 1, by omega, by rw [show (3 : Int) - ((m + 1 : Nat) : Int) = (q : Int) - 1 by have := HQ3.out; omega], HG5.out, HBi.out⟩
          case measure => first | (simp [intOf]; done) | (simp [intOf]; omega)
    · obtain rfl : m = 4 := by omega
      clear hlt
      have hgk := HGk.out
      rw [part_four, dcells_all] at hgk
      have HGk' := Lib.hid hgk
      clear hgk HGk
      have HX0 : Hid (Below w0.heap.size w0 wr) := HX1.out.trans (((HX2.out).trans HBk.out).mono (by rw [← HG6.out]; exact HX1.out.size))
      have HBw : Hid (Below w.heap.size w wr) := HB0.out.trans (HX0.out.mono HB0.out.size)
      have v0 := H32.out 0
      have v1 := H32.out 1
      have v2 := H32.out 2
      have v3 := H32.out 3
      have v4 := H32.out 4
      have v5 := H32.out 5
      have v6 := H32.out 6
      have v7 := H32.out 7
      have v8 := H32.out 8
      clear HBk H32 HX2 HG2
      generalize b4 L 6 = S at *
      generalize ptI L 0 = P0 at *
      generalize ptI L 1 = P1 at *
      generalize ptI L 2 = P2 at *
      generalize ptI L 3 = P3 at *
      generalize ptI L 4 = P4 at *
      generalize ptI L 5 = P5 at *
      generalize ptI L 6 = P6 at *
      generalize ptI L 7 = P7 at *
      generalize ptI L 8 = P8 at *
      have HII : Hid ((Tryd.prog.info? 25).map (·.size) = some (ino A B C D S P0 P1 P2 P3 P4 P5 P6 P7 P8).size) := infoIno
      have hui := Tryd.underlying25
      go_wp2_with fail
      by_cases hG : GoodI A B C D S
      · have HGd := Lib.hid (fun W => refGood_yes A B C D S P0 P1 P2 P3 P4 P5 P6 P7 P8 W hG)
        have HRE := Lib.hid (fun W => refEncode_any A B C D S P0 P1 P2 P3 P4 P5 P6 P7 P8 W (by unfold GoodI at hG; omega) (by unfold GoodI at hG; omega) (by unfold GoodI at hG; omega) (by unfold GoodI at hG; omega) h4 (by simp [v0, v1, v2, v3, v4, v5, v6, v7, v8]))
        have HM : Hid (64 = (sealN (inoN A B C D S P0 P1 P2 P3 P4 P5 P6 P7 P8)).length) := by show _ = _; rw [len4, inoN_length]
        have HM8 : Hid (∀ x ∈ sealN (inoN A B C D S P0 P1 P2 P3 P4 P5 P6 P7 P8), x < 256) := sealN_lt (inoN_lt _ _ _ _ _ _ _ _ _ _ _ _ _ _)
        have HML : Hid ((inoN A B C D S P0 P1 P2 P3 P4 P5 P6 P7 P8).length = 60) := inoN_length _ _ _ _ _ _ _ _ _ _ _ _ _ _
        have HGo := Lib.hid hG
        clear hG
        generalize inoN A B C D S P0 P1 P2 P3 P4 P5 P6 P7 P8 = M at *
        have KP : Hid (∀ W, Below wr.heap.size wr W → W.cell? ⟨g6, 0, none⟩ = some (.int .i64 A) ∧ W.cell? ⟨g6, 1, none⟩ = some (.int .i64 B) ∧ W.cell? ⟨g6, 2, none⟩ = some (.int .i64 C) ∧ W.cell? ⟨g6, 3, none⟩ = some (.int .i64 D) ∧ W.cell? ⟨g6, 4, none⟩ = some (.int .i64 S) ∧ W.cell? ⟨g6, 5, none⟩ = some (.int .u32 P0) ∧ W.cell? ⟨g6, 6, none⟩ = some (.int .u32 P1) ∧ W.cell? ⟨g6, 7, none⟩ = some (.int .u32 P2) ∧ W.cell? ⟨g6, 8, none⟩ = some (.int .u32 P3) ∧ W.cell? ⟨g6, 9, none⟩ = some (.int .u32 P4) ∧ W.cell? ⟨g6, 10, none⟩ = some (.int .u32 P5) ∧ W.cell? ⟨g6, 11, none⟩ = some (.int .u32 P6) ∧ W.cell? ⟨g6, 12, none⟩ = some (.int .u32 P7) ∧ W.cell? ⟨g6, 13, none⟩ = some (.int .u32 P8) ∧ (convert 27 9 (.slice (some ⟨b, o, none⟩) 64 cap)).run Tryd.prog W = .ok (.string (strOf (sealN L))) W) := fun W hb => ⟨by simpa using (HGk'.out.later hb).cell 0, by simpa using (HGk'.out.later hb).cell 1, by simpa using (HGk'.out.later hb).cell 2, by simpa using (HGk'.out.later hb).cell 3, by simpa using (HGk'.out.later hb).cell 4, by simpa using (HGk'.out.later hb).cell 5, by simpa using (HGk'.out.later hb).cell 6, by simpa using (HGk'.out.later hb).cell 7, by simpa using (HGk'.out.later hb).cell 8, by simpa using (HGk'.out.later hb).cell 9, by simpa using (HGk'.out.later hb).cell 10, by simpa using (HGk'.out.later hb).cell 11, by simpa using (HGk'.out.later hb).cell 12, by simpa using (HGk'.out.later hb).cell 13, run_str W 27 9 5 Tryd.underlying27 Tryd.underlying5 Tryd.underlying9  (sealN L) _ 64 cap HL.out (H.out.below (HBw.out.trans (hb.mono HBw.out.size)))⟩
        by_cases hE : M = L
        · subst hE
          obtain ⟨_, _, rfl⟩ | ⟨hno, _⟩ := HR0.out
          · clear HR0
            go_region_held (fun W => W.cell? ⟨g6, 0, none⟩ = some (.int .i64 A) ∧ W.cell? ⟨g6, 1, none⟩ = some (.int .i64 B) ∧ W.cell? ⟨g6, 2, none⟩ = some (.int .i64 C) ∧ W.cell? ⟨g6, 3, none⟩ = some (.int .i64 D) ∧ W.cell? ⟨g6, 4, none⟩ = some (.int .i64 S) ∧ W.cell? ⟨g6, 5, none⟩ = some (.int .u32 P0) ∧ W.cell? ⟨g6, 6, none⟩ = some (.int .u32 P1) ∧ W.cell? ⟨g6, 7, none⟩ = some (.int .u32 P2) ∧ W.cell? ⟨g6, 8, none⟩ = some (.int .u32 P3) ∧ W.cell? ⟨g6, 9, none⟩ = some (.int .u32 P4) ∧ W.cell? ⟨g6, 10, none⟩ = some (.int .u32 P5) ∧ W.cell? ⟨g6, 11, none⟩ = some (.int .u32 P6) ∧ W.cell? ⟨g6, 12, none⟩ = some (.int .u32 P7) ∧ W.cell? ⟨g6, 13, none⟩ = some (.int .u32 P8) ∧ (convert 27 9 (.slice (some ⟨b, o, none⟩) 64 cap)).run Tryd.prog W = .ok (.string (strOf (sealN M))) W)
              (first | exact KP.out _ HBy.out | exact KP.out _ HBx.out | exact KP.out _ ((Below.refl _ _).drew) | fail)
              ((first | (go_at_call 12; refine (HGd.out _).mono ?_; rintro e wx ⟨rfl, hbx⟩; have HBx : Hid (Below wr.heap.size wr wx) := ((Below.refl _ _).drew).trans hbx; clear hbx) | (go_at_call 15; refine (HRE.out _).mono ?_; rintro e wy ⟨ay, cy, rfl, hYy, hby⟩; have HBy : Hid (Below wr.heap.size wr wy) := HBx.out.trans (hby.mono HBx.out.size); have hcy := run_str wy 27 9 5 Tryd.underlying27 Tryd.underlying5 Tryd.underlying9  _ ay 64 cy HM.out hYy; clear hYy hby)))
            clear KP
            have HXe : Hid (Below w0.heap.size w0 wy) := HX0.out.trans (HBy.out.mono HX0.out.size)
            have HGe := Lib.hid (HGk'.out.later HBy.out)
            have HG5 := Lib.hid (HG0.out.later HXe.out)
            have hone : (ino A B C D S P0 P1 P2 P3 P4 P5 P6 P7 P8).all (·.oneCell') = true := by simp [Value.oneCell']
            have HOne := Lib.hid hone
            clear hone
            go_wp2_with (first | (refine wpList_load_row rfl 25 (.tmp 6) rfl g6 rfl 25 (ino A B C D S P0 P1 P2 P3 P4 P5 P6 P7 P8) (0, 0) _ HGe.out hui rfl HII.out ?_) | (refine wpList_store_row rfl 25 (.tmp 2) (.tmp 100) rfl w.heap.size (ino A B C D S P0 P1 P2 P3 P4 P5 P6 P7 P8) rfl rfl 25 _ HG5.out HII.out rfl HOne.out ?_))
            have hrow : (wy.setRow w.heap.size (ino A B C D S P0 P1 P2 P3 P4 P5 P6 P7 P8)).heap[w.heap.size]? = some (.cells (ino A B C D S P0 P1 P2 P3 P4 P5 P6 P7 P8) 25 (0, 0)) := setRow_heap wy w.heap.size _ _ _ _ HG5.out
            refine bodyPost_ret (v := .tuple #[.agg (ino A B C D S P0 P1 P2 P3 P4 P5 P6 P7 P8), .int .i64 0]) ?_ rfl ⟨rfl, ?_⟩
            · simp [results, Tryd.results16, asAddr, run_loadVar_row _ _ 25 25 (ino A B C D S P0 P1 P2 P3 P4 P5 P6 P7 P8) (0, 0) _ hrow hui rfl HII.out]
            · exact below_setRow (HB0.out.trans (HXe.out.mono HB0.out.size)) (Nat.le_refl _) _
          · exact absurd ⟨HGo.out, rfl⟩ hno
        · have HNe : sealN M ≠ sealN L := fun e => hE (by
            have h1 := congrArg (List.take 60) e
            rw [HK.out] at h1
            rw [← h1]
            unfold sealN
            rw [List.take_append_of_le_length (by rw [HML.out]; decide), List.take_of_length_le (by rw [HML.out]; decide)])
          have hsn := str_ne HM8.out H.out.1 HNe
          obtain ⟨_, h, _⟩ | ⟨_, rfl⟩ := HR0.out
          · exact absurd h hE
          · clear HR0 hE HNe
            go_region_held (fun W => W.cell? ⟨g6, 0, none⟩ = some (.int .i64 A) ∧ W.cell? ⟨g6, 1, none⟩ = some (.int .i64 B) ∧ W.cell? ⟨g6, 2, none⟩ = some (.int .i64 C) ∧ W.cell? ⟨g6, 3, none⟩ = some (.int .i64 D) ∧ W.cell? ⟨g6, 4, none⟩ = some (.int .i64 S) ∧ W.cell? ⟨g6, 5, none⟩ = some (.int .u32 P0) ∧ W.cell? ⟨g6, 6, none⟩ = some (.int .u32 P1) ∧ W.cell? ⟨g6, 7, none⟩ = some (.int .u32 P2) ∧ W.cell? ⟨g6, 8, none⟩ = some (.int .u32 P3) ∧ W.cell? ⟨g6, 9, none⟩ = some (.int .u32 P4) ∧ W.cell? ⟨g6, 10, none⟩ = some (.int .u32 P5) ∧ W.cell? ⟨g6, 11, none⟩ = some (.int .u32 P6) ∧ W.cell? ⟨g6, 12, none⟩ = some (.int .u32 P7) ∧ W.cell? ⟨g6, 13, none⟩ = some (.int .u32 P8) ∧ (convert 27 9 (.slice (some ⟨b, o, none⟩) 64 cap)).run Tryd.prog W = .ok (.string (strOf (sealN L))) W)
              (first | exact KP.out _ HBy.out | exact KP.out _ HBx.out | exact KP.out _ ((Below.refl _ _).drew) | fail)
              ((first | (go_at_call 12; refine (HGd.out _).mono ?_; rintro e wx ⟨rfl, hbx⟩; have HBx : Hid (Below wr.heap.size wr wx) := ((Below.refl _ _).drew).trans hbx; clear hbx) | (go_at_call 15; refine (HRE.out _).mono ?_; rintro e wy ⟨ay, cy, rfl, hYy, hby⟩; have HBy : Hid (Below wr.heap.size wr wy) := HBx.out.trans (hby.mono HBx.out.size); have hcy := run_str wy 27 9 5 Tryd.underlying27 Tryd.underlying5 Tryd.underlying9  _ ay 64 cy HM.out hYy; clear hYy hby)))
            clear KP
            have HXe : Hid (Below w0.heap.size w0 wy) := HX0.out.trans (HBy.out.mono HX0.out.size)
            have HGe := Lib.hid (HGk'.out.later HBy.out)
            have HG5 := Lib.hid (HG0.out.later HXe.out)
            have HI : Hid ((Tryd.prog.info? 25).map (·.size) = some zino.size) := infoIno
            go_wp2_with (refine wpList_store_row rfl 25 (.tmp 2) (.tmp 99) rfl w.heap.size zino rfl rfl 25 _ HG5.out HI.out rfl zino_one ?_)
            have hrow : (wy.setRow w.heap.size zino).heap[w.heap.size]? = some (.cells zino 25 (0, 0)) := setRow_heap wy w.heap.size _ _ _ _ HG5.out
            refine bodyPost_ret (v := .tuple #[.agg zino, .int .i64 100]) ?_ rfl ⟨rfl, ?_⟩
            · simp [results, Tryd.results16, asAddr, run_loadVar_row _ _ 25 25 zino (0, 0) _ hrow hui rfl HI.out]
            · exact below_setRow (HB0.out.trans (HXe.out.mono HB0.out.size)) (Nat.le_refl _) _
      · have HNg := Lib.hid (fun W => refGood_no A B C D S P0 P1 P2 P3 P4 P5 P6 P7 P8 W hG)
        obtain ⟨h, _⟩ | ⟨_, rfl⟩ := HR0.out
        · exact absurd h hG
        · clear HR0 hG
          have k0 : ∀ x : Kept wr, x.at_.cell? ⟨g6, 0, none⟩ = some (.int .i64 A) := fun x => by simpa using (HGk'.out.later x.below).cell 0
          have k1 : ∀ x : Kept wr, x.at_.cell? ⟨g6, 1, none⟩ = some (.int .i64 B) := fun x => by simpa using (HGk'.out.later x.below).cell 1
          have k2 : ∀ x : Kept wr, x.at_.cell? ⟨g6, 2, none⟩ = some (.int .i64 C) := fun x => by simpa using (HGk'.out.later x.below).cell 2
          have k3 : ∀ x : Kept wr, x.at_.cell? ⟨g6, 3, none⟩ = some (.int .i64 D) := fun x => by simpa using (HGk'.out.later x.below).cell 3
          have k4 : ∀ x : Kept wr, x.at_.cell? ⟨g6, 4, none⟩ = some (.int .i64 S) := fun x => by simpa using (HGk'.out.later x.below).cell 4
          have k5 : ∀ x : Kept wr, x.at_.cell? ⟨g6, 5, none⟩ = some (.int .u32 P0) := fun x => by simpa using (HGk'.out.later x.below).cell 5
          have k6 : ∀ x : Kept wr, x.at_.cell? ⟨g6, 6, none⟩ = some (.int .u32 P1) := fun x => by simpa using (HGk'.out.later x.below).cell 6
          have k7 : ∀ x : Kept wr, x.at_.cell? ⟨g6, 7, none⟩ = some (.int .u32 P2) := fun x => by simpa using (HGk'.out.later x.below).cell 7
          have k8 : ∀ x : Kept wr, x.at_.cell? ⟨g6, 8, none⟩ = some (.int .u32 P3) := fun x => by simpa using (HGk'.out.later x.below).cell 8
          have k9 : ∀ x : Kept wr, x.at_.cell? ⟨g6, 9, none⟩ = some (.int .u32 P4) := fun x => by simpa using (HGk'.out.later x.below).cell 9
          have k10 : ∀ x : Kept wr, x.at_.cell? ⟨g6, 10, none⟩ = some (.int .u32 P5) := fun x => by simpa using (HGk'.out.later x.below).cell 10
          have k11 : ∀ x : Kept wr, x.at_.cell? ⟨g6, 11, none⟩ = some (.int .u32 P6) := fun x => by simpa using (HGk'.out.later x.below).cell 11
          have k12 : ∀ x : Kept wr, x.at_.cell? ⟨g6, 12, none⟩ = some (.int .u32 P7) := fun x => by simpa using (HGk'.out.later x.below).cell 12
          have k13 : ∀ x : Kept wr, x.at_.cell? ⟨g6, 13, none⟩ = some (.int .u32 P8) := fun x => by simpa using (HGk'.out.later x.below).cell 13
          have hne := kept_some wr
          refine wp_region_kept (by kernel_rfl) (by kernel_rfl) ?_
          repeat (go_big_quiet_step ((go_at_call 12; exact kept_call _ (HNg.out _))))
          refine wpQuiet_nil ?_
          rintro W ⟨wx, rfl⟩
          have HXe : Hid (Below w0.heap.size w0 wx.at_) := HX0.out.trans (wx.below.mono HX0.out.size)
          have HG5 := Lib.hid (HG0.out.later HXe.out)
          clear k0 k1 k2 k3 k4 k5 k6 k7 k8 k9 k10 k11 k12 k13
          have HI : Hid ((Tryd.prog.info? 25).map (·.size) = some zino.size) := infoIno
          go_wp2_with (refine wpList_store_row rfl 25 (.tmp 2) (.tmp 99) rfl w.heap.size zino rfl rfl 25 _ HG5.out HI.out rfl zino_one ?_)
          have hrow : (wx.at_.setRow w.heap.size zino).heap[w.heap.size]? = some (.cells zino 25 (0, 0)) := setRow_heap wx.at_ w.heap.size _ _ _ _ HG5.out
          refine bodyPost_ret (v := .tuple #[.agg zino, .int .i64 100]) ?_ rfl ⟨rfl, ?_⟩
          · simp [results, Tryd.results16, asAddr, run_loadVar_row _ _ 25 25 zino (0, 0) _ hrow hui rfl HI.out]
          · exact below_setRow (HB0.out.trans (HXe.out.mono HB0.out.size)) (Nat.le_refl _) _
end Go.Proofs.YtfkobamemehkdaaDoor
