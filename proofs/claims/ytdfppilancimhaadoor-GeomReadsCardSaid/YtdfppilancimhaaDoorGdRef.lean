/-
  The walks of a geometry's block as the document has it.
-/
import Derived.Test.YtdfppilancimhaaDoorGdEncode
namespace Go.Proofs.YtdfppilancimhaaDoor
open Go.RowKit

set_option maxHeartbeats 400000 in
theorem four_any (n : Nat) (w : World) (hn : n < 4294967296) :
    Calls Tryd.prog 21 #[.int .i64 n] w fun e w' => e = .returned (.slice (some ⟨w.heap.size, 0, none⟩) 4 4) ∧ w' = w.alloc (.cells (cellsB (le4 n)).toArray 5) := by
  go_enter Tryd.func21, Tryd.ntmps21
  go_wp2
  go_ret
  refine ⟨rfl, ?_⟩
  have e3 : n / 16777216 % 256 = n / 16777216 := by omega
  first
    | rfl
    | (unfold le4; rw [e3]; rfl)
theorem four_row (n : Nat) (w : World) (hn : n < 4294967296) :
    Calls Tryd.prog 21 #[.int .i64 n] w fun e w' => e = .returned (.slice (some ⟨w.heap.size, 0, none⟩) 4 4) ∧ Row w' w.heap.size (le4 n) ∧ Below w.heap.size w w' :=
  (four_any n w hn).mono fun _ _ ⟨h1, h2⟩ => ⟨h1, by rw [h2]; exact row_laid w _, by rw [h2]; exact (Below.refl _ _).alloc (Nat.le_refl _) _⟩
def marl4 : List Nat := [77, 65, 82, 76]
theorem marl4_own (w : World) (t : TypeId) : (w.alloc (.cells #[.int .u8 77, .int .u8 65, .int .u8 82, .int .u8 76] t)).ownsRow w.heap.size t 1 (.slice (some ⟨w.heap.size, 0, none⟩) 4 4) 4 (cellsB marl4) :=
  World.ownsRow_lit w #[.int .u8 77, .int .u8 65, .int .u8 82, .int .u8 76] 4 (Nat.le_refl _) (by decide) rfl
/-- What stands behind each of the appends. -/
structure Grown4 (w w2 : World) (base : Nat) (a : Option Addr) (n cap : Nat) (l : List Nat) : Prop where
  own : w2.ownsRow base 5 1 (.slice a n cap) n (cellsB l)
  lt : ∀ x ∈ l, x < 256
  below : Below w.heap.size w w2
  size : base ≤ w2.heap.size
  low : w.heap.size ≤ base
def RE (w : World) (B S I : Nat) (e : Ending) (w' : World) : Prop :=
  ∃ a' cap', e = .returned (.slice a' 64 cap') ∧ Bytes w' a' (sealN (bodyN B S I)) ∧ Below w.heap.size w w'
theorem Grown4.next {w w2 w3 wp : World} {base : Nat} {a a3 : Option Addr} {n m cap cap3 : Nat} {l t : List Nat} (h : Grown4 w w2 base a n cap l) (hb : Below w2.heap.size w2 wp) (ht : ∀ x ∈ t, x < 256)
    (ho : w3.ownsRow base 5 1 (.slice a3 (n + m) cap3) (n + m) (cellsB (l ++ t))) (hg : wp.grownBy w3 (Value.slice a n cap).ownBlock) : Grown4 w w3 base a3 (n + m) cap3 (l ++ t) := by
  have hs := hb.size
  have hl := h.below.size
  have hB : Below w.heap.size wp w3 := (Below.refl _ _).grown hg (by omega) (fun k hk => Nat.le_trans h.low (h.own.lt k hk).1)
  refine ⟨ho, fun x hx => ?_, (h.below.trans (hb.mono hl)).trans hB, ?_, h.low⟩
  · rcases List.mem_append.1 hx with h1 | h1
    · exact h.lt x h1
    · exact ht x h1
  · have := hB.size; have := h.size; omega
theorem Grown4.kept {w w2 wp : World} {base : Nat} {a : Option Addr} {n cap : Nat} {l : List Nat} (h : Grown4 w w2 base a n cap l) (hb : Below w2.heap.size w2 wp) : wp.ownsRow base 5 1 (.slice a n cap) n (cellsB l) := by
  refine h.own.kept (row := none) ⟨hb.os, hb.tape, hb.output, hb.size, fun k hk _ => hb.block k hk⟩ ?_
  cases hv : (Value.slice a n cap).ownBlock with
  | none => exact .inl rfl
  | some g => exact .inr (by simp)
def lenV : Value → Nat
  | .slice _ n _ => n
  | _ => 0
def FillRel (w : World) (base : Nat) (L : List Nat) (t : Value) (wr : World) : Prop :=
  ∃ (k : Nat) (a : Option Addr) (cap : Nat), t = .slice a (16 + k) cap ∧ k ≤ 44 ∧ Grown4 w wr base a (16 + k) cap (L ++ List.replicate k 0)
theorem zero_cells : ∀ i, i < ([0] : List Nat).length → (#[Value.int .u8 0] : Array Value)[i]? = some (.int .u8 (([0] : List Nat).getD i 0 : Nat)) := by
  intro i hi
  match i, hi with
  | 0, _ => rfl
theorem fill_next {w wr w2 : World} {base k cap cap2 : Nat} {a a2 : Option Addr} {L : List Nat} {o : Obj} (hk : k < 44) (h : Grown4 w wr base a (16 + k) cap (L ++ List.replicate k 0))
    (ho : w2.ownsRow base 5 1 (.slice a2 (16 + k + 1) cap2) (16 + k + 1) (cellsB ((L ++ List.replicate k 0) ++ [0]))) (hg : (wr.alloc o).grownBy w2 (Value.slice a (16 + k) cap).ownBlock) :
    FillRel w base L (.slice a2 (16 + k + 1) cap2) w2 := by
  have hn := h.next (sup_below wr o) (t := [0]) (by decide) ho hg
  rw [List.append_assoc, ← List.replicate_succ'] at hn
  exact ⟨k + 1, a2, cap2, rfl, by omega, hn⟩
set_option maxHeartbeats 1000000 in
theorem refEncode_any (B S I : Nat) (w : World) (hB : B < 4294967296) (hS : S < 4294967296) (hI : I < 4294967296) :
    Calls Tryd.prog 12 #[.agg #[.int .i64 B, .int .i64 S, .int .i64 I]] w (RE w B S I) := by
  have HC0 := Lib.hid (cells3_laid w B S I 26)
  go_enter Tryd.func12, Tryd.ntmps12
  go_wp2_with fail
  have G0 : Hid (Grown4 (w.alloc (.cells #[.int .i64 B, .int .i64 S, .int .i64 I] 26)) ((w.alloc (.cells #[.int .i64 B, .int .i64 S, .int .i64 I] 26)).alloc (.cells #[.int .u8 77, .int .u8 65, .int .u8 82, .int .u8 76] 5)) (w.heap.size + 1) (some ⟨w.heap.size + 1, 0, none⟩) 4 4 marl4) := by
    have ho := marl4_own (w.alloc (.cells #[.int .i64 B, .int .i64 S, .int .i64 I] 26)) 5
    have e : (w.alloc (.cells #[.int .i64 B, .int .i64 S, .int .i64 I] 26)).heap.size = w.heap.size + 1 := by simp
    rw [e] at ho
    exact ⟨ho, by decide, (Below.refl _ _).alloc (Nat.le_refl _) _, by simp, by simp⟩
  have HC1 : Hid (Cells3 ((w.alloc (.cells #[.int .i64 B, .int .i64 S, .int .i64 I] 26)).alloc (.cells #[.int .u8 77, .int .u8 65, .int .u8 82, .int .u8 76] 5)) w.heap.size B S I) := HC0.out.below (sup_below _ _) (by simp)
  have HB0 : Hid (Below w.heap.size w (w.alloc (.cells #[.int .i64 B, .int .i64 S, .int .i64 I] 26))) := sup_below w _
  have hz0 : w.heap.size < (w.alloc (.cells #[.int .i64 B, .int .i64 S, .int .i64 I] 26)).heap.size := by simp
  generalize ((w.alloc (.cells #[.int .i64 B, .int .i64 S, .int .i64 I] 26)).alloc (.cells #[.int .u8 77, .int .u8 65, .int .u8 82, .int .u8 76] 5)) = wa at G0 HC1 ⊢
  generalize (w.alloc (.cells #[.int .i64 B, .int .i64 S, .int .i64 I] 26)) = w0 at G0 HC0 HB0 hz0
  refine (four_row B _ hB).mono ?_
  rintro e wp0 ⟨rfl, hr0, hb0⟩
  have HR0 := Lib.hid hr0
  have HP0 := Lib.hid hb0
  have hzz0 := hb0.size
  have hgs0 := G0.out.size
  have hgl0 := G0.out.low
  clear hr0 hb0
  have hcz0 : Hid (Cells3 wp0 w.heap.size B S I) := HC1.out.below HP0.out (by omega)
  go_wp2_with (at_builtin; refine wp_append_bytes rfl (.tmp 5) (.tmp 8) 28 rfl (w.heap.size + 1) 5 Tryd.underlying28 info_u8 _ 4 marl4 rfl (G0.out.kept HP0.out) G0.out.lt (some ⟨wa.heap.size, 0, none⟩) 4 4 (le4 B) rfl rfl (HR0.out.bytes (le4_lt B) (by simp [le4])) (fun h => by cases h) (by omega) (by omega) ?_; intro a1 cap1 wb hown hgr hB1 hn1; have G1 : Hid (Grown4 w0 wb (w.heap.size + 1) a1 8 cap1 (marl4 ++ le4 B)) := G0.out.next HP0.out (le4_lt B) hown hgr; have HC2 : Hid (Cells3 wb w.heap.size B S I) := HC0.out.below G1.out.below hz0; clear hown hgr hB1 hn1; obtain ⟨c0, c1, c2⟩ := HC2.out)
  clear c0 c1 c2
  refine (four_row S _ hS).mono ?_
  rintro e wp1 ⟨rfl, hr1, hb1⟩
  have HR1 := Lib.hid hr1
  have HP1 := Lib.hid hb1
  have hzz1 := hb1.size
  have hgs1 := G1.out.size
  have hgl1 := G1.out.low
  clear hr1 hb1
  have hcz1 : Hid (Cells3 wp1 w.heap.size B S I) := HC2.out.below HP1.out (by omega)
  go_wp2_with (at_builtin; refine wp_append_bytes rfl (.tmp 10) (.tmp 13) 28 rfl (w.heap.size + 1) 5 Tryd.underlying28 info_u8 _ 8 (marl4 ++ le4 B) rfl (G1.out.kept HP1.out) G1.out.lt (some ⟨wb.heap.size, 0, none⟩) 4 4 (le4 S) rfl rfl (HR1.out.bytes (le4_lt S) (by simp [le4])) (fun h => by cases h) (by omega) (by omega) ?_; intro a2 cap2 wc hown hgr hB1 hn1; have G2 : Hid (Grown4 w0 wc (w.heap.size + 1) a2 12 cap2 ((marl4 ++ le4 B) ++ le4 S)) := G1.out.next HP1.out (le4_lt S) hown hgr; have HC3 : Hid (Cells3 wc w.heap.size B S I) := HC0.out.below G2.out.below hz0; clear hown hgr hB1 hn1; obtain ⟨c0, c1, c2⟩ := HC3.out)
  clear c0 c1 c2
  refine (four_row I _ hI).mono ?_
  rintro e wp2 ⟨rfl, hr2, hb2⟩
  have HR2 := Lib.hid hr2
  have HP2 := Lib.hid hb2
  have hzz2 := hb2.size
  have hgs2 := G2.out.size
  have hgl2 := G2.out.low
  clear hr2 hb2
  have hcz2 : Hid (Cells3 wp2 w.heap.size B S I) := HC3.out.below HP2.out (by omega)
  go_wp2_with (at_builtin; refine wp_append_bytes rfl (.tmp 15) (.tmp 18) 28 rfl (w.heap.size + 1) 5 Tryd.underlying28 info_u8 _ 12 ((marl4 ++ le4 B) ++ le4 S) rfl (G2.out.kept HP2.out) G2.out.lt (some ⟨wc.heap.size, 0, none⟩) 4 4 (le4 I) rfl rfl (HR2.out.bytes (le4_lt I) (by simp [le4])) (fun h => by cases h) (by omega) (by omega) ?_; intro a3 cap3 wd hown hgr hB1 hn1; have G3 : Hid (Grown4 w0 wd (w.heap.size + 1) a3 16 cap3 (((marl4 ++ le4 B) ++ le4 S) ++ le4 I)) := G2.out.next HP2.out (le4_lt I) hown hgr; have HC4 : Hid (Cells3 wd w.heap.size B S I) := HC0.out.below G3.out.below hz0; clear hown hgr hB1 hn1; obtain ⟨c0, c1, c2⟩ := HC4.out)
  clear c0 c1 c2
  go_loopw [3] (fun t wr => FillRel w0 (w.heap.size + 1) ((((marl4 ++ le4 B) ++ le4 S) ++ le4 I)) t wr) (fun t _ => 60 - lenV t)
  case atStart => exact ⟨0, a3, cap3, rfl, by omega, by simpa using G3.out⟩
  case round =>
    obtain ⟨k, a, cap, rfl, hk, hg⟩ := hrel
    have HG := Lib.hid hg
    have hlow := hg.low
    have hsz := hg.size
    clear hg
    by_cases hlt : k < 44
    · go_wp2_with (at_builtin; refine wp_append_bytes rfl (.tmp 23) (.tmp 24) 28 rfl (w.heap.size + 1) 5 Tryd.underlying28 info_u8 _ (16 + k) (((((marl4 ++ le4 B) ++ le4 S) ++ le4 I)) ++ List.replicate k 0) rfl (HG.out.own.alloc _) HG.out.lt (some ⟨wr.heap.size, 0, none⟩) 1 1 [0] rfl rfl (Bytes.laid wr [0] _ _ _ (by decide) (by decide) zero_cells) (fun h => by cases h) (by omega) (by simp; omega) ?_; intro a' cap' w2 hown hgr hB1 hn1; have HF := Lib.hid (fill_next hlt HG.out hown hgr); clear hown hgr hB1 hn1)
      go_roundw
      case rel => exact HF.out
      case measure => simp [lenV]; omega
    · obtain rfl : k = 44 := by omega
      clear hlt
      have hY : Hid (Bytes wr a (bodyN B S I)) := by
        obtain ⟨a2, c2, he, _, hB, _⟩ := Bytes.own HG.out.own HG.out.lt
        cases he
        exact hB
      have hN : Hid (a = none → bodyN B S I = [] ∧ cap = 0) := fun e => by
        subst e
        rcases HG.out.own.2 with ⟨_, h2⟩ | ⟨g', c, cur, h1, _⟩
        · omega
        · cases h1
      go_wp2_with fail
      refine (refSeal_any (bodyN B S I) 60 (bodyN_length B S I).symm (by decide) a cap _ hY.out hN.out).mono ?_
      rintro e wz ⟨a', cap', rfl, hby, hbw, _, _⟩
      have HBY := Lib.hid hby
      have HW : Hid (Below w.heap.size w wz) := HB0.out.trans ((HG.out.below.mono (by omega)).trans (hbw.mono (by omega)))
      clear hby hbw
      go_wp2
      go_ret
      exact ⟨a', cap', rfl, HBY.out, HW.out⟩
end Go.Proofs.YtdfppilancimhaaDoor
