/-
  The walk of the document's block of pointers.
-/
import Derived.Test.YtfkobamemehkdaaDoorInBlock
import Derived.Test.YtfkobamemehkdaaDoorGrow
namespace Go.Proofs.YtfkobamemehkdaaDoor
open Go.RowKit

def pvals (ps : List Nat) : List Value := ps.map fun p : Nat => Value.int .u32 (p : Int)
theorem pvals_get (ps : List Nat) (k : Nat) (hk : k < ps.length) : (pvals ps).toArray[k]? = some (.int .u32 (ps.getD k 0 : Nat)) := by
  simp [pvals, List.getD_eq_getElem?_getD, List.getElem?_eq_getElem hk]
def flatP (ps : List Nat) (k : Nat) : List Nat := (ps.take k).flatMap le4
theorem flatP_next (ps : List Nat) (k : Nat) (hk : k < ps.length) : flatP ps k ++ le4 (ps.getD k 0) = flatP ps (k + 1) := by
  unfold flatP
  rw [take_snocN ps k hk, List.flatMap_append]
  simp
theorem flatP_lt (ps : List Nat) (k : Nat) : ∀ x ∈ flatP ps k, x < 256 := by
  intro x hx
  obtain ⟨y, _, h⟩ := List.mem_flatMap.1 hx
  exact le4_lt y x h
theorem flatP_len (ps : List Nat) (k : Nat) (hk : k ≤ ps.length) : (flatP ps k).length = 4 * k := by
  induction k with
  | zero => rfl
  | succ k ih =>
    rw [← flatP_next ps k (by omega), List.length_append, ih (by omega)]
    show 4 * k + 4 = _
    omega
def BRel (wb : World) (base : Nat) (ps : List Nat) (v i : Value) (wr : World) : Prop :=
  ∃ (k : Nat) (a : Option Addr) (cap : Nat), k ≤ 16 ∧ i = .int .i64 k ∧ v = .slice a (4 * k) cap ∧ Grown4 wb wr base a (4 * k) cap (flatP ps k)
def BOut (w : World) (L : List Nat) (e : Ending) (w' : World) : Prop :=
  ∃ a cap, e = .returned (.slice a 64 cap) ∧ Bytes w' a L ∧ L.length = 64 ∧ Below w.heap.size w w'
theorem brel_next {wb wr wp w3 : World} {base k p : Nat} {ps : List Nat} {a a3 : Option Addr} {cap cap3 : Nat} (hk : k < 16) (hps : ps.length = 16) (hp : ps.getD k 0 = p) (h : Grown4 wb wr base a (4 * k) cap (flatP ps k)) (hb : Below wr.heap.size wr wp)
    (ho : w3.ownsRow base 5 1 (.slice a3 (4 * k + 4) cap3) (4 * k + 4) (cellsB (flatP ps k ++ le4 p))) (hg : wp.grownBy w3 (Value.slice a (4 * k) cap).ownBlock) :
    BRel wb base ps (.slice a3 (4 * k + 4) cap3) (.int .i64 ((k : Int) + 1)) w3 := by
  have hn := h.next hb (le4_lt p) ho hg
  subst hp
  rw [flatP_next ps k (by omega)] at hn
  exact ⟨k + 1, a3, cap3, by omega, by simp, rfl, hn⟩
set_option maxHeartbeats 2000000 in
theorem refBlock_list (ps : List Nat) (hps : ps.length = 16) (h32 : ∀ p ∈ ps, p < 4294967296) (w : World) :
    Calls Tryd.prog 19 #[.agg (pvals ps).toArray] w (BOut w (flatP ps 16)) := by
  have HP := Lib.hid hps
  have H32 := Lib.hid h32
  clear hps h32
  go_enter Tryd.func19, Tryd.ntmps19
  go_wp2_with fail
  have hb0 := sup_grow w (.cells (pvals ps).toArray 39)
  have HB0 := Lib.hid hb0
  have HG0 := Lib.hid (blo_laid w 39 (pvals ps).toArray)
  have hz0 : (w.alloc (.cells (pvals ps).toArray 39)).heap.size = w.heap.size + 1 := by simp
  have HZ0 := Lib.hid hz0
  clear hb0 hz0
  generalize (w.alloc (.cells (pvals ps).toArray 39)) = wb at *
  go_loopw [3, 4] (fun v i wr => BRel wb (w.heap.size + 1) ps v i wr) (fun _ i _ => 16 - (intOf i).toNat)
  case atStart => exact ⟨0, none, 0, by omega, rfl, rfl, ⟨World.ownsRow_nil _ _ _ _, by simp [flatP], Below.refl _ _, by rw [HZ0.out]; exact Nat.le_refl _, by rw [HZ0.out]; exact Nat.le_refl _⟩⟩
  case round =>
    obtain ⟨k, a, cap, hk, rfl, rfl, hg⟩ := hrel
    have HG := Lib.hid hg
    have hlow := hg.low
    have hsz := hg.size
    clear hg
    by_cases hlt : k < 16
    · have hc0 : wr.cell? ⟨w.heap.size, k, none⟩ = some (.int .u32 (ps.getD k 0 : Nat)) := by
        rw [(HG0.out.below HG.out.below (by rw [HZ0.out]; omega)).cell k]
        exact pvals_get ps k (by rw [HP.out]; exact hlt)
      have hp : ps.getD k 0 < 4294967296 := by
        rw [List.getD_eq_getElem?_getD, List.getElem?_eq_getElem (by rw [HP.out]; exact hlt)]
        exact H32.out _ (List.getElem_mem _)
      generalize hpe : ps.getD k 0 = p at *
      have HPE := Lib.hid hpe
      clear hpe
      go_wp2_with fail
      refine (four_row p _ hp).mono ?_
      rintro e wp ⟨rfl, hr, hb⟩
      have HR := Lib.hid hr
      have HPb := Lib.hid hb
      have hzz := hb.size
      clear hr hb hc0
      go_wp2_with (at_builtin; refine wp_append_bytes rfl (.tmp 9) (.tmp 14) 27 rfl (w.heap.size + 1) 5 Tryd.underlying27 info_u8 _ (4 * k) (flatP ps k) rfl (HG.out.kept HPb.out) HG.out.lt (some ⟨wr.heap.size, 0, none⟩) 4 4 (le4 p) rfl rfl (HR.out.bytes (le4_lt p) (by simp [le4])) (fun h => by cases h) (by omega) (by omega) ?_; intro a3 cap3 w3 hown hgr hB hn; have HF := Lib.hid (brel_next hlt HP.out HPE.out HG.out HPb.out hown hgr); clear hown hgr hB hn)
      go_roundw
      case rel => exact HF.out
      case measure => simp [intOf]; omega
    · obtain rfl : k = 16 := by omega
      clear hlt
      have HX : Hid (Bytes wr a (flatP ps 16)) := by
        obtain ⟨a2, c2, he, _, hB, _⟩ := Bytes.own HG.out.own HG.out.lt
        cases he
        exact hB
      go_wp2
      go_ret
      exact ⟨a, cap, rfl, HX.out, by rw [flatP_len ps 16 (by rw [HP.out]; exact Nat.le_refl _)], HB0.out.trans (HG.out.below.mono HB0.out.size)⟩
theorem refBlock_any (p0 p1 p2 p3 p4 p5 p6 p7 p8 p9 p10 p11 p12 p13 p14 p15 : Nat) (w : World) (q0 : p0 < 4294967296) (q1 : p1 < 4294967296) (q2 : p2 < 4294967296) (q3 : p3 < 4294967296) (q4 : p4 < 4294967296) (q5 : p5 < 4294967296) (q6 : p6 < 4294967296) (q7 : p7 < 4294967296) (q8 : p8 < 4294967296) (q9 : p9 < 4294967296) (q10 : p10 < 4294967296) (q11 : p11 < 4294967296) (q12 : p12 < 4294967296) (q13 : p13 < 4294967296) (q14 : p14 < 4294967296) (q15 : p15 < 4294967296) :
    Calls Tryd.prog 19 #[.agg (ptrs p0 p1 p2 p3 p4 p5 p6 p7 p8 p9 p10 p11 p12 p13 p14 p15)] w (BOut w (blkN p0 p1 p2 p3 p4 p5 p6 p7 p8 p9 p10 p11 p12 p13 p14 p15)) :=
  refBlock_list [p0, p1, p2, p3, p4, p5, p6, p7, p8, p9, p10, p11, p12, p13, p14, p15] rfl (by simp [q0, q1, q2, q3, q4, q5, q6, q7, q8, q9, q10, q11, q12, q13, q14, q15]) w
end Go.Proofs.YtfkobamemehkdaaDoor
