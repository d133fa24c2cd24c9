/-
  The law's Bytes: a block's, by going round; a slice of one's own that is handed in.
-/
import Derived.Test.YtdnkeplmjimjcaaChPutW
namespace Go.Proofs.Ytdnkeplmjimjcaa
open Go.RowKit

def L64 (f : Nat → Nat) : List Nat := (List.range 64).map f
theorem L64_length (f : Nat → Nat) : (L64 f).length = 64 := by simp [L64]
theorem L64_get (f : Nat → Nat) (j : Nat) (h : j < 64) : (L64 f).getD j 0 = f j := by
  rw [List.getD_eq_getElem?_getD, L64, List.getElem?_map, List.getElem?_range h]; rfl
theorem L64_ext {f g : Nat → Nat} (h : ∀ j, j < 64 → f j = g j) : L64 f = L64 g := by
  apply List.map_congr_left
  intro j hj
  exact h j (List.mem_range.1 hj)
theorem L64_of (l : List Nat) (h : l.length = 64) : L64 (fun j => l.getD j 0) = l := by
  apply List.ext_getElem (by rw [L64_length, h])
  intro j h1 h2
  simp [L64, List.getD_eq_getElem?_getD, List.getElem?_eq_getElem h2]
theorem L64_byte {f : Nat → Nat} (h : ∀ j, j < 64 → f j < 256) : ∀ x ∈ L64 f, x < 256 := fun x hx => by
  simp only [L64, List.mem_map, List.mem_range] at hx
  obtain ⟨j, hj, rfl⟩ := hx
  exact h j hj
theorem getD_b {l : List Nat} (h : ∀ x ∈ l, x < 256) (j : Nat) : l.getD j 0 < 256 := by
  rw [List.getD_eq_getElem?_getD]
  cases e : l[j]? with
  | none => simp
  | some x => exact h x (List.mem_of_getElem? e)
def zeroB : List Nat := List.replicate 64 0
theorem zeroB_length : zeroB.length = 64 := by decide
theorem zeroB_byte : ∀ x ∈ zeroB, x < 256 := fun x hx => by rw [List.eq_of_mem_replicate hx]; decide
def BBlk (w : World) (g : Nat) (l : List Nat) : Prop := Blo w g U8 (cellsB l).toArray ∧ l.length = 64 ∧ ∀ x ∈ l, x < 256
def Z64 : Array Value := (cellsB zeroB).toArray
theorem run_make64 : ∀ W : World, (Instr.makeSlice 35 (.int .i64 64) (.int .i64 64)).run Try.prog W = .ok (.slice (some ⟨W.heap.size, 0, none⟩) 64 64) (W.alloc (.cells Z64 U8)) := fun _ => by kernel_rfl
theorem bblk_zero (w : World) : BBlk (w.alloc (.cells Z64 U8)) w.heap.size zeroB := ⟨blo_laid w U8 Z64, by decide, zeroB_byte⟩
def bytK (l : List Nat) (k : Nat) : List Nat := L64 fun j => if j < k then l.getD (j % l.length) 0 else 0
def byt (l : List Nat) : List Nat := L64 fun j => l.getD (j % l.length) 0
theorem byt_length (l : List Nat) : (byt l).length = 64 := L64_length _
theorem byt_byte {l : List Nat} (h : ∀ x ∈ l, x < 256) : ∀ x ∈ byt l, x < 256 := L64_byte fun j _ => getD_b h _
theorem bytK_byte {l : List Nat} (h : ∀ x ∈ l, x < 256) (k : Nat) : ∀ x ∈ bytK l k, x < 256 := L64_byte fun j _ => by
  split
  · exact getD_b h _
  · decide
theorem bytK_zero (l : List Nat) : bytK l 0 = zeroB := by
  unfold bytK zeroB L64
  simp [List.map_const']
theorem bytK_all (l : List Nat) : bytK l 64 = byt l := L64_ext fun j hj => if_pos hj
theorem bytK_nil (k : Nat) : bytK [] k = byt [] := L64_ext fun j hj => by simp
theorem bytK_put (l : List Nat) (k : Nat) (hk : k < 64) : (cellsB (bytK l k)).toArray.setIfInBounds k (.int .u8 (l.getD (k % l.length) 0 : Nat)) = (cellsB (bytK l (k + 1))).toArray := by
  have h1 : (bytK l k).length = 64 := L64_length _
  have h2 : (bytK l (k + 1)).length = 64 := L64_length _
  apply Array.ext_getElem?
  intro j
  rw [Array.getElem?_setIfInBounds, List.getElem?_toArray, List.getElem?_toArray, List.size_toArray, cellsB_length, h1]
  by_cases hj : j < 64
  · rw [cellsB_get _ j (by omega), cellsB_get _ j (by omega)]
    unfold bytK
    rw [L64_get _ _ hj, L64_get _ _ hj]
    by_cases e : k = j
    · subst e; rw [if_pos rfl, if_pos hk, if_pos (by omega)]
    · rw [if_neg e]
      by_cases c : j < k
      · rw [if_pos c, if_pos (by omega)]
      · rw [if_neg c, if_neg (by omega)]
  · rw [if_neg (by omega), List.getElem?_eq_none (by rw [cellsB_length]; omega), List.getElem?_eq_none (by rw [cellsB_length]; omega)]
def BytO (w : World) (l : List Nat) (e : Ending) (w' : World) : Prop :=
  ∃ g, e = .returned (.slice (some ⟨g, 0, none⟩) 64 64) ∧ BBlk w' g l ∧ w.heap.size ≤ g ∧ Below w.heap.size w w'
def BytR (w : World) (l : List Nat) (t : Value) (wr : World) : Prop :=
  ∃ k : Nat, k ≤ 64 ∧ t = .int .i64 k ∧ Blo wr w.heap.size U8 (cellsB (bytK l k)).toArray ∧ Below w.heap.size w wr
set_option maxHeartbeats 1000000 in
theorem bytes_any (a : Option Addr) (n cap : Nat) (l : List Nat) (w : World) (hn : n = l.length) (hm : n ≤ 9223372036854775807) (h : Bytes w a l) : Calls Try.prog 12 #[.slice a n cap] w (BytO w (byt l)) := by
  have hmk := run_make64
  have HN := Lib.hid hn
  have H := Lib.hid h
  have hb0 : Below w.heap.size w (w.alloc (.cells Z64 U8)) := (Below.refl _ _).alloc (Nat.le_refl _) _
  have HSt : Hid (BytR w l (.int .i64 0) (w.alloc (.cells Z64 U8))) := ⟨0, by omega, rfl, by rw [bytK_zero]; exact blo_laid w U8 Z64, hb0⟩
  clear hn h hb0
  go_enter Try.func12, Try.ntmps12
  go_wp2_with fail
  clear hmk
  go_loopw [8] (fun t wr => BytR w l t wr) (fun t _ => 64 - (intOf t).toNat)
  case atStart => exact HSt.out
  case round =>
    clear HSt
    obtain ⟨k, hk, rfl, hG, hb⟩ := hrel
    have HB := Lib.hid hb
    clear hb
    by_cases hlt : k < 64
    · have k0 : (0 : Int) ≤ (k : Int) := by omega
      have k1 : (k : Int) < 64 := by omega
      by_cases hn0 : 0 < n
      · obtain ⟨b, o, rfl, hc⟩ := (H.out.below HB.out).2.2 (fun e => by have := HN.out; rw [e] at this; simp at this; omega)
        obtain ⟨r, hr⟩ : ∃ r, k % n = r := ⟨_, rfl⟩
        have hrn : r < n := by rw [← hr]; exact Nat.mod_lt _ hn0
        have hcr := hc r (by rw [← HN.out]; exact hrn)
        have er : (k : Int) % (n : Int) = (r : Int) := by rw [← hr]; first | exact (Int.natCast_emod k n).symm | exact (Int.ofNat_emod k n).symm | simp
        have hc0 := hG.cell k
        rw [List.getElem?_toArray, cellsB_get _ _ (by rw [show (bytK l k).length = 64 from L64_length _]; exact hlt)] at hc0
        have hf0 := hG.frozen k
        have HG2 : Hid (Blo (wr.setCell ⟨w.heap.size, k, none⟩ (.int .u8 (l.getD r 0 : Nat))) w.heap.size U8 (cellsB (bytK l (k + 1))).toArray) := by
          have := hG.put k (.int .u8 (l.getD r 0 : Nat))
          rw [← hr, HN.out, bytK_put l k hlt] at this
          rw [← hr, HN.out]
          exact this
        have n1 : (0 : Int) < (n : Int) := by omega
        have r0 : (0 : Int) ≤ (r : Int) := by omega
        have r1 : (r : Int) < (n : Int) := by omega
        clear hr hc hG
        generalize l.getD r 0 = x at *
        go_wp2_with fail
        clear er
        have HB2 := Lib.hid (HB.out.setCell (p := ⟨w.heap.size, k, none⟩) (Nat.le_refl _) (.int .u8 (x : Int)))
        clear hc0 hf0 hcr HB
        go_roundw
        case rel => exact ⟨k + 1, by omega, by simp, HG2.out, HB2.out⟩
        case measure => simp [intOf]; omega
      · have hl : l = [] := List.eq_nil_of_length_eq_zero (by have := HN.out; omega)
        have HG2 : Hid (Blo wr w.heap.size U8 (cellsB (bytK l (k + 1))).toArray) := by
          have := hG
          rw [hl, bytK_nil] at this
          rw [hl, bytK_nil]
          exact this
        have n1 : ¬ (0 : Int) < (n : Int) := by omega
        clear hG hl
        go_wp2_with fail
        go_roundw
        case rel => exact ⟨k + 1, by omega, by simp, HG2.out, HB.out⟩
        case measure => simp [intOf]; omega
    · have hke : k = 64 := by omega
      subst hke
      rw [bytK_all] at hG
      have HG2 := Lib.hid hG
      have HBy := Lib.hid (byt_byte H.out.1)
      clear hG
      go_wp2
      go_ret
      exact ⟨w.heap.size, rfl, ⟨HG2.out, byt_length _, HBy.out⟩, Nat.le_refl _, HB.out⟩
/-- Of a cache's block of bytes. -/
theorem dtL_gd {l : List Nat} (h : l.length = 64) : dtL (gd l) = l := L64_of l h
theorem BBlk.later {w w' : World} {g : Nat} {l : List Nat} (h : BBlk w g l) (hb : Below w.heap.size w w') : BBlk w' g l := ⟨h.1.later hb, h.2⟩
/-- A block of bytes of one's own, handed in. -/
theorem BBlk.din {w : World} {g : Nat} {l : List Nat} (h : BBlk w g l) {bc bm base : Nat} {room uses : Int} {v : Value} {n : Nat} {f : Int × Int → Option Nat} {ks : List (Int × Int)} (hC : CB w bc bm room uses v) (hK : KM w bm n f ks) : DIn w bc bm base (some ⟨g, 0, none⟩) l := by
  refine ⟨⟨h.2.2, by rw [h.2.1]; decide, fun _ => ⟨g, 0, rfl, fun i hi => ?_⟩⟩, fun g' o e => ?_⟩
  · rw [Nat.zero_add, h.1.cell, List.getElem?_toArray, cellsB_get l i hi]
  · cases e
    refine ⟨h.1.lt, ?_⟩
    rintro ⟨-, e | e | ⟨t, cs, h1, h2⟩⟩
    · exact h.1.apart hC (by decide) e
    · exact hK.blo h.1 e.symm
    · have := h.1
      unfold Blo at this h1
      rw [h1] at this
      cases this
      rcases h2 with e | e
      · exact absurd e (by decide)
      · exact absurd e (by decide)
theorem CA.din {w : World} {bc bm base N T : Nat} {room : Int} {L : List Bk} (hC : CA w bc bm base room N T L) {g : Nat} {l : List Nat} (h : BBlk w g l) : DIn w bc bm base (some ⟨g, 0, none⟩) l := by
  obtain ⟨x, hC, -⟩ := hC
  exact h.din hC.cb hC.km
end Go.Proofs.Ytdnkeplmjimjcaa
