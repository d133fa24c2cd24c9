/-
  The walks of Seal and Open, the program's and the document's: bytes with their sum behind them.
-/
import Derived.Test.YtfkobamemehkdaaDoorBaseSum
import Derived.Deep.QuietTactic
import Derived.BigQuiet
import Derived.StillTailTactics
import Derived.Laws.CopyOwn
namespace Go.Proofs.YtfkobamemehkdaaDoor
open Go.RowKit

/-- A number's four bytes, the lowest first. -/
def le4 (v : Nat) : List Nat := [v % 256, v / 256 % 256, v / 65536 % 256, v / 16777216 % 256]
def sealN (l : List Nat) : List Nat := l ++ le4 (crc l)
theorem le4_lt (v : Nat) : ∀ x ∈ le4 v, x < 256 := by
  intro x hx
  simp only [le4, List.mem_cons, List.not_mem_nil, or_false] at hx
  omega
set_option maxHeartbeats 400000 in
theorem put_any (v g k m c : Nat) (w : World) (x0 x1 x2 x3 : Value) (hm : 4 ≤ m) (hm2 : m ≤ 9223372036854775807)
    (c0 : w.cell? ⟨g, k, none⟩ = some x0) (c1 : w.cell? ⟨g, k + 1, none⟩ = some x1) (c2 : w.cell? ⟨g, k + 2, none⟩ = some x2) (c3 : w.cell? ⟨g, k + 3, none⟩ = some x3)
    (f0 : w.frozen? ⟨g, k, none⟩ = false) (f1 : w.frozen? ⟨g, k + 1, none⟩ = false) (f2 : w.frozen? ⟨g, k + 2, none⟩ = false) (f3 : w.frozen? ⟨g, k + 3, none⟩ = false) :
    Calls Tryd.prog 30 #[.slice (some ⟨g, k, none⟩) m c, .int .u32 v] w fun e w' => e = .returned (.tuple #[]) ∧
      w' = (((w.setCell ⟨g, k, none⟩ (.int .u8 (v % 256 : Nat))).setCell ⟨g, k + 1, none⟩ (.int .u8 (v / 256 % 256 : Nat))).setCell ⟨g, k + 2, none⟩ (.int .u8 (v / 65536 % 256 : Nat))).setCell ⟨g, k + 3, none⟩ (.int .u8 (v / 16777216 % 256 : Nat)) := by
  go_enter Tryd.func30, Tryd.ntmps30
  go_wp2
  refine wp_loop_rounds 5 ?_
  rw [rounds_succ]
  go_wp2
  rw [rounds_succ]
  go_wp2
  rw [rounds_succ]
  go_wp2
  rw [rounds_succ]
  go_wp2
  rw [rounds_succ]
  go_wp2
  go_end0
  exact ⟨rfl, rfl⟩

/-- Block g is a row of just these bytes. -/
def Row (w : World) (g : Nat) (l : List Nat) : Prop := w.heap[g]? = some (.cells (cellsB l).toArray 5 (0, 0))
theorem Row.cell {w : World} {g : Nat} {l : List Nat} (h : Row w g l) (j : Nat) (hj : j < l.length) : w.cell? ⟨g, j, none⟩ = some (.int .u8 (l.getD j 0 : Nat)) := by
  rw [cell_of_row w g j _ _ _ h]
  simp only [List.getElem?_toArray]
  exact cellsB_get l j hj
theorem Row.frozen {w : World} {g : Nat} {l : List Nat} (h : Row w g l) (j : Nat) : w.frozen? ⟨g, j, none⟩ = false := frozen_of_row w g j _ _ h
theorem Row.set {w : World} {g : Nat} {l : List Nat} (h : Row w g l) (j x : Nat) : Row (w.setCell ⟨g, j, none⟩ (.int .u8 x)) g (l.set j x) := by
  unfold Row
  rw [heap_setCell_same w g j _ _ _ h]
  congr 2
  apply Array.toList_inj.1
  simp [cellsB, List.map_set]
theorem Row.bytes {w : World} {g : Nat} {l : List Nat} (h : Row w g l) (h1 : ∀ x ∈ l, x < 256) (h2 : l.length ≤ 9223372036854775807) : Bytes w (some ⟨g, 0, none⟩) l :=
  ⟨h1, h2, fun _ => ⟨g, 0, rfl, fun i hi => by rw [Nat.zero_add]; exact h.cell i hi⟩⟩
theorem Row.below {w w' : World} {g B : Nat} {l : List Nat} (h : Row w g l) (hb : Below B w w') (hB : g < B) : Row w' g l := by
  unfold Row
  rw [hb.block g hB]
  exact h
theorem set_tail (l : List Nat) (x0 x1 x2 x3 v : Nat) :
    ((((l ++ [x0, x1, x2, x3]).set l.length (v % 256)).set (l.length + 1) (v / 256 % 256)).set (l.length + 2) (v / 65536 % 256)).set (l.length + 3) (v / 16777216 % 256) = l ++ le4 v := by
  simp [le4]
theorem put_row (v : Nat) (l : List Nat) (x0 x1 x2 x3 g k m c : Nat) (w : World) (hk : k = l.length) (hr : Row w g (l ++ [x0, x1, x2, x3])) (hm : 4 ≤ m) (hm2 : m ≤ 9223372036854775807) :
    Calls Tryd.prog 30 #[.slice (some ⟨g, k, none⟩) m c, .int .u32 v] w fun e w' => e = .returned (.tuple #[]) ∧ Row w' g (l ++ le4 v) ∧ Below g w w' := by
  subst hk
  refine (put_any v g l.length m c w _ _ _ _ hm hm2 (hr.cell _ (by simp)) (hr.cell _ (by simp)) (hr.cell _ (by simp)) (hr.cell _ (by simp)) (hr.frozen _) (hr.frozen _) (hr.frozen _) (hr.frozen _)).mono ?_
  rintro e w' ⟨he, rfl⟩
  have b1 : Below g w (w.setCell ⟨g, l.length, none⟩ (.int .u8 (v % 256 : Nat))) := (Below.refl g w).setCell (Nat.le_refl g) _
  have b2 := b1.setCell (p := ⟨g, l.length + 1, none⟩) (Nat.le_refl g) (.int .u8 (v / 256 % 256 : Nat))
  have b3 := b2.setCell (p := ⟨g, l.length + 2, none⟩) (Nat.le_refl g) (.int .u8 (v / 65536 % 256 : Nat))
  have b4 := b3.setCell (p := ⟨g, l.length + 3, none⟩) (Nat.le_refl g) (.int .u8 (v / 16777216 % 256 : Nat))
  refine ⟨he, ?_, b4⟩
  have := (((hr.set l.length (v % 256)).set (l.length + 1) (v / 256 % 256)).set (l.length + 2) (v / 65536 % 256)).set (l.length + 3) (v / 16777216 % 256)
  rw [set_tail] at this
  exact this
theorem run_make_bytes {P : Program} (T e : TypeId) (ht : P.underlying T = some (.slice e)) (hi : (P.info? e).map (fun i => (i.zero, i.size, i.bytes)) = some (some (.int .u8 0), 1, 1))
    (w : World) (m : Int) (n : Nat) (hm : m = (n : Int)) (hn : n ≤ 140737488355328) :
    (Instr.makeSlice T (.int .i64 m) (.int .i64 m)).run P w = .ok (.slice (some ⟨w.heap.size, 0, none⟩) n n) (w.alloc (.cells (cellsB (List.replicate n 0)).toArray e)) := by
  obtain ⟨i, hi0, hz, hs1, hb1⟩ := info_parts hi
  subst hm
  have hr := run_make (P := P) w T e i (.int .u8 0) ht hi0 hz .i64 .i64 n n (by omega) (Int.le_refl _) (by rw [hb1]; omega) (by omega)
  simp only [Int.toNat_natCast] at hr
  rw [hr, hs1]
  congr 3
  apply Array.toList_inj.1
  rw [show (Value.int .u8 0).cells = #[Value.int .u8 0] from rfl, Nat.mul_one, toList_madeCells_one]
  simp [cellsB]
theorem size_one : (Tryd.prog.info? 5).map (·.size) = some 1 := by kernel_rfl
theorem row_laid (w : World) (l : List Nat) : Row (w.alloc (.cells (cellsB l).toArray 5)) w.heap.size l := heap_alloc_new w _
theorem splice_cells (l : List Nat) (m : Nat) : splice (cellsB (List.replicate m 0)) 0 (cellsB l) = cellsB (l ++ List.replicate (m - l.length) 0) := by
  simp [splice, cellsB, List.map_append]
theorem Bytes.src {w : World} {a : Option Addr} {l : List Nat} (h : Bytes w a l) (hp : 0 < (cellsB l).length) : ∃ ad, a = some ad ∧ ∀ j v, (cellsB l)[j]? = some v → w.cell? (ad.add j) = some v := by
  rw [cellsB_length] at hp
  obtain ⟨b, o, rfl, hc⟩ := h.2.2 (List.length_pos_iff.1 hp)
  refine ⟨_, rfl, fun j v hj => ?_⟩
  have hjl : j < l.length := by
    rcases Nat.lt_or_ge j l.length with h | h
    · exact h
    · rw [List.getElem?_eq_none (by rw [cellsB_length]; exact h)] at hj; cases hj
  rw [cellsB_get l j hjl] at hj
  cases hj
  rw [Addr.add_lit]
  exact hc j hjl
theorem cellsB_one (l : List Nat) : ∀ v ∈ cellsB l, v.oneCell' = true := by
  intro u hu
  simp only [cellsB, List.mem_map] at hu
  obtain ⟨_, _, rfl⟩ := hu
  rfl
set_option maxHeartbeats 400000 in
theorem seal_any (l : List Nat) (n : Nat) (hn : n = l.length) (hmax : n ≤ 1099511627776) (a : Option Addr) (cap : Nat) (w : World) (ht : Tab w) (hz : 0 < w.heap.size) (h : Bytes w a l) :
    Calls Tryd.prog 23 #[.slice a n cap] w fun e w' => e = .returned (.slice (some ⟨w.heap.size, 0, none⟩) (n + 4) (n + 4)) ∧ Row w' w.heap.size (sealN l) ∧ Below w.heap.size w w' := by
  have hmk := run_make_bytes (P := Tryd.prog) 27 5 Tryd.underlying27 info_u8 w ((n : Int) + 4) (n + 4) (by omega) (by omega)
  have hrow0 : Hid ((w.alloc (.cells (cellsB (List.replicate (n + 4) 0)).toArray 5)).heap[w.heap.size]? = some (.cells (cellsB (List.replicate (n + 4) 0)).toArray 5 (0, 0))) := row_laid w _
  have H := Lib.hid h
  have HT := Lib.hid ht
  have HN := Lib.hid hn
  clear h ht hn
  go_enter Tryd.func23, Tryd.ntmps23
  have hnl := HN.out
  have L1 : Hid ((cellsB l).length = Nat.min n (n + 4)) := by show _ = min n (n + 4); rw [cellsB_length]; omega
  have L2 : Hid (0 + (cellsB l).length ≤ (cellsB (List.replicate (n + 4) 0)).length) := by show _ ≤ _; simp only [cellsB_length, List.length_replicate]; omega
  have L3 : Hid (splice (cellsB (List.replicate (n + 4) 0)) 0 (cellsB l) = cellsB (l ++ [0, 0, 0, 0])) := by
    show _ = _
    rw [splice_cells l (n + 4), show n + 4 - l.length = 4 by omega]
    rfl
  clear hnl
  go_wp2_with (refine wpList_copy_splice rfl (.tmp 8) (.tmp 9) 27 27 rfl 5 Tryd.underlying27 size_one _ _ _ _ _ _ rfl rfl w.heap.size 0 (cellsB (List.replicate (n + 4) 0)) 5 hrow0.out (cellsB l) L1.out (fun hp => ⟨rfl, Bytes.src (H.out.below ((Below.refl _ _).alloc (Nat.le_refl _) _)) hp⟩) L2.out (cellsB_one l) w.heap.size w ((Below.refl _ _).alloc (Nat.le_refl _) _) (Nat.le_refl _) ?_; intro w2 hrow2 hb2; rw [L3.out] at hrow2; have HR2 := Lib.hid hrow2; have HB2 := Lib.hid hb2; clear hrow2 hb2)
  have HT2 := Lib.hid (HT.out.below HB2.out hz)
  have HBy2 := Lib.hid (H.out.below HB2.out)
  have hsl : ∀ W, (Instr.slice 27 (.slice (some ⟨w.heap.size, 0, none⟩) (n + 4) (n + 4)) (some (.int .i64 (n : Int))) none none).run Tryd.prog W = .ok (.slice (some ⟨w.heap.size, n, none⟩) 4 4) W := by
    intro W
    have ht' : Tryd.prog.underlying 27 = some (.slice (Tryd.prog.elem 27)) := by simp [Program.elem, Tryd.underlying27]
    have he : Tryd.prog.elem 27 = 5 := by simp [Program.elem, Tryd.underlying27]
    rw [run_slice_l W 27 _ _ _ ht' .i64 _ (by omega) (by omega), he, size_u8]
    simp [Result.andThen, sliced, Addr.add_lit]
  go_still_tail 6, (by kernel_rfl)
  still_call (flip_same (sum_len l n HN.out a cap _ HT2.out HBy2.out))
  refine wpStill_nil ?_
  have HR3 : Hid (Row w2.drew w.heap.size (l ++ [0, 0, 0, 0])) := HR2.out
  have HB3 : Hid (Below w.heap.size w w2.drew) := HB2.out.drew
  change wpList _ _ _ _ _ w2.drew
  generalize w2.drew = w3 at HR3 HB3 ⊢
  clear hsl
  go_wp2_with fail
  refine (put_row (crc l) l 0 0 0 0 w.heap.size n 4 4 _ HN.out HR3.out (by decide) (by decide)).mono ?_
  rintro e w4 ⟨rfl, hr4, hb4⟩
  have HR4 := Lib.hid hr4
  have HB4 : Hid (Below w.heap.size w w4) := HB3.out.trans hb4
  clear hr4 hb4
  go_wp2
  go_ret
  exact ⟨rfl, HR4.out, HB4.out⟩

theorem or_sum (a b k : Nat) (ha : a < 2 ^ k) : a ||| b * 2 ^ k = a + b * 2 ^ k := by
  rw [Nat.or_comm, ← Nat.shiftLeft_eq, ← Nat.shiftLeft_add_eq_or_of_lt ha, Nat.add_comm]
theorem or_b0 (x0 : Nat) (h : x0 < 256) : bits .or .u32 0 (x0 : Int) = (x0 : Int) := by
  have := u32_or_nat 0 x0 (by omega) (by omega)
  rw [Nat.zero_or] at this
  exact this
theorem or_b1 (a b : Nat) (ha : a < 256) (hb : b < 256) : bits .or .u32 (a : Int) ((b : Int) * 256) = ((a + b * 256 : Nat) : Int) := by
  have := u32_or_nat a (b * 256) (by omega) (by omega)
  rw [or_sum a b 8 ha] at this
  exact this
theorem or_b2 (a b : Nat) (ha : a < 65536) (hb : b < 256) : bits .or .u32 (a : Int) ((b : Int) * 65536) = ((a + b * 65536 : Nat) : Int) := by
  have := u32_or_nat a (b * 65536) (by omega) (by omega)
  rw [or_sum a b 16 ha] at this
  exact this
theorem or_b3 (a b : Nat) (ha : a < 16777216) (hb : b < 256) : bits .or .u32 (a : Int) ((b : Int) * 16777216) = ((a + b * 16777216 : Nat) : Int) := by
  have := u32_or_nat a (b * 16777216) (by omega) (by omega)
  rw [or_sum a b 24 ha] at this
  exact this
set_option maxHeartbeats 400000 in
theorem get_any (x0 x1 x2 x3 b k m c : Nat) (w : World) (hm : 4 ≤ m) (hm2 : m ≤ 9223372036854775807) (h0 : x0 < 256) (h1 : x1 < 256) (h2 : x2 < 256) (h3 : x3 < 256)
    (c0 : w.cell? ⟨b, k, none⟩ = some (.int .u8 x0)) (c1 : w.cell? ⟨b, k + 1, none⟩ = some (.int .u8 x1)) (c2 : w.cell? ⟨b, k + 2, none⟩ = some (.int .u8 x2)) (c3 : w.cell? ⟨b, k + 3, none⟩ = some (.int .u8 x3)) :
    Calls Tryd.prog 32 #[.slice (some ⟨b, k, none⟩) m c] w fun e w' => e = .returned (.int .u32 (x0 + x1 * 256 + x2 * 65536 + x3 * 16777216 : Nat)) ∧ w = w' := by
  go_enter Tryd.func32, Tryd.ntmps32
  go_wp2
  refine wp_loop_rounds 5 ?_
  rw [rounds_succ]
  go_wp2
  rw [rounds_succ]
  go_wp2
  rw [rounds_succ]
  go_wp2
  rw [rounds_succ]
  go_wp2
  rw [rounds_succ]
  go_wp2
  go_ret
  refine ⟨?_, rfl⟩
  have e : (bits BinOp.or IntKind.u32 (bits BinOp.or IntKind.u32 (bits BinOp.or IntKind.u32 (bits BinOp.or IntKind.u32 0 (x0 : Int)) ((x1 : Int) * 256)) ((x2 : Int) * 65536)) ((x3 : Int) * 16777216)) = ((x0 + x1 * 256 + x2 * 65536 + x3 * 16777216 : Nat) : Int) := by
    rw [or_b0 x0 h0, or_b1 x0 x1 h0 h1, or_b2 _ x2 (by omega) h2, or_b3 _ x3 (by omega) h3]
  rw [← e]
  rfl

/-- What the document's Seal answers. -/
def RefSealed (w : World) (l : List Nat) (n : Nat) (e : Ending) (w' : World) : Prop :=
  ∃ a' cap', e = .returned (.slice a' (n + 4) cap') ∧ Bytes w' a' (sealN l) ∧ Below w.heap.size w w' ∧ n + 4 ≤ cap' ∧ a' ≠ none
theorem le4_cells (v : Nat) (hv : v < 4294967296) : ∀ i, i < (le4 v).length → (#[Value.int .u8 ((v : Int) % 256), .int .u8 ((v : Int) / 256 % 256), .int .u8 ((v : Int) / 65536 % 256), .int .u8 ((v : Int) / 16777216)] : Array Value)[i]? = some (.int .u8 ((le4 v).getD i 0 : Nat)) := by
  intro i hi
  match i, hi with
  | 0, _ | 1, _ | 2, _ => rfl
  | 3, _ =>
    have : (le4 v).getD 3 0 = v / 16777216 := by show v / 16777216 % 256 = _; omega
    rw [this]
    rfl
  | n + 4, h => simp [le4] at h; omega
theorem refSealed_of {w w3 : World} {l : List Nat} {n v cap3 : Nat} {a3 : Option Addr} (hv : crc l = v) (ho : w3.ownsRow w.heap.size 5 1 (.slice a3 (n + 4) cap3) (n + 4) (cellsB (l ++ le4 v)))
    (hb : Below w.heap.size w w3) (hB : Bytes w3 a3 (l ++ le4 v)) : RefSealed w l n (.returned (.slice a3 (n + 4) cap3)) w3 := by
  subst hv
  refine ⟨a3, cap3, rfl, hB, hb, ?_, ?_⟩
  · rcases ho.2 with ⟨h, h0⟩ | ⟨g, c, cur, h, _, _, h1, _⟩
    · omega
    · cases h; exact h1
  · rcases ho.2 with ⟨h, h0⟩ | ⟨g, c, cur, h, _⟩
    · omega
    · cases h; simp
set_option maxHeartbeats 800000 in
theorem refSeal_any (l : List Nat) (n : Nat) (hn : n = l.length) (hmax : n ≤ 1099511627776) (a : Option Addr) (cap : Nat) (w : World) (h : Bytes w a l) (ha : a = none → l = [] ∧ cap = 0) :
    Calls Tryd.prog 28 #[.slice a n cap] w (RefSealed w l n) := by
  have H := Lib.hid h
  have HA := Lib.hid ha
  have HN := Lib.hid hn
  have hc8 : Hid (crc l < 4294967296) := crc_lt l h.1
  clear h ha hn
  go_enter Tryd.func28, Tryd.ntmps28
  go_wp2_with fail
  refine (ref_len l n HN.out a cap _ H.out).mono ?_
  rintro e w' ⟨rfl, rfl⟩
  obtain ⟨v, hv⟩ : ∃ v, crc l = v := ⟨_, rfl⟩
  have HV := Lib.hid hv
  have hv8 : v < 4294967296 := by rw [← hv]; exact hc8.out
  rw [hv]
  clear hv
  go_wp2_with (first
    | (at_builtin; refine wp_append_bytes rfl (.tmp 6) (.tmp 7) 27 rfl w.heap.size 5 Tryd.underlying27 info_u8 _ 0 [] rfl (World.ownsRow_lit w #[] 0 (Nat.le_refl _) (by unfold maxLen; omega) rfl) (by simp) a n cap l rfl HN.out (H.out.below ((Below.refl _ _).alloc (Nat.le_refl _) _)) HA.out (by omega) (by simp) ?_; intro a' cap' w2 hown hgr hB hn; rw [Nat.zero_add, List.nil_append] at hown; have HO := Lib.hid hown; have HB2 : Hid (Below w.heap.size w w2) := ((Below.refl _ _).alloc (Nat.le_refl _) _).grown hgr (by simp) (fun k hk => by cases hk; exact Nat.le_refl _); have hs2 := HB2.out.size; clear hown hgr hB hn)
    | (at_builtin; refine wp_append_bytes rfl (.tmp 8) (.tmp 23) 27 rfl w.heap.size 5 Tryd.underlying27 info_u8 _ n l rfl (HO.out.alloc _) H.out.1 (some ⟨w2.heap.size, 0, none⟩) 4 4 (le4 v) rfl rfl (Bytes.laid w2 (le4 v) _ _ _ (le4_lt v) (by simp [le4]) (le4_cells v hv8)) (fun h => by cases h) (by omega) (by simp; omega) ?_; intro a3 cap3 w3 hown hgr hB hn; have HO3 := Lib.hid hown; have HB3 : Hid (Below w.heap.size w w3) := (HB2.out.alloc hs2 _).grown hgr (by simp; omega) (fun k hk => (HO.out.lt k hk).1); have HBy := Lib.hid hB; clear hown hgr hB hn))
  go_ret
  exact refSealed_of HV.out HO3.out HB3.out HBy.out
end Go.Proofs.YtfkobamemehkdaaDoor
