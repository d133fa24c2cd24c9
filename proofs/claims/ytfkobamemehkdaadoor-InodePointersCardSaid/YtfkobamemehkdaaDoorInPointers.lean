/-
  The walks of the pointers of a block: the program's Pointers; the document's Block.
-/
import Derived.Test.YtfkobamemehkdaaDoorInGet
import Derived.Test.YtfkobamemehkdaaDoorInBlock
import Derived.Test.YtfkobamemehkdaaDoorGrow
import Derived.Laws.Tables
import Derived.Laws.CopyOwn
namespace Go.Proofs.YtfkobamemehkdaaDoor
open Go.RowKit

/-- Pointer k of a block's bytes. -/
def ptV (l : List Nat) (k : Nat) : Nat := l.getD (4 * k) 0 + l.getD (4 * k + 1) 0 * 256 + l.getD (4 * k + 2) 0 * 65536 + l.getD (4 * k + 3) 0 * 16777216
theorem ptV_lt {l : List Nat} (h : ∀ x ∈ l, x < 256) (k : Nat) : ptV l k < 4294967296 := by
  have h0 := getD_byte h (4 * k)
  have h1 := getD_byte h (4 * k + 1)
  have h2 := getD_byte h (4 * k + 2)
  have h3 := getD_byte h (4 * k + 3)
  unfold ptV
  omega
def pcells (l : List Nat) (k : Nat) : List Value := (List.range 16).map fun j => if j < k then .int .u32 (ptV l j : Nat) else .int .u32 0
theorem pcells_next (l : List Nat) (k : Nat) : (pcells l k).set k (.int .u32 (ptV l k : Nat)) = pcells l (k + 1) := by
  apply List.ext_getElem (by simp [pcells])
  intro i h1 h2
  simp only [pcells, List.getElem_set, List.getElem_map, List.getElem_range]
  by_cases e : k = i
  · subst e; simp
  · rw [if_neg e]
    by_cases e2 : i < k
    · rw [if_pos e2, if_pos (by omega)]
    · rw [if_neg e2, if_neg (by omega)]
theorem pcells_length (l : List Nat) (k : Nat) : (pcells l k).length = 16 := by simp [pcells]
theorem pcells_zero (l : List Nat) : (pcells l 0).toArray = ptrs 0 0 0 0 0 0 0 0 0 0 0 0 0 0 0 0 := by kernel_rfl
theorem pcells_all (l : List Nat) : (pcells l 16).toArray = ptrs (ptV l 0) (ptV l 1) (ptV l 2) (ptV l 3) (ptV l 4) (ptV l 5) (ptV l 6) (ptV l 7) (ptV l 8) (ptV l 9) (ptV l 10) (ptV l 11) (ptV l 12) (ptV l 13) (ptV l 14) (ptV l 15) := by kernel_rfl
theorem pcells_one (l : List Nat) : (pcells l 16).toArray.all (·.oneCell') = true := by
  simp only [pcells, List.all_toArray, List.all_map, List.all_eq_true]
  intro x _
  show Value.oneCell' (if x < 16 then _ else _) = true
  by_cases h : x < 16 <;> simp [h, Value.oneCell']
theorem info16p : (Tryd.prog.info? 39).map (·.size) = some 16 := by kernel_rfl
/-- Where a loop of Pointers stands. -/
def PRel (w : World) (g : Nat) (l : List Nat) (i : Value) (wr : World) : Prop :=
  ∃ k : Nat, k ≤ 16 ∧ i = .int .i64 k ∧ Blo wr g 39 (pcells l k).toArray ∧ Below g w wr
theorem cut_ptr (b o cap k o' n' c' : Nat) (hk : k < 16) (hc : 64 ≤ cap) (ho : o' = o + k * 4) (hn : n' = 64 - k * 4) (hc' : c' = cap - k * 4) (W : World) :
    (Instr.slice 27 (.slice (some ⟨b, o, none⟩) 64 cap) (some (.int .i64 ((k : Int) * 4))) none none).run Tryd.prog W = .ok (.slice (some ⟨b, o', none⟩) n' c') W := by
  have ht' : Tryd.prog.underlying 27 = some (.slice (Tryd.prog.elem 27)) := by simp [Program.elem, Tryd.underlying27]
  have he : Tryd.prog.elem 27 = 5 := by simp [Program.elem, Tryd.underlying27]
  have e0 : (k : Int) * 4 = ((k * 4 : Nat) : Int) := by omega
  have e2 : ¬ cap = k * 4 := by omega
  have hj : k * 4 < 64 := by omega
  subst ho hn hc'
  rw [e0]
  generalize k * 4 = j at *
  rw [run_slice_l W 27 _ _ _ ht' .i64 _ (by omega) (by omega), he, size_u8]
  simp [Result.andThen, sliced, Addr.add_lit, e2]
theorem cut_ptr4 (b o' n' c' : Nat) (hn : 4 ≤ n') (hc : n' ≤ c') (W : World) :
    (Instr.slice 27 (.slice (some ⟨b, o', none⟩) n' c') none (some (.int .i64 4)) none).run Tryd.prog W = .ok (.slice (some ⟨b, o', none⟩) 4 c') W := by
  have ht' : Tryd.prog.underlying 27 = some (.slice (Tryd.prog.elem 27)) := by simp [Program.elem, Tryd.underlying27]
  have he : Tryd.prog.elem 27 = 5 := by simp [Program.elem, Tryd.underlying27]
  have e2 : ¬ c' = 0 := by omega
  rw [run_slice_h W 27 _ _ _ ht' .i64 4 (by omega) (by omega), he, size_u8]
  simp [Result.andThen, sliced, Addr.add, e2]
def POut (w : World) (l : List Nat) (e : Ending) (w' : World) : Prop :=
  e = .returned (.tuple #[.agg (pcells l 16).toArray, .int .i64 0]) ∧ Below w.heap.size w w'
set_option maxRecDepth 20000 in
set_option maxHeartbeats 2000000 in
theorem pointers_good (l : List Nat) (hl : 64 = l.length) (a : Option Addr) (cap : Nat) (hc : 64 ≤ cap) (w : World) (h : Bytes w a l) :
    Calls Tryd.prog 18 #[.slice a 64 cap] w (POut w l) := by
  obtain ⟨b, o, rfl, hcell⟩ := h.2.2 (fun e => by subst e; simp at hl)
  have HC := Lib.hid hcell
  have H8 := Lib.hid h.1
  have HL := Lib.hid hl
  clear hl hcell
  go_enter Tryd.func18, Tryd.ntmps18
  go_wp2_with fail
  have HB0 : Hid (Below w.heap.size w ((w.alloc (.cells (ptrs 0 0 0 0 0 0 0 0 0 0 0 0 0 0 0 0) 39)).alloc (.cells (ptrs 0 0 0 0 0 0 0 0 0 0 0 0 0 0 0 0) 39))) := ((Below.refl _ _).alloc (Nat.le_refl _) _).alloc (by simp) _
  have HA : Hid (Blo ((w.alloc (.cells (ptrs 0 0 0 0 0 0 0 0 0 0 0 0 0 0 0 0) 39)).alloc (.cells (ptrs 0 0 0 0 0 0 0 0 0 0 0 0 0 0 0 0) 39)) w.heap.size 39 (ptrs 0 0 0 0 0 0 0 0 0 0 0 0 0 0 0 0)) := (blo_laid w _ _).alloc _
  have hg := blo_laid (w.alloc (.cells (ptrs 0 0 0 0 0 0 0 0 0 0 0 0 0 0 0 0) 39)) 39 (ptrs 0 0 0 0 0 0 0 0 0 0 0 0 0 0 0 0)
  rw [show (w.alloc (.cells (ptrs 0 0 0 0 0 0 0 0 0 0 0 0 0 0 0 0) 39)).heap.size = w.heap.size + 1 by simp] at hg
  have HG := Lib.hid hg
  clear hg
  generalize ((w.alloc (.cells (ptrs 0 0 0 0 0 0 0 0 0 0 0 0 0 0 0 0) 39)).alloc (.cells (ptrs 0 0 0 0 0 0 0 0 0 0 0 0 0 0 0 0) 39)) = w0 at *
  change Code.wp _ _ _ _ w0
  go_loopw [10] (fun i wr => PRel w0 (w.heap.size + 1) l i wr) (fun i _ => 16 - (intOf i).toNat)
  case atStart => exact ⟨0, by omega, rfl, by rw [pcells_zero]; exact HG.out, Below.refl _ _⟩
  case round =>
    obtain ⟨k, hk, rfl, hg, hb⟩ := hrel
    have HGk := Lib.hid hg
    have HBk := Lib.hid hb
    clear hg hb
    have hPO : ∀ (e : Ending) (w' : World), e = .returned (.tuple #[.agg (pcells l 16).toArray, .int .i64 0]) ∧ Below w.heap.size w w' → POut w l e w' := fun _ _ h => h
    have HPO := Lib.hid hPO
    clear hPO
    by_cases hlt : k < 16
    · obtain ⟨o', ho'⟩ : ∃ o', o' = o + k * 4 := ⟨_, rfl⟩
      obtain ⟨n', hn'⟩ : ∃ n', n' = 64 - k * 4 := ⟨_, rfl⟩
      obtain ⟨c', hc'⟩ : ∃ c', c' = cap - k * 4 := ⟨_, rfl⟩
      have hs1 := fun W => cut_ptr b o cap k o' n' c' hlt hc ho' hn' hc' W
      have hs2 := fun W => cut_ptr4 b o' n' c' (by omega) (by omega) W
      have hcl : ∀ j, j < 4 → wr.cell? ⟨b, o' + j, none⟩ = some (.int .u8 (l.getD (4 * k + j) 0 : Nat)) := fun j hj => by
        have h1 := cell_later (HB0.out.trans (HBk.out.mono (by omega))) (HC.out (4 * k + j) (by rw [← HL.out]; omega))
        rw [show o' + j = o + (4 * k + j) by omega]
        exact h1
      have x0 := hcl 0 (by decide)
      have x1 := hcl 1 (by decide)
      have x2 := hcl 2 (by decide)
      have x3 := hcl 3 (by decide)
      rw [Nat.add_zero] at x0
      have HGet := Lib.hid (get4_any (l.getD (4 * k) 0) (l.getD (4 * k + 1) 0) (l.getD (4 * k + 2) 0) (l.getD (4 * k + 3) 0) b o' c' wr (getD_byte H8.out _) (getD_byte H8.out _) (getD_byte H8.out _) (getD_byte H8.out _) x0 x1 x2 x3)
      have hV := ptV_lt H8.out k
      have HNx := Lib.hid (pcells_next l k)
      have HV : Hid (l.getD (4 * k) 0 + l.getD (4 * k + 1) 0 * 256 + l.getD (4 * k + 2) 0 * 65536 + l.getD (4 * k + 3) 0 * 16777216 = ptV l k) := rfl
      have hw : wr.heap.size > w.heap.size + 1 := HGk.out.lt
      have hfr := HGk.out.frozen k
      have hco := HGk.out.cell k
      rw [show (pcells l k).toArray[k]? = some (.int .u32 0) by simp [pcells, List.getElem?_range hlt]] at hco
      clear hcl x0 x1 x2 x3 hn' hc' ho'
      go_wp2_with fail
      refine HGet.out.mono ?_
      rw [HV.out]
      generalize ptV l k = V at *
      rintro e w2 ⟨rfl, rfl⟩
      go_wp2_with fail
      go_roundw
      case rel =>
        have hx := HGk.out.put k (.int .u32 (V : Int))
        rw [List.setIfInBounds_toArray, HNx.out] at hx
        exact ⟨k + 1, by omega, by simp, hx, HBk.out.setCell (p := ⟨w.heap.size + 1, k, none⟩) (Nat.le_refl _) _⟩
      case measure => simp [intOf]; omega
    · obtain rfl : k = 16 := by omega
      clear hlt
      have HAk := Lib.hid (HA.out.below HBk.out (by omega))
      have hi : (Tryd.prog.info? 39).map (·.size) = some (pcells l 16).toArray.size := info16p
      have hu := Tryd.underlying39
      have hold : (ptrs 0 0 0 0 0 0 0 0 0 0 0 0 0 0 0 0).size = (pcells l 16).toArray.size := by simp [pcells]
      have hone : (pcells l 16).toArray.all (·.oneCell') = true := pcells_one l
      have HI := Lib.hid hi
      have HO := Lib.hid hold
      have HN := Lib.hid hone
      clear hi hold hone
      generalize (pcells l 16).toArray = cs at *
      go_wp2_with (first | (refine wpList_load_row rfl 39 (.tmp 4) rfl (w.heap.size + 1) rfl 39 cs (0, 0) _ HGk.out hu rfl HI.out ?_) | (refine wpList_store_row rfl 39 (.tmp 2) (.tmp 23) rfl w.heap.size cs rfl rfl 39 _ HAk.out HI.out HO.out HN.out ?_))
      have hrow : (wr.setRow w.heap.size cs).heap[w.heap.size]? = some (.cells cs 39 (0, 0)) := setRow_heap wr w.heap.size _ _ _ _ HAk.out
      refine bodyPost_ret (v := .tuple #[.agg cs, .int .i64 0]) ?_ rfl (HPO.out _ _ ⟨rfl, ?_⟩)
      · simp [results, Tryd.results18, asAddr, run_loadVar_row _ _ 39 39 cs (0, 0) _ hrow hu rfl HI.out]
      · exact below_setRow (HB0.out.trans (HBk.out.mono (by omega))) (Nat.le_refl _) _
end Go.Proofs.YtfkobamemehkdaaDoor
