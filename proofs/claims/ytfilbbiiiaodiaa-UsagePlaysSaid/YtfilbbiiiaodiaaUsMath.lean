/-
  Plain mathematics of a table of segments, laid flat: three numbers a segment (live, state, age).
-/
import Derived.Test.YtfilbbiiiaodiaaMem
namespace Go.Proofs.Ytfilbbiiiaodiaa
open Go.RowKit

/-- The first k segments' states, those that are 2 made 1. -/
def dem (F : List Int) (k : Nat) : List Int := F.mapIdx fun j x => if j % 3 = 1 ∧ j < 3 * k ∧ x = 2 then 1 else x
theorem dem_length (F : List Int) (k : Nat) : (dem F k).length = F.length := by simp [dem]
theorem dem_zero (F : List Int) : dem F 0 = F := by
  apply List.ext_getElem (by simp [dem])
  intro i h1 h2
  simp [dem]
theorem dem_at (F : List Int) (k : Nat) : (dem F k).getD (k * 3 + 1) 0 = F.getD (k * 3 + 1) 0 := by
  rw [List.getD_eq_getElem?_getD, List.getD_eq_getElem?_getD]
  simp only [dem, List.getElem?_mapIdx]
  cases h : F[k * 3 + 1]? with
  | none => rfl
  | some x =>
    simp only [Option.map_some, Option.getD_some]
    rw [if_neg (by omega)]
theorem dem_turn (F : List Int) (k : Nat) (h : F.getD (k * 3 + 1) 0 = 2) : (dem F k).set (k * 3 + 1) 1 = dem F (k + 1) := by
  apply List.ext_getElem (by simp [dem])
  intro i h1 h2
  have hi : i < F.length := by simpa [dem] using h2
  simp only [List.getElem_set, dem, List.getElem_mapIdx]
  by_cases e : k * 3 + 1 = i
  · subst e
    have hx : F[k * 3 + 1] = 2 := by
      rw [List.getD_eq_getElem?_getD, List.getElem?_eq_getElem hi] at h
      exact h
    rw [if_pos rfl, if_pos ⟨by omega, by omega, hx⟩]
  · rw [if_neg e]
    by_cases h3 : i % 3 = 1
    · by_cases h4 : i < 3 * k
      · by_cases h5 : F[i] = 2
        · rw [if_pos ⟨h3, h4, h5⟩, if_pos ⟨h3, by omega, h5⟩]
        · rw [if_neg (fun h => h5 h.2.2), if_neg (fun h => h5 h.2.2)]
      · rw [if_neg (fun h => h4 h.2.1), if_neg (fun h => by omega)]
    · rw [if_neg (fun h => h3 h.1), if_neg (fun h => h3 h.1)]
theorem dem_stay (F : List Int) (k : Nat) (h : F.getD (k * 3 + 1) 0 ≠ 2) : dem F k = dem F (k + 1) := by
  apply List.ext_getElem (by simp [dem])
  intro i h1 h2
  have hi : i < F.length := by simpa [dem] using h2
  simp only [dem, List.getElem_mapIdx]
  by_cases e : k * 3 + 1 = i
  · subst e
    have hx : F[k * 3 + 1] ≠ 2 := by
      rw [List.getD_eq_getElem?_getD, List.getElem?_eq_getElem hi] at h
      exact h
    rw [if_neg (fun h => hx h.2.2), if_neg (fun h => hx h.2.2)]
  · by_cases h3 : i % 3 = 1
    · by_cases h4 : i < 3 * k
      · by_cases h5 : F[i] = 2
        · rw [if_pos ⟨h3, h4, h5⟩, if_pos ⟨h3, by omega, h5⟩]
        · rw [if_neg (fun h => h5 h.2.2), if_neg (fun h => h5 h.2.2)]
      · rw [if_neg (fun h => h4 h.2.1), if_neg (fun h => by omega)]
    · rw [if_neg (fun h => h3 h.1), if_neg (fun h => h3 h.1)]
/-- The table behind a Seize. -/
def seiz (F : List Int) (n seg : Nat) : List Int := (dem F n).set (seg * 3 + 1) 2
theorem seiz_length (F : List Int) (n seg : Nat) : (seiz F n seg).length = F.length := by simp [seiz, dem]
theorem cellsI_set (F : List Int) (j : Nat) (v : Int) : (cellsI F).set j (.int .i64 v) = cellsI (F.set j v) := by simp [cellsI, List.map_set]
/-- A table of n segments: its three words, its segments. -/
structure Tb (w : World) (bt g : Nat) (T I : TypeId) (n : Nat) (size hand : Int) (F : List Int) : Prop where
  top : Blo w bt T #[.slice (some ⟨g, 0, none⟩) n n, .int .i64 size, .int .i64 hand]
  segs : Blo w g I (cellsI F).toArray
  len : F.length = 3 * n
  apart : bt ≠ g
theorem Tb.later {w w' : World} {bt g : Nat} {T I : TypeId} {n : Nat} {size hand : Int} {F : List Int} (h : Tb w bt g T I n size hand F) (hb : Below w.heap.size w w') : Tb w' bt g T I n size hand F :=
  ⟨h.top.later hb, h.segs.later hb, h.len, h.apart⟩
theorem Tb.cell {w : World} {bt g : Nat} {T I : TypeId} {n : Nat} {size hand : Int} {F : List Int} (h : Tb w bt g T I n size hand F) (j : Nat) (hj : j < 3 * n) : w.cell? ⟨g, j, none⟩ = some (.int .i64 (F.getD j 0)) := by
  rw [h.segs.cell j]
  simpa using cellsI_get F j (by rw [h.len]; exact hj)
theorem Tb.put {w : World} {bt g : Nat} {T I : TypeId} {n : Nat} {size hand : Int} {F : List Int} (h : Tb w bt g T I n size hand F) (j : Nat) (v : Int) : Tb (w.setCell ⟨g, j, none⟩ (.int .i64 v)) bt g T I n size hand (F.set j v) := by
  refine ⟨h.top.far h.apart _, ?_, by rw [List.length_set]; exact h.len, h.apart⟩
  have hx := h.segs.put j (.int .i64 v)
  rwa [List.setIfInBounds_toArray, cellsI_set] at hx
theorem Tb.hand' {w : World} {bt g : Nat} {T I : TypeId} {n : Nat} {size hand : Int} {F : List Int} (h : Tb w bt g T I n size hand F) (v : Int) : Tb (w.setCell ⟨bt, 2, none⟩ (.int .i64 v)) bt g T I n size v F :=
  ⟨h.top.put 2 _, h.segs.far (fun e => h.apart e.symm) _, h.len, h.apart⟩
/-- How many of the first k segments have this state. -/
def cnt (F : List Int) (st : Int) : Nat → Nat
  | 0 => 0
  | k + 1 => cnt F st k + if F.getD (k * 3 + 1) 0 = st then 1 else 0
theorem cnt_le (F : List Int) (st : Int) : ∀ k, cnt F st k ≤ k
  | 0 => Nat.le_refl _
  | k + 1 => by
    have := cnt_le F st k
    show cnt F st k + _ ≤ _
    split <;> omega
theorem cnt_yes (F : List Int) (st : Int) (k : Nat) (h : F.getD (k * 3 + 1) 0 = st) : cnt F st (k + 1) = cnt F st k + 1 := by
  show cnt F st k + _ = _
  rw [if_pos h]
theorem cnt_no (F : List Int) (st : Int) (k : Nat) (h : F.getD (k * 3 + 1) 0 ≠ st) : cnt F st (k + 1) = cnt F st k := by
  show cnt F st k + _ = _
  rw [if_neg h]
  rfl
theorem made3 (n : Nat) : madeCells #[.int .i64 0, .int .i64 0, .int .i64 0] (n * 3) = (cellsI (List.replicate (3 * n) 0)).toArray := by
  apply Array.toList_inj.1
  apply List.ext_getElem (by simp [madeCells, cellsI]; omega)
  intro i h1 h2
  have hi : i % 3 = 0 ∨ i % 3 = 1 ∨ i % 3 = 2 := by omega
  simp only [madeCells, cellsI, Array.toList_map, Array.toList_range, List.getElem_map, List.getElem_range, List.map_replicate, List.getElem_replicate]
  rcases hi with h | h | h <;> simp [h]
theorem run_make3 {P : Program} (T e : TypeId) (b : Nat) (ht : P.underlying T = some (.slice e)) (hi : (P.info? e).map (fun i => (i.zero, i.size, i.bytes)) = some (some (.agg #[.int .i64 0, .int .i64 0, .int .i64 0]), 3, b))
    (w : World) (m : Int) (n : Nat) (hm : m = (n : Int)) (hn : n ≤ 1000) (hb : b ≤ 1000) :
    (Instr.makeSlice T (.int .i64 m) (.int .i64 m)).run P w = .ok (.slice (some ⟨w.heap.size, 0, none⟩) n n) (w.alloc (.cells (cellsI (List.replicate (3 * n) 0)).toArray e)) := by
  obtain ⟨i, hi0, hz, hs1, hb1⟩ := info_parts hi
  subst hm
  have hbn : b * n ≤ 1000 * 1000 := Nat.mul_le_mul hb hn
  have hr := run_make (P := P) w T e i (.agg #[.int .i64 0, .int .i64 0, .int .i64 0]) ht hi0 hz .i64 .i64 n n (by omega) (Int.le_refl _) (by rw [hb1]; have : ((b * n : Nat) : Int) = (b : Int) * (n : Int) := Int.natCast_mul b n; omega) (by omega)
  simp only [Int.toNat_natCast] at hr
  rw [hr, hs1]
  congr 3
  exact made3 n
end Go.Proofs.Ytfilbbiiiaodiaa
