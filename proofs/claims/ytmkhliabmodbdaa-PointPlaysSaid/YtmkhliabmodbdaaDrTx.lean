/-
  The document's disk: a row of texts.
-/
import Derived.Test.YtmkhliabmodbdaaDrRead
import Derived.Test.YtmkhliabmodbdaaDrPut
import Derived.BigRegion
namespace Go.Proofs.Ytmkhliabmodbdaa
open Go.RowKit

abbrev STR := 9
theorem info_str : (Try.prog.info? STR).map (fun i => (i.zero, i.size, i.bytes)) = some (some (.string ByteArray.empty), 1, 16) := by kernel_rfl
theorem cellsS_one (S : Nat → List Nat) (n : Nat) : ∀ u ∈ cellsS S n, u.oneCell' = true := fun u hu => by
  unfold cellsS at hu
  obtain ⟨p, _, rfl⟩ := List.mem_map.1 hu
  rfl
/-- A row of texts. -/
def Tx (w : World) (g n : Nat) (F : Nat → List Nat) : Prop := ∃ cur, Blo w g STR cur ∧ ∀ i, i < n → cur[i]? = some (.string (strOf (F i)))
theorem Tx.cell {w : World} {g n : Nat} {F : Nat → List Nat} (h : Tx w g n F) {i : Nat} (hi : i < n) : w.cell? ⟨g, i, none⟩ = some (.string (strOf (F i))) ∧ w.frozen? ⟨g, i, none⟩ = false := by
  obtain ⟨cur, hb, hc⟩ := h
  exact ⟨by rw [hb.cell, hc i hi], hb.frozen i⟩
theorem Tx.later {w w' : World} {g n : Nat} {F : Nat → List Nat} (h : Tx w g n F) (hb : Below w.heap.size w w') : Tx w' g n F := by
  obtain ⟨cur, h1, h2⟩ := h
  exact ⟨cur, h1.later hb, h2⟩
theorem Tx.far {w : World} {g n : Nat} {F : Nat → List Nat} (h : Tx w g n F) {p : Addr} (hp : p.block ≠ g) (u : Value) : Tx (w.setCell p u) g n F := by
  obtain ⟨cur, h1, h2⟩ := h
  exact ⟨cur, h1.far (Ne.symm hp) u, h2⟩
theorem Tx.put {w : World} {g n : Nat} {F : Nat → List Nat} (h : Tx w g n F) {i : Nat} (hi : i < n) (l : List Nat) : Tx (w.setCell ⟨g, i, none⟩ (.string (strOf l))) g n (updB F i l) := by
  obtain ⟨cur, h1, h2⟩ := h
  refine ⟨_, h1.put i _, fun j hj => ?_⟩
  have hs : i < cur.size := by
    rcases Nat.lt_or_ge i cur.size with h | h
    · exact h
    · have := h2 i hi; rw [Array.getElem?_eq_none h] at this; cases this
  by_cases e : j = i
  · subst e; rw [updB_at]; simp [hs]
  · rw [updB_ne _ _ e, ← h2 j hj]
    simp [Ne.symm e]
theorem tx_own {w : World} {base n cap : Nat} {a : Option Addr} {S : Nat → List Nat} (hn : 0 < n) (h : w.ownsRow base STR 1 (.slice a n cap) n (cellsS S n)) : ∃ g, a = some ⟨g, 0, none⟩ ∧ base ≤ g ∧ Tx w g n S := by
  rcases id h.2 with ⟨h1, h0⟩ | ⟨g, c, cur, h1, h2, h3, h4⟩
  · omega
  · cases h1
    have hb : Blo w g STR cur := h3
    refine ⟨g, rfl, h2, cur, hb, fun i hi => ?_⟩
    rw [← hb.cell, h.cellAt i (by omega)]
    exact cellsS_at S n i hi
theorem Tx.rds {w : World} {g n : Nat} {F : Nat → List Nat} (h : Tx w g n F) : Rds w (some ⟨g, 0, none⟩) (cellsS F n) := fun j u hj => by
  have hjn : j < n := by
    rcases Nat.lt_or_ge j n with h | h
    · exact h
    · rw [List.getElem?_eq_none (by simp [cellsS]; exact h)] at hj; cases hj
  rw [cellsS_at F n j hjn] at hj
  cases hj
  exact ⟨g, 0, rfl, by rw [Nat.zero_add]; exact (h.cell hjn).1⟩
end Go.Proofs.Ytmkhliabmodbdaa
