/-
  The bytes that are alive stay in their bounds, in numbers alone.
-/
import Derived.Test.YtfilbbiiiaodiaaUsOSweep
namespace Go.Proofs.Ytfilbbiiiaodiaa

def Lives (F : List Int) (n : Nat) (size : Int) : Prop := ∀ j, j < n → 0 ≤ F.getD (j * 3) 0 ∧ F.getD (j * 3) 0 ≤ size
theorem Lives.same {F G : List Int} {n : Nat} {size : Int} (h : Lives F n size) (e : ∀ j, j < n → G.getD (j * 3) 0 = F.getD (j * 3) 0) : Lives G n size := fun j hj => by
  rw [e j hj]
  exact h j hj
theorem Lives.add {F : List Int} {n : Nat} {size : Int} (h : Lives F n size) (s : Nat) (hs : s * 3 < F.length) (v : Int) (h0 : 0 ≤ v) (h1 : v ≤ size) : Lives (F.set (s * 3) v) n size := fun j hj => by
  rw [getD_set _ _ _ _ hs]
  split
  · exact ⟨h0, h1⟩
  · exact h j hj
theorem Lives.use {F : List Int} {n : Nat} {size : Int} (h : Lives F n size) (s : Nat) (hs : s * 3 + 1 < F.length) (v : Int) : Lives (F.set (s * 3 + 1) v) n size := h.same fun j _ => by
  rw [getD_set _ _ _ _ hs, if_neg (by omega)]
theorem Lives.rel {F : List Int} {n : Nat} {size : Int} (h : Lives F n size) (s : Nat) : Lives (rel F s) n size := h.same fun j _ => rel_other F s (j * 3) (by omega) (by omega)
theorem Lives.sweep {F : List Int} {n : Nat} {size : Int} (h : Lives F n size) : ∀ k, Lives (swF F k) n size
  | 0 => h
  | k + 1 => by
    show Lives (if swOk F k then _ else _) n size
    split
    · exact (h.sweep k).rel k
    · exact h.sweep k
theorem dem_live (F : List Int) (k j : Nat) : (dem F k).getD (j * 3) 0 = F.getD (j * 3) 0 := by
  rw [List.getD_eq_getElem?_getD, List.getD_eq_getElem?_getD, dem, List.getElem?_mapIdx]
  cases F[j * 3]? with
  | none => rfl
  | some x =>
    show (if _ then 1 else x) = x
    rw [if_neg (by omega)]
theorem Lives.seiz {F : List Int} {n : Nat} {size : Int} (h : Lives F n size) (k s : Nat) (hs : s * 3 + 1 < F.length) : Lives (seiz F k s) n size := h.same fun j _ => by
  show ((dem F k).set (s * 3 + 1) 2).getD (j * 3) 0 = _
  rw [getD_set _ _ _ _ (by rw [dem_length]; exact hs), if_neg (by omega), dem_live]
end Go.Proofs.Ytfilbbiiiaodiaa
