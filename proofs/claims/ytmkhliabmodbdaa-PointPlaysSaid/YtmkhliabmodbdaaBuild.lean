/-
  A struct of one word and a row of whatever length, built; a slice of one such struct, built.
-/
import Derived.Test.YtmkhliabmodbdaaOut
import Derived.Laws.Tables
import Derived.Great.BuildSlice
namespace Go.Proofs.Ytmkhliabmodbdaa
open Go.RowKit

theorem fold_get (off : Nat) : ∀ (vs : List Value) (k : Nat) (cs : Array Value),
    ((vs.zipIdx k).foldl (fun cs x => cs.setIfInBounds (off + x.2) x.1) cs).size = cs.size ∧
    ∀ j, ((vs.zipIdx k).foldl (fun cs x => cs.setIfInBounds (off + x.2) x.1) cs)[j]? = if off + k ≤ j ∧ j < off + k + vs.length ∧ j < cs.size then vs[j - (off + k)]? else cs[j]?
  | [], k, cs => ⟨rfl, fun j => by simp; intro h1 h2; omega⟩
  | v :: vs, k, cs => by
    obtain ⟨h1, h2⟩ := fold_get off vs (k + 1) (cs.setIfInBounds (off + k) v)
    simp only [List.zipIdx_cons, List.foldl_cons]
    refine ⟨by rw [h1]; simp, fun j => ?_⟩
    rw [h2 j, Array.size_setIfInBounds, List.length_cons]
    by_cases c1 : off + (k + 1) ≤ j ∧ j < off + (k + 1) + vs.length ∧ j < cs.size
    · rw [if_pos c1, if_pos (by omega), show j - (off + k) = (j - (off + (k + 1))) + 1 by omega, List.getElem?_cons_succ]
    · rw [if_neg c1, Array.getElem?_setIfInBounds]
      by_cases e : off + k = j
      · subst e
        rw [if_pos rfl]
        by_cases hs : off + k < cs.size
        · rw [if_pos hs, if_pos (by omega), Nat.sub_self, List.getElem?_cons_zero]
        · rw [if_neg hs, if_neg (by omega), Array.getElem?_eq_none (by omega)]
      · rw [if_neg e, if_neg (by omega)]
theorem fold_arr (off : Nat) (vs : Array Value) (cs : Array Value) : vs.zipIdx.foldl (fun cs x => cs.setIfInBounds (off + x.2) x.1) cs = (vs.toList.zipIdx 0).foldl (fun cs x => cs.setIfInBounds (off + x.2) x.1) cs := by
  rw [← Array.foldl_toList, Array.toList_zipIdx]
theorem fill_two (z : Array Value) (x : Value) (vs : List Value) (n : Nat) (hx : x.cells = #[x]) (hn : vs.length = n) (hz : z.size = 1 + n) :
    Instr.fill ((#[(0, 1), (1, n)] : Array (Nat × Nat))[·]?) z [(0, x), (1, .agg vs.toArray)] = some (x :: vs).toArray := by
  have h1 : ¬ (1 ≠ 1 ∨ 0 + 1 > z.size) := by omega
  simp only [Instr.fill]
  simp only [List.getElem?_toArray, List.getElem?_cons_zero, List.getElem?_cons_succ, hx]
  have e1 : ((#[x] : Array Value).zipIdx.foldl (fun cs x => cs.setIfInBounds (0 + x.2) x.1) z) = z.setIfInBounds 0 x := rfl
  rw [e1]
  have c1 : ((#[x] : Array Value).size ≠ 1 || 0 + (#[x] : Array Value).size > z.size) = false := Bool.or_eq_false_iff.2 ⟨decide_eq_false (fun h => h rfl), decide_eq_false (by show ¬ 0 + 1 > z.size; omega)⟩
  rw [if_neg (by rw [c1]; decide)]
  have c2 : ((Value.agg vs.toArray).cells.size ≠ n || 1 + (Value.agg vs.toArray).cells.size > (z.setIfInBounds 0 x).size) = false := by simp [Value.cells, hn]; omega
  rw [if_neg (by rw [c2]; decide)]
  show some _ = _
  rw [show (Value.agg vs.toArray).cells = vs.toArray from rfl, fold_arr]
  congr 1
  obtain ⟨h2, h3⟩ := fold_get 1 vs 0 (z.setIfInBounds 0 x)
  apply Array.ext_getElem?
  intro j
  have ht : (x :: vs).toArray[j]? = (x :: vs)[j]? := by simp
  rw [show vs.toArray.toList = vs from rfl, h3 j, Array.size_setIfInBounds, Array.getElem?_setIfInBounds, ht]
  cases j with
  | zero => rw [if_neg (by omega), if_pos rfl, if_pos (by omega)]; rfl
  | succ j =>
    rw [List.getElem?_cons_succ]
    by_cases c : j < n
    · rw [if_pos (by omega), show j + 1 - (1 + 0) = j by omega]
    · rw [if_neg (by omega), if_neg (by omega), List.getElem?_eq_none (by omega), Array.getElem?_eq_none (by omega)]
theorem fill_one (z : Array Value) (vs : List Value) (n : Nat) (hn : vs.length = n) (hz : z.size = n) :
    Instr.fill (fun i => some (i * n, n)) z [(0, .agg vs.toArray)] = some vs.toArray := by
  simp only [Instr.fill]
  have c2 : ((Value.agg vs.toArray).cells.size ≠ n || 0 * n + (Value.agg vs.toArray).cells.size > z.size) = false := by simp [Value.cells, hn]; omega
  rw [if_neg (by rw [c2]; decide)]
  show some _ = _
  rw [show (Value.agg vs.toArray).cells = vs.toArray from rfl, fold_arr]
  congr 1
  obtain ⟨h2, h3⟩ := fold_get (0 * n) vs 0 z
  apply Array.ext_getElem?
  intro j
  have ht : vs.toArray[j]? = vs[j]? := by simp
  rw [show vs.toArray.toList = vs from rfl, h3 j, ht]
  by_cases c : j < n
  · rw [if_pos (by omega), show j - (0 * n + 0) = j by omega]
  · rw [if_neg (by omega), List.getElem?_eq_none (by omega), Array.getElem?_eq_none (by omega)]
theorem built_struct {P : Program} (t : TypeId) (z : Value) (fields : Array Field) (places : List (Nat × Nat)) (parts : List (Nat × Value)) (hA : (P.info? t).bind (·.zero) = some z) (hu : P.underlying t = some (.struct fields))
    (hp : fields.toList.mapM (fun f => (P.info? f.type).map fun i => (f.offset, i.size)) = some places) : P.built t parts = Instr.fill (places.toArray[·]?) z.cells parts := by
  unfold Program.built
  cases hi : P.info? t with
  | none => rw [hi] at hA; cases hA
  | some it =>
    rw [hi] at hA
    simp only [Option.bind_some] at hA
    simp only [hu, hA, hp]
/-- A struct of a word and a row of n cells. -/
theorem run_build_two {P : Program} (w : World) (t : TypeId) (z : Value) (fields : Array Field) (x : Value) (vs : List Value) (n : Nat) (hA : (P.info? t).bind (·.zero) = some z) (hu : P.underlying t = some (.struct fields))
    (hp : fields.toList.mapM (fun f => (P.info? f.type).map fun i => (f.offset, i.size)) = some [(0, 1), (1, n)]) (hx : x.cells = #[x]) (hn : vs.length = n) (hz : z.cells.size = 1 + n) :
    (Instr.build t #[(0, x), (1, .agg vs.toArray)]).run P w = .ok (.agg (x :: vs).toArray) w :=
  run_build w t _ _ (by rw [built_struct t z fields _ _ hA hu hp]; exact fill_two z.cells x vs n hx hn hz)
theorem run_bslice_one {P : Program} (w : World) (t e : TypeId) (vs : List Value) (ie : TypeInfo) (z : Value) (hu : P.underlying t = some (.slice e)) (hie : P.info? e = some ie) (hz : ie.zero = some z) (hs : ie.size = vs.length) (h1 : 0 < vs.length) (h2 : vs.length ≤ 1000) :
    (Instr.buildSlice t 1 #[(0, .agg vs.toArray)]).run P w = .ok (.slice (some ⟨w.heap.size, 0, none⟩) 1 1) (w.alloc (.cells vs.toArray e)) := by
  refine run_buildSlice w t e 1 _ _ ie z hu hie hz ?_ ?_ ?_
  · rw [hs]
    have : (2 : Nat) ^ 24 = 16777216 := by decide
    omega
  · rw [hs]; omega
  · rw [hs]
    exact fill_one _ vs _ rfl (by simp)
end Go.Proofs.Ytmkhliabmodbdaa
