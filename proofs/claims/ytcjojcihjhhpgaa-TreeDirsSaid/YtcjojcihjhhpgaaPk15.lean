/-
  Structs · IntsIn: these texts in one.
-/
import Derived.Test.YtcjojcihjhhpgaaPk00
import Derived.Deep.Slices
import Derived.Deep.Grids
import Derived.SizedLaws
import Derived.ChangeArms
import Derived.OpenShut
/-
  A slice of structs that came in, field by field, with the form's own reach of what the fields hold; slices of bytes and of bools within.
-/
namespace Go.Proofs.Ytcjojcihjhhpgaa
open Go.RowKit

theorem weightsAll_mem {H : Type} {P : Program} {e : TypeId} : ∀ {l : List (DataW H)} {d : DataW H}, d ∈ l → ∀ n ∈ d.weights P e, n ∈ DataW.weightsAll P e l
  | c :: r, d, hd, n, hn => by
    simp only [DataW.weightsAll, List.mem_append]
    rcases List.mem_cons.1 hd with rfl | h
    · exact Or.inl hn
    · exact Or.inr (weightsAll_mem h n hn)
  | [], _, hd, _, _ => by cases hd
section
open Go.ChangeShapes Go.WideShapes Go.Deep
variable {H : Type} {enc : TypeId × Value → H} {P : Program} {w : World} {base : Nat} {held : Bool}
theorem open_structs {t e : TypeId} {fs : Array Field} {fuel : Nat} {cs : List Value} {x : DataW H × List MemPlace} (ht : P.underlying t = some (.slice e)) (he : P.underlying e = some (.struct fs))
    (h : DataW.trod enc P w base (fun _ => true) held fuel t cs = some x) :
    ∃ (a : Option Addr) (len cap : Nat), cs = [.slice a len cap] ∧ (a = none → len = 0 ∧ cap = 0) ∧ len ≤ cap ∧ cap ≤ 9223372036854775807 ∧
      ∀ ad, a = some ad → ∀ i, i < len → ∃ C : List Value, C.length = P.cellsOf e ∧ (∀ j v, C[j]? = some v → w.cell? (ad.add (i * P.cellsOf e + j)) = some v) ∧
        ∀ (k : Nat) (f : Field), fs[k]? = some f → ∃ y n, DataW.trod enc P w base (fun _ => true) held n f.type ((C.drop f.offset).take (P.cellsOf f.type)) = some y ∧ ∀ q ∈ y.1.weights P f.type, q ∈ x.1.weights P t := by
  have hmx : (maxLen : Nat) = 9223372036854775807 := by decide
  rcases open_slice ht h with ⟨rfl, _⟩ | ⟨a, len, cap, m, n, D, Pl, rfl, _, hl, hm, hmm, rfl, hi⟩
  · exact ⟨none, 0, 0, rfl, fun _ => ⟨rfl, rfl⟩, by omega, by omega, fun ad h => by cases h⟩
  · refine ⟨some a, len, cap, rfl, fun h => (by cases h), hl, by omega, fun ad had i hlt => ?_⟩
    cases had
    have hlm : len ≤ m := by rw [hmm]; split <;> omega
    obtain ⟨cs', hc, ht'⟩ := hi i (by omega)
    obtain ⟨_, hcl, hat⟩ := World.cells?_some hc
    obtain ⟨xs, m', _, hx, _, hn, hel⟩ := DataW.trod_struct he ht'
    refine ⟨cs', hcl, fun j v hj => ?_, fun k f hk => ?_⟩
    · have := hat j (by rcases Nat.lt_or_ge j cs'.length with h | h; · omega
                        · rw [List.getElem?_eq_none h] at hj; cases hj)
      rw [Go.Deep.add_add] at this
      rw [this, hj]
    · have hkl : k < xs.length := by
        have : k < fs.size := (Array.getElem?_eq_some_iff.1 hk).1
        omega
      have h0 := hel k f hk
      rw [List.getElem?_eq_getElem hkl] at h0
      refine ⟨xs[k], m', h0, fun q hq => ?_⟩
      have hD : D i = .agg (xs.map (·.1)) := by
        have := congrArg Prod.fst hx
        simpa using this
      have hmem : D i ∈ (List.range len).map D := List.mem_map.2 ⟨i, List.mem_range.2 hlt, rfl⟩
      simp only [DataW.weights, ht, List.mem_cons, List.mem_append]
      refine .inr (.inl (weightsAll_mem hmem q ?_))
      rw [hD]
      simp only [DataW.weights, he]
      exact DataW.weights_mem_each (j := k) (t := f.type) (d := xs[k].1) (by rw [List.getElem?_map]; simp [hk]) (by rw [List.getElem?_map, List.getElem?_eq_getElem hkl]; rfl) q hq
/-- A slice of bytes within what came in. -/
def BytesIn (w : World) (a : Option Addr) (n cap : Nat) (l : List Nat) : Prop := n = l.length ∧ Bytes w a l ∧ (a = none → n = 0 ∧ cap = 0) ∧ n ≤ cap ∧ n ≤ 140737488351232
theorem cell_lt {a : Addr} {v : Value} (h : w.cell? a = some v) : a.block < w.heap.size := World.block_lt_of_cell? w a h
theorem bytesIn_of_trod {t e : TypeId} {fuel : Nat} {cs : List Value} {x : DataW H × List MemPlace} (ht : P.underlying t = some (.slice e)) (he : P.underlying e = some (.int .u8)) (hc : P.cellsOf e = 1) (hb : P.bytesOf e = 1)
    (h : DataW.trod enc P w base (fun _ => true) held fuel t cs = some x) (hw : ∀ q ∈ x.1.weights P t, q ≤ reachBytes) : ∃ a n cap l, cs = [.slice a n cap] ∧ BytesIn w a n cap l := by
  have hr : reachBytes = 140737488351232 := rfl
  rcases open_ints ht he hc h with ⟨hcs, _⟩ | ⟨a, n, cap, zs, hcs, h0, h1, h2, h3, hx, hcell, hwz⟩
  · exact ⟨none, 0, 0, [], hcs, rfl, Bytes.none _ _, fun _ => ⟨rfl, rfl⟩, Nat.le_refl _, by decide⟩
  · have h3' : zs.length = cap := by simpa using h3
    obtain ⟨l, e1, e2, e3, e4, e5⟩ := IsRow.bytes (w := w) (a := some a) (len := n) (cap := cap) (zs := zs) (.inr ⟨_, rfl, h1, h2, by simpa using h3, hcell, hwz⟩)
    have hq := hw ((lits (H := H) .u8 (zs.take n)).length + (lits (H := H) .u8 (zs.drop n)).length) (by rw [hx]; simp [DataW.weights, ht, hb])
    refine ⟨some a, n, cap, l, hcs, e1, e2, fun h => (by cases h), e5, ?_⟩
    simp [lits] at hq; omega
theorem bytes_blk0 {a : Option Addr} {l : List Nat} (h : Bytes w a l) (hl : l ≠ []) : ∃ b o, a = some ⟨b, o, none⟩ ∧ b < w.heap.size := by
  obtain ⟨b, o, ha, hc⟩ := h.2.2 hl
  have h0 : 0 < l.length := by cases l with
    | nil => exact absurd rfl hl
    | cons _ _ => simp
  exact ⟨b, o, ha, cell_lt (hc 0 h0)⟩
theorem bytes_out {w' : World} {X : Nat → Prop} {a : Option Addr} {l : List Nat} (h : Bytes w a l) (hc : ∀ b o (v : Value), ¬ X b → w.cell? ⟨b, o, none⟩ = some v → w'.cell? ⟨b, o, none⟩ = some v) (hx : ∀ b o, l ≠ [] → a = some ⟨b, o, none⟩ → ¬ X b) : Bytes w' a l :=
  ⟨h.1, h.2.1, fun hl => by
    obtain ⟨b, o, ha, h2⟩ := h.2.2 hl
    exact ⟨b, o, ha, fun i hi => hc b _ _ (hx b o hl ha) (h2 i hi)⟩⟩
end
end Go.Proofs.Ytcjojcihjhhpgaa
/-
  A slice of integers that came in.
-/
namespace Go.Proofs.Ytcjojcihjhhpgaa
open Go.RowKit

structure IntsIn (w : World) (a : Option Addr) (len cap : Nat) (l : List Int) : Prop where
  ints : Ints w a l
  leq : len = l.length
  lenm : len ≤ 9223372036854775807
  nil : a = .none → len = 0 ∧ cap = 0
  wf : ∀ n ∈ l, (Lit.int .i64 n).wf = true
section
open Go.ChangeShapes Go.WideShapes Go.Deep
variable {H : Type} {enc : TypeId × Value → H} {P : Program} {w : World} {base : Nat} {held : Bool} {spare : Nat → Bool}
theorem intsIn_of_trod {t e : TypeId} {fuel : Nat} {cs : List Value} {x : DataW H × List MemPlace} (ht : P.underlying t = some (.slice e)) (he : P.underlying e = some (.int .i64)) (hc : P.cellsOf e = 1)
    (h : DataW.trod enc P w base (fun _ => true) held fuel t cs = some x) : ∃ a n cap l, cs = [.slice a n cap] ∧ IntsIn w a n cap l := by
  have hmx : (maxLen : Nat) = 9223372036854775807 := by decide
  rcases open_ints ht he hc h with ⟨hcs, _⟩ | ⟨a, n, cap, zs, hcs, h0, h1, h2, h3, hx, hcell, hwz⟩
  · exact ⟨none, 0, 0, [], hcs, Ints.nil _ _, rfl, by decide, fun _ => ⟨rfl, rfl⟩, fun n hn => by cases hn⟩
  · have h3' : zs.length = cap := by simpa using h3
    refine ⟨some a, n, cap, zs.take n, hcs, fun hne => ?_, by rw [List.length_take]; omega, by omega, (fun h => by cases h), fun m hm => hwz m (List.mem_of_mem_take hm)⟩
    have hlen : 0 < n := by
      rcases Nat.eq_zero_or_pos n with h | h
      · subst h; simp at hne
      · exact h
    obtain ⟨b, off, rfl, hcl⟩ := Go.ints_at hcell (by omega)
    refine ⟨b, off, rfl, fun i hi => ?_⟩
    rw [List.length_take] at hi
    rw [hcl i (by omega), List.getD_eq_getElem?_getD, List.getD_eq_getElem?_getD, List.getElem?_take_of_lt (by omega)]
end
end Go.Proofs.Ytcjojcihjhhpgaa
