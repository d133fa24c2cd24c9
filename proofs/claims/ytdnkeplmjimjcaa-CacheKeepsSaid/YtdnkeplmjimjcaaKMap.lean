/-
  A map from pairs of integers to pointers, told by a function from its keys to blocks; its keys.
-/
import Derived.Test.YtdnkeplmjimjcaaPMap
import Derived.DeepKeys5
namespace Go.Proofs.Ytdnkeplmjimjcaa
open Go.RowKit Go.Maps

abbrev KT := 34
abbrev KMT := 65
def wfK (p : Int × Int) : Prop := (Lit.int .i64 p.1).wf = true ∧ (Lit.int .i64 p.2).wf = true
def keyV (p : Int × Int) : Value := .agg #[.int .i64 p.1, .int .i64 p.2]
def klit (p : Int × Int) : Lit := .string (keyBytes [.int .i64 p.1, .int .i64 p.2])
theorem keyedK : Keyed Try.prog KT := Keyed.of_law (deep_law_laid (by kernel_rfl) (m := 5) (by decide) (by decide +kernel) (by kernel_rfl) (by kernel_rfl))
theorem keyLitsK {p : Int × Int} (h : wfK p) (d : Nat) : Try.prog.keyLits (d + 1 + 1) KT [.int .i64 p.1, .int .i64 p.2] = some [.int .i64 p.1, .int .i64 p.2] := by
  obtain ⟨h1, h2⟩ := h
  have hc : Try.prog.cellsOf KT = 2 := by kernel_rfl
  have hi : Try.prog.cellsOf 3 = 1 := by kernel_rfl
  have leaf : ∀ a : Int, (Lit.int .i64 a).wf = true → Try.prog.keyLits (d + 1) 3 [.int .i64 a] = some [.int .i64 a] := fun a ha => by
    unfold Program.keyLits
    simp only [Try.underlying3]
    simp [ha]
  unfold Program.keyLits
  simp only [Try.underlying34]
  simp [hc, hi, leaf _ h1, leaf _ h2]
theorem keyOf_struct {P : Program} {k : TypeId} {v : Value} {fs : Array Field} {ls : List Lit} {n : Nat} (h1 : P.underlying k = some (.struct fs)) (h2 : P.keyType k = true) (h3 : v.formed P k = true) (hn : P.types.size + 1 = n) (h4 : P.keyLits n k v.cells.toList = some ls) : keyOf P k v = some (.string (keyBytes ls)) := by
  unfold keyOf
  rw [h1]
  simp only [h2, h3, hn, h4, Bool.and_self, if_true, Option.map_some]
theorem keyOfK {p : Int × Int} (h : wfK p) : keyOf Try.prog KT (keyV p) = some (klit p) :=
  keyOf_struct Try.underlying34 (by kernel_rfl) (by kernel_rfl) (show Try.prog.types.size + 1 = 138 + 1 + 1 by kernel_rfl) (keyLitsK h 138)
theorem klit_inj {p q : Int × Int} (hp : wfK p) (hq : wfK q) (e : klit p = klit q) : p = q := by
  have h1 := keyOfK hp
  have h2 := keyOfK hq
  rw [e] at h1
  have h3 := keyedK.inj h1 h2
  unfold keyV at h3
  obtain ⟨a, b⟩ := p
  obtain ⟨c, d⟩ := q
  simp at h3
  rw [h3.1, h3.2]
theorem klit_key {p : Int × Int} (hp : wfK p) : WideAt.IsKeyLit (klit p) := keyedK.key (keyOfK hp)
theorem zeroP (w : World) : (zeroValue 80).run Try.prog w = .ok (.pointer none) w := by kernel_rfl
def updP {α : Type} (f : Int × Int → α) (x : Int × Int) (v : α) : Int × Int → α := fun y => if y = x then v else f y
theorem updP_at {α : Type} (f : Int × Int → α) (x : Int × Int) (v : α) : updP f x v x = v := if_pos rfl
theorem updP_ne {α : Type} (f : Int × Int → α) {x y : Int × Int} (v : α) (h : y ≠ x) : updP f x v y = f y := if_neg h
/-- Block g is a map that leads from f's keys to f's blocks; ks are its keys, each once. -/
def KM (w : World) (g n : Nat) (f : Int × Int → Option Nat) (ks : List (Int × Int)) : Prop :=
  ∃ D : DataW (Option Nat), w.ownsMap Try.prog KT ptrE g n D ∧ (∀ p, wfK p → Maps.has D (klit p) = (f p).isSome ∧ D.atKey (klit p) (.held none) = .held (f p)) ∧
    ks.Nodup ∧ (∀ p, p ∈ ks ↔ (f p).isSome = true) ∧ (∀ p, (f p).isSome = true → wfK p) ∧ Maps.size D = ks.length
theorem KM.made (w : World) : KM (w.alloc (.map #[] 0)) w.heap.size 0 (fun _ => none) [] :=
  ⟨_, World.ownsMap_made w Try.prog KT ptrE, fun x _ => ⟨by simp [Maps.has], rfl⟩, List.nodup_nil, fun x => (by simp), ⟨fun x h => (by simp at h), rfl⟩⟩
section
variable {w w' : World} {g n : Nat} {f : Int × Int → Option Nat} {ks : List (Int × Int)}
theorem KM.kept (h : KM w g n f ks) {row : Option Nat} (hg : w.grownBy w' row) (hne : some g ≠ row) : KM w' g n f ks := by
  obtain ⟨D, h1, h2⟩ := h
  exact ⟨D, h1.kept hg hne, h2⟩
theorem KM.later (h : KM w g n f ks) (hb : Below w.heap.size w w') : KM w' g n f ks := h.kept (row := none) (grown_of_below hb none) (by simp)
theorem KM.obj (h : KM w g n f ks) : ∃ es c, w.heap[g]? = some (.map es c) := by
  obtain ⟨D, ⟨es, c, hx, _⟩, _⟩ := h
  exact ⟨es, c, hx⟩
theorem KM.same (h : KM w g n f ks) (he : ∀ o, w.heap[g]? = some o → w'.heap[g]? = some o) : KM w' g n f ks := by
  obtain ⟨D, ⟨es, c, hx, hr⟩, h2⟩ := h
  exact ⟨D, ⟨es, c, he _ hx, hr⟩, h2⟩
theorem KM.lt (h : KM w g n f ks) : g < w.heap.size := by
  obtain ⟨es, c, hx⟩ := h.obj
  exact (Array.getElem?_eq_some_iff.1 hx).1
theorem KM.blo (h : KM w g n f ks) {k : Nat} {t : TypeId} {cs : Array Value} (hb : Blo w k t cs) : g ≠ k := by
  rintro rfl
  obtain ⟨es, c, hx⟩ := h.obj
  unfold Blo at hb
  rw [hx] at hb
  cases hb
theorem KM.look_ok (h : KM w g n f ks) {p : Int × Int} (hp : wfK p) : (Instr.lookup KMT (.map (some g)) (keyV p) true).run Try.prog w = .ok (.tuple #[ptrV (f p), .bool (f p).isSome]) w := by
  obtain ⟨D, h1, h2, _⟩ := h
  obtain ⟨v, ps, hrun, hv⟩ := h1.look_ok keyedK Try.underlying65 (zeroP w) (zd := .held none) (zp := []) rfl (keyOfK hp)
  obtain ⟨q, rfl, hq⟩ := ptrE_inv hv
  have e1 := (h2 p hp).2
  have e2 : D.atKey (klit p) (.held none) = .held q := congrArg Prod.fst hq
  rw [e2] at e1
  cases e1
  rw [hrun, (h2 p hp).1]
theorem KM.look (h : KM w g n f ks) {p : Int × Int} (hp : wfK p) : (Instr.lookup KMT (.map (some g)) (keyV p) false).run Try.prog w = .ok (ptrV (f p)) w := by
  obtain ⟨D, h1, h2, _⟩ := h
  obtain ⟨v, ps, hrun, hv⟩ := h1.lookup keyedK Try.underlying65 (zeroP w) (zd := .held none) (zp := []) rfl (keyOfK hp)
  obtain ⟨q, rfl, hq⟩ := ptrE_inv hv
  have e1 := (h2 p hp).2
  have e2 : D.atKey (klit p) (.held none) = .held q := congrArg Prod.fst hq
  rw [e2] at e1
  cases e1
  exact hrun
theorem KM.len (h : KM w g n f ks) (ty : TypeId) : (Builtin.len_ #[KMT] ty #[.map (some g)]).run Try.prog w = .ok (.int .i64 (ks.length : Nat)) w := by
  obtain ⟨D, h1, h2, h5, h6, h8, h7⟩ := h
  rw [h1.len Try.underlying65 ty, h7]
def addP (ks : List (Int × Int)) (p : Int × Int) : List (Int × Int) := if p ∈ ks then ks else ks ++ [p]
theorem addP_mem (ks : List (Int × Int)) (k x : Int × Int) : x ∈ addP ks k ↔ x ∈ ks ∨ x = k := by
  unfold addP
  split
  · constructor
    · exact .inl
    · rintro (h | rfl)
      · exact h
      · assumption
  · simp
theorem KM.put (h : KM w g n f ks) (hn : n < 1000000) {p : Int × Int} (hp : wfK p) (b : Nat) : ∃ w', (Instr.mapUpdate KMT (.map (some g)) (keyV p) (.pointer (some ⟨b, 0, none⟩))).run Try.prog w = .ok () w' ∧ KM w' g (n + 1) (updP f p (some b)) (addP ks p) ∧ w.grownBy w' (some g) := by
  obtain ⟨D, h1, h2, h5, h6, h8, h7⟩ := h
  obtain ⟨w', hrun, h3, h4⟩ := h1.update keyedK Try.underlying65 (by unfold maxLen; omega) (keyOfK hp) (ptrE_mk (some b))
  have hT := h1.tidy keyedK
  refine ⟨w', hrun, ⟨_, h3, fun z hz => ?_, ?_, fun z => ?_, fun z hz => ?_, ?_⟩, h4⟩
  · by_cases e : z = p
    · subst e
      rw [updP_at, has_put_same hT.isMap (klit_key hz), atKey_put_same hT.isMap (klit_key hz)]
      exact ⟨rfl, rfl⟩
    · have en : klit z ≠ klit p := fun q => e (klit_inj hz hp q)
      rw [updP_ne _ _ e, has_put_other en, atKey_put_other en]
      exact h2 z hz
  · unfold addP
    split
    · exact h5
    · rename_i hk
      rw [List.nodup_append]
      exact ⟨h5, by simp, fun a ha b hb => by simp at hb; subst hb; intro e; subst e; exact hk ha⟩
  · rw [addP_mem, h6]
    by_cases e : z = p
    · subst e; rw [updP_at]; simp
    · rw [updP_ne _ _ e]; simp [e]
  · by_cases e : z = p
    · subst e; exact hp
    · rw [updP_ne _ _ e] at hz; exact h8 z hz
  · rw [size_put hT, (h2 p hp).1, h7]
    unfold addP
    by_cases hk : p ∈ ks
    · rw [if_pos hk, if_pos ((h6 p).1 hk)]
    · rw [if_neg hk, if_neg (fun e => hk ((h6 p).2 e)), List.length_append]; rfl
theorem KM.del (h : KM w g n f ks) {p : Int × Int} (hp : wfK p) (hin : p ∈ ks) (ty : TypeId) : ∃ w', (Builtin.delete_ #[KMT, KT] ty #[.map (some g), keyV p]).run Try.prog w = .ok (.tuple #[]) w' ∧ KM w' g n (updP f p none) (ks.erase p) ∧ w.grownBy w' (some g) := by
  obtain ⟨D, h1, h2, h5, h6, h8, h7⟩ := h
  obtain ⟨w', hrun, h3, h4⟩ := h1.drop keyedK Try.underlying65 (keyOfK hp) ty
  have hT := h1.tidy keyedK
  refine ⟨w', hrun, ⟨_, h3, fun z hz => ?_, h5.erase p, fun z => ?_, fun z hz => ?_, ?_⟩, h4.grown⟩
  · by_cases e : z = p
    · subst e
      rw [updP_at, has_del_same, atKey_del_same]
      exact ⟨rfl, rfl⟩
    · have en : klit z ≠ klit p := fun q => e (klit_inj hz hp q)
      rw [updP_ne _ _ e, has_del_other en, atKey_del_other en]
      exact h2 z hz
  · rw [h5.mem_erase_iff, h6]
    by_cases e : z = p
    · subst e; rw [updP_at]; simp
    · rw [updP_ne _ _ e]; simp [e]
  · by_cases e : z = p
    · subst e; rw [updP_at] at hz; cases hz
    · rw [updP_ne _ _ e] at hz; exact h8 z hz
  · have e := size_del (k := klit p) hT
    have hpos := List.length_pos_of_mem hin
    rw [(h2 p hp).1, if_pos ((h6 p).1 hin), h7] at e
    rw [List.length_erase_of_mem hin]
    omega
end
end Go.Proofs.Ytdnkeplmjimjcaa
