/-
  A map from pairs of integers to elements of any kind, told by a function; its keys.
-/
import Derived.Test.YtdnkeplmjimjcaaKRan
namespace Go.Proofs.Ytdnkeplmjimjcaa
open Go.RowKit Go.Maps

/-- A kind of elements: how it is read, how it is made, its zero, its map's type. -/
structure Elm (E : Type) where
  R : Value → Option (DataW E × List MemPlace)
  val : E → Value
  z : E
  ty : TypeId
  el : TypeId
  und : Try.prog.underlying ty = some (.map KT el)
  zr : ∀ w : World, (zeroValue el).run Try.prog w = .ok (val z) w
  rd : ∀ e, R (val e) = some (.held e, [])
  inv : ∀ {v y}, R v = some y → ∃ e, v = val e ∧ y = (.held e, [])
/-- Block g is a map that leads from f's keys to f's elements; ks are its keys, each once. -/
def KG {E : Type} (M : Elm E) (w : World) (g n : Nat) (f : Int × Int → Option E) (ks : List (Int × Int)) : Prop :=
  ∃ D : DataW E, w.ownsMap Try.prog KT M.R g n D ∧ (∀ p, wfK p → Maps.has D (klit p) = (f p).isSome ∧ D.atKey (klit p) (.held M.z) = .held ((f p).getD M.z)) ∧
    ks.Nodup ∧ (∀ p, p ∈ ks ↔ (f p).isSome = true) ∧ (∀ p, (f p).isSome = true → wfK p) ∧ Maps.size D = ks.length
section
variable {E : Type} {M : Elm E} {w w' : World} {g n : Nat} {f : Int × Int → Option E} {ks : List (Int × Int)}
theorem KG.made (M : Elm E) (w : World) : KG M (w.alloc (.map #[] 0)) w.heap.size 0 (fun _ => none) [] :=
  ⟨_, World.ownsMap_made w Try.prog KT M.R, fun x _ => ⟨by simp [Maps.has], rfl⟩, List.nodup_nil, fun x => (by simp), ⟨fun x h => (by simp at h), rfl⟩⟩
theorem KG.obj (h : KG M w g n f ks) : ∃ es c, w.heap[g]? = some (.map es c) := by
  obtain ⟨D, ⟨es, c, hx, _⟩, _⟩ := h
  exact ⟨es, c, hx⟩
theorem KG.same (h : KG M w g n f ks) (he : ∀ o, w.heap[g]? = some o → w'.heap[g]? = some o) : KG M w' g n f ks := by
  obtain ⟨D, ⟨es, c, hx, hr⟩, h2⟩ := h
  exact ⟨D, ⟨es, c, he _ hx, hr⟩, h2⟩
theorem KG.lt (h : KG M w g n f ks) : g < w.heap.size := by
  obtain ⟨es, c, hx⟩ := h.obj
  exact (Array.getElem?_eq_some_iff.1 hx).1
theorem KG.later (h : KG M w g n f ks) (hb : Below w.heap.size w w') : KG M w' g n f ks := h.same (fun o e => (hb.block g h.lt).trans e)
theorem KG.blo (h : KG M w g n f ks) {k : Nat} {t : TypeId} {cs : Array Value} (hb : Blo w k t cs) : g ≠ k := by
  rintro rfl
  obtain ⟨es, c, hx⟩ := h.obj
  unfold Blo at hb
  rw [hx] at hb
  cases hb
theorem KG.look_ok (h : KG M w g n f ks) {p : Int × Int} (hp : wfK p) : (Instr.lookup M.ty (.map (some g)) (keyV p) true).run Try.prog w = .ok (.tuple #[M.val ((f p).getD M.z), .bool (f p).isSome]) w := by
  obtain ⟨D, h1, h2, _⟩ := h
  obtain ⟨v, ps, hrun, hv⟩ := h1.look_ok keyedK M.und (M.zr w) (zd := .held M.z) (zp := []) (M.rd _) (keyOfK hp)
  obtain ⟨e, rfl, hq⟩ := M.inv hv
  have e1 := (h2 p hp).2
  have e2 : D.atKey (klit p) (.held M.z) = .held e := congrArg Prod.fst hq
  rw [e2] at e1
  cases e1
  rw [hrun, (h2 p hp).1]
theorem KG.look (h : KG M w g n f ks) {p : Int × Int} (hp : wfK p) : (Instr.lookup M.ty (.map (some g)) (keyV p) false).run Try.prog w = .ok (M.val ((f p).getD M.z)) w := by
  obtain ⟨D, h1, h2, _⟩ := h
  obtain ⟨v, ps, hrun, hv⟩ := h1.lookup keyedK M.und (M.zr w) (zd := .held M.z) (zp := []) (M.rd _) (keyOfK hp)
  obtain ⟨e, rfl, hq⟩ := M.inv hv
  have e1 := (h2 p hp).2
  have e2 : D.atKey (klit p) (.held M.z) = .held e := congrArg Prod.fst hq
  rw [e2] at e1
  cases e1
  exact hrun
theorem KG.len (h : KG M w g n f ks) (ty : TypeId) : (Builtin.len_ #[M.ty] ty #[.map (some g)]).run Try.prog w = .ok (.int .i64 (ks.length : Nat)) w := by
  obtain ⟨D, h1, h2, h5, h6, h8, h7⟩ := h
  rw [h1.len M.und ty, h7]
theorem KG.put (h : KG M w g n f ks) (hn : n < 1000000) {p : Int × Int} (hp : wfK p) (e : E) : ∃ w', (Instr.mapUpdate M.ty (.map (some g)) (keyV p) (M.val e)).run Try.prog w = .ok () w' ∧ KG M w' g (n + 1) (updP f p (some e)) (addP ks p) ∧ w.grownBy w' (some g) := by
  obtain ⟨D, h1, h2, h5, h6, h8, h7⟩ := h
  obtain ⟨w', hrun, h3, h4⟩ := h1.update keyedK M.und (by unfold maxLen; omega) (keyOfK hp) (M.rd e)
  have hT := h1.tidy keyedK
  refine ⟨w', hrun, ⟨_, h3, fun z hz => ?_, ?_, fun z => ?_, fun z hz => ?_, ?_⟩, h4⟩
  · by_cases e : z = p
    · subst e
      rw [updP_at, has_put_same hT.isMap (klit_key hz), atKey_put_same hT.isMap (klit_key hz)]
      exact ⟨rfl, rfl⟩
    · have en : klit z ≠ klit p := fun q => e (klit_inj hz hp q)
      rw [updP_ne _ _ e, has_put_other en, atKey_put_other en]
      exact h2 z hz
  · unfold addP
    split
    · exact h5
    · rename_i hk
      rw [List.nodup_append]
      exact ⟨h5, by simp, fun a ha b hb => by simp at hb; subst hb; intro e; subst e; exact hk ha⟩
  · rw [addP_mem, h6]
    by_cases e : z = p
    · subst e; rw [updP_at]; simp
    · rw [updP_ne _ _ e]; simp [e]
  · by_cases e : z = p
    · subst e; exact hp
    · rw [updP_ne _ _ e] at hz; exact h8 z hz
  · rw [size_put hT, (h2 p hp).1, h7]
    unfold addP
    by_cases hk : p ∈ ks
    · rw [if_pos hk, if_pos ((h6 p).1 hk)]
    · rw [if_neg hk, if_neg (fun e => hk ((h6 p).2 e)), List.length_append]; rfl
theorem KG.del (h : KG M w g n f ks) {p : Int × Int} (hp : wfK p) (hin : p ∈ ks) (ty : TypeId) : ∃ w', (Builtin.delete_ #[M.ty, KT] ty #[.map (some g), keyV p]).run Try.prog w = .ok (.tuple #[]) w' ∧ KG M w' g n (updP f p none) (ks.erase p) ∧ w.grownBy w' (some g) := by
  obtain ⟨D, h1, h2, h5, h6, h8, h7⟩ := h
  obtain ⟨w', hrun, h3, h4⟩ := h1.drop keyedK M.und (keyOfK hp) ty
  have hT := h1.tidy keyedK
  refine ⟨w', hrun, ⟨_, h3, fun z hz => ?_, h5.erase p, fun z => ?_, fun z hz => ?_, ?_⟩, h4.grown⟩
  · by_cases e : z = p
    · subst e
      rw [updP_at, has_del_same, atKey_del_same]
      exact ⟨rfl, rfl⟩
    · have en : klit z ≠ klit p := fun q => e (klit_inj hz hp q)
      rw [updP_ne _ _ e, has_del_other en, atKey_del_other en]
      exact h2 z hz
  · rw [h5.mem_erase_iff, h6]
    by_cases e : z = p
    · subst e; rw [updP_at]; simp
    · rw [updP_ne _ _ e]; simp [e]
  · by_cases e : z = p
    · subst e; rw [updP_at] at hz; cases hz
    · rw [updP_ne _ _ e] at hz; exact h8 z hz
  · have e := size_del (k := klit p) hT
    have hpos := List.length_pos_of_mem hin
    rw [(h2 p hp).1, if_pos ((h6 p).1 hin), h7] at e
    rw [List.length_erase_of_mem hin]
    omega
/-- delete of a key that is not there. -/
theorem KG.del_none (h : KG M w g n f ks) {p : Int × Int} (hp : wfK p) (hin : p ∉ ks) (ty : TypeId) : ∃ w', (Builtin.delete_ #[M.ty, KT] ty #[.map (some g), keyV p]).run Try.prog w = .ok (.tuple #[]) w' ∧ KG M w' g n f ks ∧ w.grownBy w' (some g) := by
  obtain ⟨D, h1, h2, h5, h6, h8, h7⟩ := h
  obtain ⟨w', hrun, h3, h4⟩ := h1.drop keyedK M.und (keyOfK hp) ty
  have hT := h1.tidy keyedK
  have hf : (f p).isSome = false := by
    cases hq : (f p).isSome with
    | false => rfl
    | true => exact absurd ((h6 p).2 hq) hin
  have hfn : f p = none := by simpa using hf
  refine ⟨w', hrun, ⟨_, h3, fun z hz => ?_, h5, h6, h8, ?_⟩, h4.grown⟩
  · by_cases e : z = p
    · subst e
      rw [has_del_same, atKey_del_same, hfn]
      exact ⟨rfl, rfl⟩
    · have en : klit z ≠ klit p := fun q => e (klit_inj hz hp q)
      rw [has_del_other en, atKey_del_other en]
      exact h2 z hz
  · have e := size_del (k := klit p) hT
    rw [(h2 p hp).1, hf, if_neg (by decide), h7] at e
    exact e
end
/-- Texts. -/
def strE (v : Value) : Option (DataW ByteArray × List MemPlace) :=
  match v with
  | .string s => some (.held s, [])
  | _ => none
def elS : Elm ByteArray where
  R := strE
  val := .string
  z := ⟨#[]⟩
  ty := 63
  el := 9
  und := Try.underlying63
  zr := fun w => by kernel_rfl
  rd := fun _ => rfl
  inv := fun {v y} h => by
    unfold strE at h
    split at h
    · cases h; exact ⟨_, rfl, rfl⟩
    · cases h
/-- Numbers. -/
def intE (v : Value) : Option (DataW Int × List MemPlace) :=
  match v with
  | .int .i64 s => some (.held s, [])
  | _ => none
def elI : Elm Int where
  R := intE
  val := .int .i64
  z := 0
  ty := 55
  el := 3
  und := Try.underlying55
  zr := fun w => by kernel_rfl
  rd := fun _ => rfl
  inv := fun {v y} h => by
    unfold intE at h
    split at h
    · cases h; exact ⟨_, rfl, rfl⟩
    · cases h
end Go.Proofs.Ytdnkeplmjimjcaa
