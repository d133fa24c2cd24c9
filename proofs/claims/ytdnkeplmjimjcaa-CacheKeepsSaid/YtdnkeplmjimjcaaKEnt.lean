/-
  An entry of a map from pairs of integers that is changed in place (m[k]++), and a range over such a map.
-/
import Derived.Test.YtdnkeplmjimjcaaKGen
import Derived.WideKeyEntry
namespace Go.Proofs.Ytdnkeplmjimjcaa
open Go.RowKit Go.Maps Go.WideElems Go.ChangeMaps

section
variable {H : Type} {P : Program} {w : World} {t k e : TypeId} {R : Value → Option (DataW H × List MemPlace)} {b : Nat} {es : Array MapEntry} {clock : Nat}
/-- The entry's place is made; a store at the entry's stamp is a store under the key. -/
theorem entry_two (K : Keyed P k) (ht : P.underlying t = some (.map k e)) {z : Value} (hz : ∀ u : World, (zeroValue e).run P u = .ok z u) (hb : w.heap[b]? = some (.map es clock)) (F : Fit P k R es clock)
    {key : Value} {kl : Lit} (hkey : keyOf P k key = some kl) :
    ∃ (v0 : Value) (st : Nat) (w1 : World), (Instr.mapEntry t (.map (some b)) key).run P w = .ok (.tuple #[v0, goInt st]) w1 ∧ (Instr.lookup t (.map (some b)) key false).run P w = .ok v0 w ∧
      (Instr.mapUpdate t (.map (some b)) key v0).run P w = .ok () w1 ∧
      ∀ val : Value, ∃ w2, (Instr.entryStore t (.map (some b)) (goInt st) val).run P w1 = .ok () w2 ∧ (Instr.mapUpdate t (.map (some b)) key val).run P w = .ok () w2 := by
  obtain ⟨s1, s2, _⟩ := F.stamped
  have hsz : b < w.heap.size := (Array.getElem?_eq_some_iff.1 hb).1
  have hset : ∀ x y : Obj, setBlock (setBlock w b x) b y = setBlock w b y := fun x y => by simp [setBlock]
  have hget : ∀ x : Obj, (setBlock w b x).heap[b]? = some x := fun x => by simp [setBlock, hsz]
  rcases K.find w hkey es.toList F.keys with ⟨h1, h2⟩ | ⟨j, e0, h1, h2, h3⟩
  · refine ⟨z, clock, setBlock w b (.map (es.push ⟨key, z, clock⟩) (clock + 1)), ?_, ?_, ?_, fun val => ⟨setBlock w b (.map (es.push ⟨key, val, clock⟩) (clock + 1)), ?_, ?_⟩⟩
    · simp [Instr.mapEntry, run_underlying ht, MapKept.run_getObj_map hb, K.check w false hkey, h1, hz, MapKept.run_setObj_map _ hb, Result.andThen, setBlock]
    · simp [Instr.lookup, run_underlying ht, MapKept.run_getObj_map hb, K.check w es.isEmpty hkey, h1, hz, Result.andThen]
    · simp [Instr.mapUpdate, run_underlying ht, MapKept.run_getObj_map hb, K.check w false hkey, h1, MapKept.run_setObj_map _ hb, Result.andThen, setBlock]
    · have hidx : (es.push ⟨key, z, clock⟩).findIdx? (fun e => ((e.born : Nat) : Int) == ((clock : Nat) : Int)) = some es.size := by
        rw [findIdx_arr]
        exact findIdx_born (l := (es.push ⟨key, z, clock⟩).toList) (j := es.size) (e0 := ⟨key, z, clock⟩) (by
          simp only [Array.toList_push, List.map_append, List.map_cons, List.map_nil]
          refine List.nodup_append.2 ⟨s2, by simp, fun a ha c hc e1 => ?_⟩
          obtain ⟨x, hx, hxa⟩ := List.mem_map.1 ha
          have hcl : c = clock := by simpa using hc
          have := s1 x hx
          omega) (by simp)
      have hmod : (es.push ⟨key, z, clock⟩).modify es.size (fun e => { e with val := val }) = es.push ⟨key, val, clock⟩ := by
        apply Array.ext'
        rw [Array.toList_modify, Array.toList_push, Array.toList_push, ← Array.length_toList, modify_last]
      have hst : ∀ u : World, u.heap[b]? = some (.map (es.push ⟨key, z, clock⟩) (clock + 1)) → (Instr.entryStore t (.map (some b)) (goInt clock) val).run P u = .ok () (setBlock u b (.map (es.push ⟨key, val, clock⟩) (clock + 1))) := fun u hu => by
        simp [Instr.entryStore, MapKept.run_getObj_map hu, asInt, asIntOf, goInt, hidx, hmod, MapKept.run_setObj_map _ hu, Result.andThen, setBlock]
      rw [hst _ (hget _), hset]
    · simp [Instr.mapUpdate, run_underlying ht, MapKept.run_getObj_map hb, K.check w false hkey, h1, MapKept.run_setObj_map _ hb, Result.andThen, setBlock]
  · have hj : es[j]? = some e0 := by simpa using h2
    have hsame : es.modify j (fun e => { e with key := key }) = es := by
      apply Array.ext'
      rw [Array.toList_modify, modify_eq_set _ _ _ _ h2, show ({ e0 with key := key } : MapEntry) = e0 by rw [← h3]]
      exact set_self _ _ _ h2
    have hsame2 : es.modify j (fun e' => { e' with key := key, val := e0.val }) = es := by
      apply Array.ext'
      rw [Array.toList_modify, modify_eq_set _ _ _ _ h2, show ({ e0 with key := key, val := e0.val } : MapEntry) = e0 by rw [← h3]]
      exact set_self _ _ _ h2
    refine ⟨e0.val, e0.born, setBlock w b (.map es clock), ?_, ?_, ?_, fun val => ⟨setBlock w b (.map (es.modify j (fun e' => { e' with key := key, val := val })) clock), ?_, ?_⟩⟩
    · simp [Instr.mapEntry, run_underlying ht, MapKept.run_getObj_map hb, K.check w false hkey, h1, hj, h3, K.stays w hkey, hsame, MapKept.run_setObj_map _ hb, Result.andThen, setBlock]
    · simp [Instr.lookup, run_underlying ht, MapKept.run_getObj_map hb, K.check w es.isEmpty hkey, h1, Result.andThen]
    · simp [Instr.mapUpdate, run_underlying ht, MapKept.run_getObj_map hb, K.check w false hkey, h1, hj, h3, K.stays w hkey, hsame2, MapKept.run_setObj_map _ hb, Result.andThen, setBlock]
    · have hidx : es.findIdx? (fun e => ((e.born : Nat) : Int) == ((e0.born : Nat) : Int)) = some j := by
        rw [findIdx_arr]
        exact findIdx_born s2 h2
      have hmod : es.modify j (fun e => { e with val := val }) = es.modify j (fun e' => { e' with key := key, val := val }) := by
        apply Array.ext'
        rw [Array.toList_modify, Array.toList_modify, modify_eq_set _ _ _ _ h2, modify_eq_set _ _ _ _ h2, ← h3]
      have hst : ∀ u : World, u.heap[b]? = some (.map es clock) → (Instr.entryStore t (.map (some b)) (goInt e0.born) val).run P u = .ok () (setBlock u b (.map (es.modify j (fun e' => { e' with key := key, val := val })) clock)) := fun u hu => by
        simp [Instr.entryStore, MapKept.run_getObj_map hu, asInt, asIntOf, goInt, hidx, hmod, MapKept.run_setObj_map _ hu, Result.andThen, setBlock]
      rw [hst _ (hget _), hset]
    · simp [Instr.mapUpdate, run_underlying ht, MapKept.run_getObj_map hb, K.check w false hkey, h1, hj, h3, K.stays w hkey, MapKept.run_setObj_map _ hb, Result.andThen, setBlock]
end
section
variable {E : Type} {M : Elm E} {w w' : World} {g n r cnt : Nat} {f : Int × Int → Option E} {ks done : List (Int × Int)}
theorem KG.entry (h : KG M w g n f ks) (hn : n < 1000000) {p : Int × Int} (hp : wfK p) : ∃ (st : Nat) (w1 : World), (Instr.mapEntry M.ty (.map (some g)) (keyV p)).run Try.prog w = .ok (.tuple #[M.val ((f p).getD M.z), .int .i64 (st : Int)]) w1 ∧ w.grownBy w1 (some g) ∧
    (Instr.lookup M.ty (.map (some g)) (keyV p) false).run Try.prog w1 = .ok (M.val ((f p).getD M.z)) w1 ∧
    ∀ e, ∃ w2, (Instr.entryStore M.ty (.map (some g)) (.int .i64 (st : Int)) (M.val e)).run Try.prog w1 = .ok () w2 ∧ KG M w2 g (n + 1) (updP f p (some e)) (addP ks p) ∧ w.grownBy w2 (some g) := by
  have hl := h.look hp
  obtain ⟨D, ⟨es, c, hx, F, hs, hD⟩, h2⟩ := id h
  obtain ⟨v0, st, w1, e1, e2, e3, e4⟩ := entry_two keyedK M.und M.zr hx F (keyOfK hp)
  rw [hl] at e2
  cases e2
  obtain ⟨w1', q1, q2, q3⟩ := h.put hn hp ((f p).getD M.z)
  rw [e3] at q1
  cases q1
  refine ⟨st, w1, e1, q3, ?_, fun e => ?_⟩
  · have := q2.look hp
    rw [updP_at] at this
    exact this
  · obtain ⟨w2, r1, r2⟩ := e4 (M.val e)
    obtain ⟨w2', s1, s2, s3⟩ := h.put hn hp e
    rw [r2] at s1
    cases s1
    exact ⟨w2, r1, s2, s3⟩
/-- Block r ranges over the map of block g; the keys of done have come. -/
def KGR (M : Elm E) (w : World) (g r n : Nat) (f : Int × Int → Option E) (done : List (Int × Int)) (cnt : Nat) : Prop :=
  ∃ (D : DataW E) (left : Lit → Bool), w.ranges Try.prog KT M.R g r n D left cnt ∧ (∀ p, wfK p → Maps.has D (klit p) = (f p).isSome ∧ D.atKey (klit p) (.held M.z) = .held ((f p).getD M.z)) ∧
    (∀ p, wfK p → left (klit p) = ((f p).isSome && !done.contains p)) ∧ done.Nodup ∧ (∀ p ∈ done, (f p).isSome = true)
theorem KG.range (h : KG M w g n f ks) : ∃ w', (Instr.range M.ty (.map (some g))).run Try.prog w = .ok (.pointer (some ⟨w.heap.size, 0, none⟩)) w' ∧ (∃ cnt, KGR M w' g w.heap.size n f [] cnt) ∧ Below w.heap.size w w' ∧ w'.heap.size = w.heap.size + 1 := by
  obtain ⟨D, h1, h2, -⟩ := h
  obtain ⟨w', e1, e2, e3, e4⟩ := h1.range keyedK M.und
  exact ⟨w', e1, ⟨_, D, _, e2, h2, fun p hp => by rw [(h2 p hp).1]; simp, List.nodup_nil, fun p hp => by cases hp⟩, ⟨e3.os, e3.tape, e3.output, e3.size, fun i hi => e3.block i hi (by simp)⟩, e4⟩
theorem KGR.next (h : KGR M w g r n f done cnt) (ty : TypeId) :
    (Instr.next (.pointer (some ⟨r, 0, none⟩)) false ty).run Try.prog w = .ok (.tuple #[.bool false]) w ∨
    ∃ p e w' cnt', wfK p ∧ f p = some e ∧ (Instr.next (.pointer (some ⟨r, 0, none⟩)) false ty).run Try.prog w = .ok (.tuple #[.bool true, keyV p, M.val e]) w' ∧
      KGR M w' g r n f (done ++ [p]) cnt' ∧ cnt' < cnt ∧ w.grownBy w' (some r) ∧ w'.heap.size = w.heap.size ∧ (Instr.entry (.pointer (some ⟨r, 0, none⟩))).run Try.prog w' = .ok (.tuple #[keyV p, M.val e]) w' := by
  obtain ⟨D, left, h1, h2, h3, h4, h5⟩ := h
  rcases h1.next keyedK ty with ⟨-, hl, hrun⟩ | ⟨key, v, kl, y, w', cnt', hkey, hlk, hv, hat, hrun, hrg, hlt, hgr, hsz, hen⟩
  · exact .inl hrun
  · obtain ⟨p, hp, rfl, rfl⟩ := keyOfK_inv hkey
    obtain ⟨q, rfl, rfl⟩ := M.inv hv
    have e1 : D.atKey (klit p) (.held M.z) = .held q := hat _
    rw [(h2 p hp).2] at e1
    have e3 := h3 p hp
    rw [hlk] at e3
    have hs : (f p).isSome = true ∧ p ∉ done := by simpa using e3.symm
    obtain ⟨b, hb⟩ := Option.isSome_iff_exists.1 hs.1
    rw [hb] at e1
    cases e1
    refine .inr ⟨p, b, w', cnt', hp, hb, hrun, ⟨D, _, hrg, h2, fun z hz => ?_, ?_, fun z hz => ?_⟩, hlt, hgr, hsz, hen⟩
    · rw [h3 z hz]
      by_cases e : z = p
      · subst e
        rw [WideAt.sameKey_self (klit_key hz)]
        simp
      · have hn : (klit z).sameKey (klit p) = false := by
          cases hq : (klit z).sameKey (klit p) with
          | false => rfl
          | true => exact absurd (klit_inj hz hp (WideAt.sameKey_eq hq)) e
        rw [hn]
        simp [e]
    · rw [List.nodup_append]
      exact ⟨h4, by simp, fun a ha b hb e => by
        have : b = p := by simpa using hb
        rw [e, this] at ha
        exact hs.2 ha⟩
    · rcases List.mem_append.1 hz with q | q
      · exact h5 z q
      · have : z = p := by simpa using q
        rw [this]; exact hs.1
theorem KGR.kept (h : KGR M w g r n f done cnt) {row : Option Nat} (hg : w.grownBy w' row) (h1 : some g ≠ row) (h2 : some r ≠ row) : KGR M w' g r n f done cnt := by
  obtain ⟨D, left, q1, q2⟩ := h
  exact ⟨D, left, q1.kept hg h1 h2, q2⟩
theorem KGR.later (h : KGR M w g r n f done cnt) (hb : Below w.heap.size w w') : KGR M w' g r n f done cnt := h.kept (grown_of_below hb none) (by simp) (by simp)
theorem KGR.left_eq (h : KGR M w g r n f done cnt) : w.rangeLeft g r = cnt := by
  obtain ⟨D, left, q1, q2⟩ := h
  exact q1.left_eq
theorem KGR.lt (h : KGR M w g r n f done cnt) : r < w.heap.size := by
  obtain ⟨D, left, q1, q2⟩ := h
  exact q1.lt
theorem KGR.ne (h : KGR M w g r n f done cnt) : r ≠ g := by
  obtain ⟨D, left, q, _⟩ := h
  exact q.ne
end
/-- Slices of a block's bytes. -/
def bslV : Option Nat → Value
  | some g => .slice (some ⟨g, 0, none⟩) 64 64
  | none => .slice none 0 0
def bslE (v : Value) : Option (DataW (Option Nat) × List MemPlace) :=
  match v with
  | .slice (some ⟨g, 0, none⟩) 64 64 => some (.held (some g), [])
  | .slice none 0 0 => some (.held none, [])
  | _ => none
def elB : Elm (Option Nat) where
  R := bslE
  val := bslV
  z := none
  ty := 54
  el := 35
  und := Try.underlying54
  zr := fun w => by kernel_rfl
  rd := fun e => by cases e <;> rfl
  inv := fun {v y} h => by
    unfold bslE at h
    split at h
    · cases h; exact ⟨some _, rfl, rfl⟩
    · cases h; exact ⟨none, rfl, rfl⟩
    · cases h
end Go.Proofs.Ytdnkeplmjimjcaa
