/-
  A range over a map from pairs of integers to pointers.
-/
import Derived.Test.YtdnkeplmjimjcaaKMap
import Derived.Maps.RangeWalk
namespace Go.Proofs.Ytdnkeplmjimjcaa
open Go.RowKit Go.Maps

set_option maxRecDepth 100000 in
theorem keyLeaf_inv {d : Nat} {v : Value} {l : List Lit} (h : Try.prog.keyLits (d + 1) 3 [v] = some l) : ∃ a : Int, v = .int .i64 a ∧ (Lit.int .i64 a).wf = true ∧ l = [.int .i64 a] := by
  unfold Program.keyLits at h
  simp only [Try.underlying3] at h
  cases v with
  | int k a =>
    simp at h
    obtain ⟨⟨rfl, hw⟩, rfl⟩ := h
    exact ⟨a, rfl, hw, rfl⟩
  | _ => simp at h
set_option maxRecDepth 100000 in
theorem keyLitsK_inv {d : Nat} {vs : List Value} {l : List Lit} (h : Try.prog.keyLits (d + 1 + 1) KT vs = some l) : ∃ p, wfK p ∧ vs = [.int .i64 p.1, .int .i64 p.2] ∧ l = [.int .i64 p.1, .int .i64 p.2] := by
  have hc : Try.prog.cellsOf KT = 2 := by kernel_rfl
  have hi : Try.prog.cellsOf 3 = 1 := by kernel_rfl
  unfold Program.keyLits at h
  simp only [Try.underlying34] at h
  simp [hc, hi] at h
  obtain ⟨hl, h⟩ := h
  match vs, hl with
  | [v, u], _ =>
    simp at h
    cases h1 : Try.prog.keyLits (d + 1) 3 [v] with
    | none => simp [h1] at h
    | some l1 =>
      cases h2 : Try.prog.keyLits (d + 1) 3 [u] with
      | none => simp [h1, h2] at h
      | some l2 =>
        simp [h1, h2] at h
        obtain ⟨a, rfl, wa, rfl⟩ := keyLeaf_inv h1
        obtain ⟨b, rfl, wb, rfl⟩ := keyLeaf_inv h2
        exact ⟨(a, b), ⟨wa, wb⟩, rfl, by simpa using h.symm⟩
set_option maxRecDepth 100000 in
theorem keyOfK_inv {v : Value} {kl : Lit} (h : keyOf Try.prog KT v = some kl) : ∃ p, wfK p ∧ v = keyV p ∧ kl = klit p := by
  have hsz : Try.prog.types.size + 1 = 138 + 1 + 1 := by kernel_rfl
  unfold keyOf at h
  simp only [Try.underlying34] at h
  split at h
  · rename_i hf
    cases v with
    | agg cs =>
      rw [hsz] at h
      cases hq : Try.prog.keyLits (138 + 1 + 1) KT (Value.agg cs).cells.toList with
      | none => rw [hq] at h; cases h
      | some ls =>
        rw [hq] at h
        obtain ⟨p, hp, hv, rfl⟩ := keyLitsK_inv hq
        refine ⟨p, hp, ?_, ?_⟩
        · unfold keyV
          congr 1
          apply Array.toList_inj.1
          exact hv
        · simpa [klit] using h.symm
    | _ => simp [Value.formed, Try.underlying34] at hf
  · cases h
/-- Block r ranges over the map of block g, that leads from f's keys to f's blocks; those of done have come. -/
def KR (w : World) (g r n : Nat) (f : Int × Int → Option Nat) (done : List (Int × Int)) (cnt : Nat) : Prop :=
  ∃ (D : DataW (Option Nat)) (left : Lit → Bool), w.ranges Try.prog KT ptrE g r n D left cnt ∧ (∀ p, wfK p → Maps.has D (klit p) = (f p).isSome ∧ D.atKey (klit p) (.held none) = .held (f p)) ∧
    (∀ p, wfK p → left (klit p) = ((f p).isSome && !done.contains p)) ∧ done.Nodup ∧ (∀ p ∈ done, (f p).isSome = true)
section
variable {w w' : World} {g r n : Nat} {f : Int × Int → Option Nat} {ks done : List (Int × Int)} {cnt : Nat}
theorem KM.range (h : KM w g n f ks) : ∃ w', (Instr.range KMT (.map (some g))).run Try.prog w = .ok (.pointer (some ⟨w.heap.size, 0, none⟩)) w' ∧ (∃ cnt, KR w' g w.heap.size n f [] cnt) ∧ Below w.heap.size w w' ∧ w'.heap.size = w.heap.size + 1 := by
  obtain ⟨D, h1, h2, -⟩ := h
  obtain ⟨w', e1, e2, e3, e4⟩ := h1.range keyedK Try.underlying65
  exact ⟨w', e1, ⟨_, D, _, e2, h2, fun p hp => by rw [(h2 p hp).1]; simp, List.nodup_nil, fun p hp => by cases hp⟩, ⟨e3.os, e3.tape, e3.output, e3.size, fun i hi => e3.block i hi (by simp)⟩, e4⟩
theorem KR.next (h : KR w g r n f done cnt) (ty : TypeId) :
    ((∀ p, wfK p → (f p).isSome = true → p ∈ done) ∧ (Instr.next (.pointer (some ⟨r, 0, none⟩)) false ty).run Try.prog w = .ok (.tuple #[.bool false]) w) ∨
    ∃ p b w' cnt', wfK p ∧ f p = some b ∧ p ∉ done ∧ (Instr.next (.pointer (some ⟨r, 0, none⟩)) false ty).run Try.prog w = .ok (.tuple #[.bool true, keyV p, .pointer (some ⟨b, 0, none⟩)]) w' ∧
      KR w' g r n f (done ++ [p]) cnt' ∧ cnt' < cnt ∧ w.grownBy w' (some r) ∧ w'.heap.size = w.heap.size ∧ (Instr.entry (.pointer (some ⟨r, 0, none⟩))).run Try.prog w' = .ok (.tuple #[keyV p, .pointer (some ⟨b, 0, none⟩)]) w' := by
  obtain ⟨D, left, h1, h2, h3, h4, h5⟩ := h
  rcases h1.next keyedK ty with ⟨-, hl, hrun⟩ | ⟨key, v, kl, y, w', cnt', hkey, hlk, hv, hat, hrun, hrg, hlt, hgr, hsz, hen⟩
  · refine .inl ⟨fun p hp hf => ?_, hrun⟩
    have := h3 p hp
    rw [hl, hf] at this
    simpa using this.symm
  · obtain ⟨p, hp, rfl, rfl⟩ := keyOfK_inv hkey
    obtain ⟨q, rfl, rfl⟩ := ptrE_inv hv
    have e1 : D.atKey (klit p) (.held none) = .held q := hat _
    rw [(h2 p hp).2] at e1
    cases e1
    have e3 := h3 p hp
    rw [hlk] at e3
    have hs : (f p).isSome = true ∧ p ∉ done := by simpa using e3.symm
    obtain ⟨b, hb⟩ := Option.isSome_iff_exists.1 hs.1
    rw [hb] at hrun hen
    refine .inr ⟨p, b, w', cnt', hp, hb, hs.2, hrun, ⟨D, _, hrg, h2, fun z hz => ?_, ?_, fun z hz => ?_⟩, hlt, hgr, hsz, hen⟩
    · rw [h3 z hz]
      by_cases e : z = p
      · subst e
        rw [WideAt.sameKey_self (klit_key hz)]
        simp
      · have hn : (klit z).sameKey (klit p) = false := by
          cases hq : (klit z).sameKey (klit p) with
          | false => rfl
          | true => exact absurd (klit_inj hz hp (WideAt.sameKey_eq hq)) e
        rw [hn]
        simp [e]
    · rw [List.nodup_append]
      exact ⟨h4, by simp, fun a ha b hb e => by
        have : b = p := by simpa using hb
        rw [e, this] at ha
        exact hs.2 ha⟩
    · rcases List.mem_append.1 hz with q | q
      · exact h5 z q
      · have : z = p := by simpa using q
        rw [this]; exact hs.1
theorem KR.kept (h : KR w g r n f done cnt) {row : Option Nat} (hg : w.grownBy w' row) (h1 : some g ≠ row) (h2 : some r ≠ row) : KR w' g r n f done cnt := by
  obtain ⟨D, left, q1, q2⟩ := h
  exact ⟨D, left, q1.kept hg h1 h2, q2⟩
theorem KR.later (h : KR w g r n f done cnt) (hb : Below w.heap.size w w') : KR w' g r n f done cnt := h.kept (grown_of_below hb none) (by simp) (by simp)
theorem KR.left_eq (h : KR w g r n f done cnt) : w.rangeLeft g r = cnt := by
  obtain ⟨D, left, q1, q2⟩ := h
  exact q1.left_eq
theorem KR.lt (h : KR w g r n f done cnt) : r < w.heap.size := by
  obtain ⟨D, left, q1, q2⟩ := h
  exact q1.lt
end
end Go.Proofs.Ytdnkeplmjimjcaa
