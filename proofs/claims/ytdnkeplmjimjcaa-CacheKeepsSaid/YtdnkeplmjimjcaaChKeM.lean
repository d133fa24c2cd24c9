/-
  CacheKeeps' numbers: what is dirty, and how often pinned, under a key.
-/
import Derived.Test.YtdnkeplmjimjcaaChLaL
import Derived.Test.YtdnkeplmjimjcaaChDty
import Derived.Test.YtdnkeplmjimjcaaKEnt
namespace Go.Proofs.Ytdnkeplmjimjcaa
open Go.RowKit

def Dk (L : List Bk) (p : Int × Int) : Option (Nat → Nat) := match findK L p with | some s => if s.dirty = true then some s.data else none | none => none
def Pk (L : List Bk) (p : Int × Int) : Int := match findK L p with | some s => s.pins | none => 0
theorem Dk_eq {L L' : List Bk} {p q : Int × Int} (h : findK L p = findK L' q) : Dk L p = Dk L' q := by unfold Dk; rw [h]
theorem Pk_eq {L L' : List Bk} {p q : Int × Int} (h : findK L p = findK L' q) : Pk L p = Pk L' q := by unfold Pk; rw [h]
theorem findK_wo_ne {L : List Bk} {p q : Int × Int} (h : q ≠ p) : findK (woK L p) q = findK L q := by
  unfold findK woK
  rw [List.find?_filter]
  congr 1
  funext s
  by_cases e : s.key = q
  · simp [e, h]
  · simp [e]
theorem findK_wo {L : List Bk} {p : Int × Int} : findK (woK L p) p = none := findK_none (woK_nok L p)
theorem findK_app {A : List Bk} {s : Bk} {q : Int × Int} : findK (A ++ [s]) q = (findK A q).or (if s.key = q then some s else none) := by
  unfold findK
  rw [List.find?_append]
  congr 1
  by_cases e : s.key = q <;> simp [e]
/-- A list whose last one is the key's. -/
theorem findK_use {L : List Bk} {s : Bk} {q : Int × Int} : findK (woK L s.key ++ [s]) q = if q = s.key then some s else findK L q := by
  rw [findK_app]
  by_cases e : q = s.key
  · rw [if_pos e, e, findK_wo, if_pos rfl]; rfl
  · rw [if_neg e, findK_wo_ne e, if_neg (fun h => e h.symm), Option.or_none]
theorem findK_set {L : List Bk} {p q : Int × Int} {g : Bk → Bk} (hg : ∀ s, (g s).key = s.key) : findK (setK L p g) q = if q = p then (findK L p).map g else findK L q := by
  unfold findK setK
  rw [List.find?_map]
  by_cases e : q = p
  · subst e
    rw [if_pos rfl]
    have : ((fun s : Bk => decide (s.key = q)) ∘ fun s => if s.key = q then g s else s) = fun s => decide (s.key = q) := by
      funext s
      have h1 : (if s.key = q then g s else s).key = s.key := by split <;> simp [hg]
      simp only [Function.comp, h1]
    rw [this]
    cases hf : L.find? fun s => decide (s.key = q) with
    | none => rfl
    | some s =>
      have : s.key = q := by simpa using List.find?_some hf
      simp [this]
  · rw [if_neg e]
    have : ((fun s : Bk => decide (s.key = q)) ∘ fun s => if s.key = p then g s else s) = fun s => decide (s.key = q) := by
      funext s
      have h1 : (if s.key = p then g s else s).key = s.key := by split <;> simp [hg]
      simp only [Function.comp, h1]
    rw [this]
    cases hf : L.find? fun s => decide (s.key = q) with
    | none => rfl
    | some s =>
      have h1 : s.key = q := by simpa using List.find?_some hf
      simp only [Option.map_some]
      rw [if_neg (fun h => e (h1.symm.trans h))]
theorem findK_in {L : List Bk} (hn : (L.map Bk.key).Nodup) {s : Bk} (hs : s ∈ L) : findK L s.key = some s := find_only hs rfl (fun _ ht e => nodup_key hn ht hs e)
/-- What makes room takes nothing that is dirty, or pinned. -/
theorem room_keep {room : Int} {L : List Bk} (hn : (L.map Bk.key).Nodup) (q : Int × Int) : Dk (roomK room L).1 q = Dk L q ∧ Pk (roomK room L).1 q = Pk L q := by
  unfold roomK
  by_cases h1 : (L.length : Int) < room
  · rw [if_pos h1]; exact ⟨rfl, rfl⟩
  · rw [if_neg h1]
    cases h2 : L.find? goK with
    | none => exact ⟨rfl, rfl⟩
    | some s =>
      have hs := List.mem_of_find?_eq_some h2
      have hg : goK s = true := List.find?_some h2
      have hd : s.dirty = false ∧ s.pins = 0 := by simpa [goK] using hg
      by_cases e : q = s.key
      · subst e
        show Dk (woK L s.key) s.key = _ ∧ Pk (woK L s.key) s.key = _
        unfold Dk Pk
        rw [findK_wo, findK_in hn hs]
        simp [hd.1, hd.2]
      · exact ⟨Dk_eq (findK_wo_ne e), Pk_eq (findK_wo_ne e)⟩
theorem put_D {room : Int} {L : List Bk} {p : Int × Int} {l : List Nat} {d : Bool} (hn : (L.map Bk.key).Nodup) (h : (putK room L p l d).2 = 0) (q : Int × Int) :
    Dk (putK room L p l d).1 q = (if q = p then (if ((Dk L p).isSome || d) = true then some (gd l) else none) else Dk L q) ∧ Pk (putK room L p l d).1 q = Pk L q := by
  obtain ⟨h64, -⟩ := put_yes h
  unfold putK at h ⊢
  rw [if_neg (by omega)] at h ⊢
  cases hf : findK L p with
  | some s =>
    have hk : (⟨p, gd l, s.dirty || d, s.pins⟩ : Bk).key = p := rfl
    have := findK_use (L := L) (s := ⟨p, gd l, s.dirty || d, s.pins⟩) (q := q)
    rw [hk] at this
    simp only
    by_cases e : q = p
    · subst e
      rw [if_pos rfl] at this
      unfold Dk Pk
      rw [this, hf]
      simp only
      refine ⟨?_, trivial⟩
      rw [if_pos trivial]
      by_cases hd : s.dirty = true
      · simp [hd]
      · simp [hd]
    · rw [if_neg e] at this
      rw [if_neg e]
      exact ⟨Dk_eq this, Pk_eq this⟩
  | none =>
    rw [hf] at h
    simp only at h ⊢
    by_cases hr : (roomK room L).2 = true
    · rw [if_pos hr] at h ⊢
      have hnk : findK (roomK room L).1 p = none := by
        cases hq : findK (roomK room L).1 p with
        | none => rfl
        | some t =>
          obtain ⟨h1, h2⟩ := findK_mem hq
          obtain ⟨t', ht'⟩ := findK_some (room_sub t h1) h2
          rw [hf] at ht'; cases ht'
      have hu : findK ((roomK room L).1 ++ [⟨p, gd l, d, 0⟩]) q = if q = p then some ⟨p, gd l, d, 0⟩ else findK (roomK room L).1 q := by
        rw [findK_app]
        by_cases e : q = p
        · rw [if_pos e, e, hnk, if_pos rfl]; rfl
        · rw [if_neg e, if_neg (fun h => e h.symm), Option.or_none]
      obtain ⟨k1, k2⟩ := room_keep (room := room) hn q
      by_cases e : q = p
      · subst e
        rw [if_pos rfl] at hu
        unfold Dk Pk
        simp only [hu, hf]
        cases d <;> simp
      · rw [if_neg e] at hu
        rw [if_neg e, ← k1, ← k2]
        exact ⟨Dk_eq hu, Pk_eq hu⟩
    · rw [if_neg hr] at h
      cases h
theorem get_D {L : List Bk} {p : Int × Int} (q : Int × Int) : Dk (getK L p).1 q = Dk L q ∧ Pk (getK L p).1 q = Pk L q := by
  unfold getK
  cases hf : findK L p with
  | none => exact ⟨rfl, rfl⟩
  | some s =>
    have hk := (findK_mem hf).2
    have : findK (woK L p ++ [s]) q = findK L q := by
      have := findK_use (L := L) (s := s) (q := q)
      rw [hk] at this
      rw [this]
      split
      · rename_i e; rw [e, hf]
      · rfl
    exact ⟨Dk_eq this, Pk_eq this⟩
/-- A call that Do tells, and that was let. -/
theorem do_D {L : List Bk} {k : Int} {p : Int × Int} (hp : ∀ s ∈ L, 0 ≤ s.pins) (h : (doK L k p).2 = 0) (q : Int × Int) :
    Dk (doK L k p).1 q = (if q = p ∧ (k = 3 ∨ (k ≠ 4 ∧ k ≠ 5)) then none else Dk L q) ∧ Pk (doK L k p).1 q = (if q = p then (if k = 3 then Pk L p else if k = 4 then Pk L p + 1 else if k = 5 then Pk L p - 1 else 0) else Pk L q) ∧ (k ≠ 3 → k ≠ 4 → k ≠ 5 → Pk L p = 0) := by
  unfold doK at h ⊢
  cases hf : findK L p with
  | none => rw [hf] at h; cases h
  | some s =>
    rw [hf] at h
    have hpin := hp s (findK_mem hf).1
    simp only at h ⊢
    by_cases h3 : k = 3
    · rw [if_pos h3] at h ⊢
      have := findK_set (L := L) (p := p) (q := q) (g := fun s => { s with dirty := false }) (fun _ => rfl)
      refine ⟨?_, ?_, fun e => absurd h3 e⟩
      · by_cases e : q = p
        · rw [if_pos ⟨e, .inl h3⟩]
          rw [if_pos e, hf] at this
          unfold Dk
          rw [this]; rfl
        · rw [if_neg (fun h => e h.1)]
          rw [if_neg e] at this
          exact Dk_eq this
      · by_cases e : q = p
        · rw [if_pos e, if_pos h3]
          rw [if_pos e, hf] at this
          unfold Pk
          rw [this, hf]; rfl
        · rw [if_neg e]
          rw [if_neg e] at this
          exact Pk_eq this
    rw [if_neg h3] at h ⊢
    by_cases h4 : k = 4
    · rw [if_pos h4] at h ⊢
      have := findK_set (L := L) (p := p) (q := q) (g := fun s => { s with pins := s.pins + 1 }) (fun _ => rfl)
      refine ⟨?_, ?_, fun _ e => absurd h4 e⟩
      · rw [if_neg (fun h => by omega)]
        by_cases e : q = p
        · rw [if_pos e, hf] at this
          unfold Dk
          rw [this, e, hf]; rfl
        · rw [if_neg e] at this
          exact Dk_eq this
      · by_cases e : q = p
        · rw [if_pos e, if_neg h3, if_pos h4]
          rw [if_pos e, hf] at this
          unfold Pk
          rw [this, hf]; rfl
        · rw [if_neg e]
          rw [if_neg e] at this
          exact Pk_eq this
    rw [if_neg h4] at h ⊢
    by_cases h5 : k = 5
    · rw [if_pos h5] at h ⊢
      by_cases h0 : s.pins = 0
      · rw [if_pos h0] at h; cases h
      rw [if_neg h0] at h ⊢
      have := findK_set (L := L) (p := p) (q := q) (g := fun s => { s with pins := s.pins - 1 }) (fun _ => rfl)
      refine ⟨?_, ?_, fun _ _ e => absurd h5 e⟩
      · rw [if_neg (fun h => by omega)]
        by_cases e : q = p
        · rw [if_pos e, hf] at this
          unfold Dk
          rw [this, e, hf]; rfl
        · rw [if_neg e] at this
          exact Dk_eq this
      · by_cases e : q = p
        · rw [if_pos e, if_neg h3, if_neg h4, if_pos h5]
          rw [if_pos e, hf] at this
          unfold Pk
          rw [this, hf]; rfl
        · rw [if_neg e]
          rw [if_neg e] at this
          exact Pk_eq this
    rw [if_neg h5] at h ⊢
    by_cases h0 : 0 < s.pins
    · rw [if_pos h0] at h; cases h
    rw [if_neg h0] at h ⊢
    refine ⟨?_, ?_, fun _ _ _ => ?_⟩
    · by_cases e : q = p
      · rw [if_pos ⟨e, .inr ⟨h4, h5⟩⟩, e]
        unfold Dk
        rw [findK_wo]
      · rw [if_neg (fun h => e h.1)]
        exact Dk_eq (findK_wo_ne e)
    · by_cases e : q = p
      · rw [if_pos e, if_neg h3, if_neg h4, if_neg h5, e]
        unfold Pk
        rw [findK_wo]
      · rw [if_neg e]
        exact Pk_eq (findK_wo_ne e)
    · unfold Pk
      rw [hf]
      show s.pins = 0
      omega
theorem do_no {L : List Bk} {k : Int} {p : Int × Int} (h : (doK L k p).2 ≠ 0) : (doK L k p).1 = L := by
  unfold doK at h ⊢
  cases hf : findK L p with
  | none => rfl
  | some s =>
    rw [hf] at h
    simp only at h ⊢
    by_cases h3 : k = 3
    · rw [if_pos h3] at h; exact absurd rfl h
    rw [if_neg h3] at h ⊢
    by_cases h4 : k = 4
    · rw [if_pos h4] at h; exact absurd rfl h
    rw [if_neg h4] at h ⊢
    by_cases h5 : k = 5
    · rw [if_pos h5] at h ⊢
      by_cases h0 : s.pins = 0
      · rw [if_pos h0]
      · rw [if_neg h0] at h; exact absurd rfl h
    rw [if_neg h5] at h ⊢
    by_cases h0 : 0 < s.pins
    · rw [if_pos h0]
    · rw [if_neg h0] at h; exact absurd rfl h
theorem Dk_mem {L : List Bk} {p : Int × Int} (h : (Dk L p).isSome = true) : ∃ s ∈ L, s.key = p ∧ s.dirty = true ∧ Dk L p = some s.data := by
  unfold Dk at h ⊢
  cases hf : findK L p with
  | none => rw [hf] at h; cases h
  | some s =>
    rw [hf] at h
    simp only at h ⊢
    by_cases hd : s.dirty = true
    · exact ⟨s, (findK_mem hf).1, (findK_mem hf).2, hd, by rw [if_pos hd]⟩
    · rw [if_neg hd] at h; cases h
theorem Pk_mem {L : List Bk} {p : Int × Int} (h : Pk L p ≠ 0) : ∃ s ∈ L, s.key = p := by
  unfold Pk at h
  cases hf : findK L p with
  | none => rw [hf] at h; exact absurd rfl h
  | some s => exact ⟨s, findK_mem hf⟩
end Go.Proofs.Ytdnkeplmjimjcaa
