/-
  CacheLast's numbers: what was put last under a key is what lies there.
-/
import Derived.Test.YtdnkeplmjimjcaaChPly
import Derived.Test.YtdnkeplmjimjcaaChRwM
import Derived.Test.YtdnkeplmjimjcaaKGen
namespace Go.Proofs.Ytdnkeplmjimjcaa
open Go.RowKit

/-- Every block holds what was put last under its key. -/
def LaI (L : List Bk) (f : Int × Int → Option ByteArray) : Prop := ∀ s ∈ L, f s.key = some (strOf (dtL s.data)) ∧ ∀ y ∈ dtL s.data, y < 256
theorem LaI.sub {L L' : List Bk} {f : Int × Int → Option ByteArray} (h : LaI L f) (hs : ∀ t ∈ L', ∃ s ∈ L, t.key = s.key ∧ t.data = s.data) : LaI L' f := fun t ht => by
  obtain ⟨s, h1, h2, h3⟩ := hs t ht
  rw [h2, h3]
  exact h s h1
theorem room_sub {room : Int} {L : List Bk} : ∀ s ∈ (roomK room L).1, s ∈ L := fun s hs => by
  unfold roomK at hs
  split at hs
  · exact hs
  · split at hs
    · exact hs
    · exact woK_sub hs
theorem room_no {room : Int} {L : List Bk} (h : (roomK room L).2 = false) : (roomK room L).1 = L := by
  unfold roomK at h ⊢
  by_cases q1 : (L.length : Int) < room
  · rw [if_pos q1]
  · rw [if_neg q1] at h ⊢
    cases q2 : L.find? goK with
    | none => rfl
    | some s => rw [q2] at h; cases h
/-- Put: what it leaves where it was let in; where not. -/
theorem put_yes {room : Int} {L : List Bk} {p : Int × Int} {l : List Nat} {d : Bool} (h : (putK room L p l d).2 = 0) : l.length = 64 ∧ ∀ s ∈ (putK room L p l d).1, (s.key = p ∧ s.data = gd l) ∨ (s.key ≠ p ∧ s ∈ L) := by
  unfold putK at h ⊢
  by_cases hl : l.length = 64
  · refine ⟨hl, ?_⟩
    rw [if_neg (by omega)] at h ⊢
    cases hf : findK L p with
    | some t =>
      rw [hf] at h
      simp only
      intro s hs
      rcases List.mem_append.1 hs with q | q
      · exact .inr ⟨woK_nok L p s q, woK_sub q⟩
      · have : s = ⟨p, gd l, t.dirty || d, t.pins⟩ := by simpa using q
        rw [this]
        exact .inl ⟨rfl, rfl⟩
    | none =>
      rw [hf] at h
      simp only at h ⊢
      by_cases hr : (roomK room L).2 = true
      · rw [if_pos hr] at h ⊢
        intro s hs
        rcases List.mem_append.1 hs with q | q
        · have hsl := room_sub s q
          refine .inr ⟨fun e => ?_, hsl⟩
          obtain ⟨t, ht⟩ := findK_some hsl e
          rw [hf] at ht
          cases ht
        · have : s = ⟨p, gd l, d, 0⟩ := by simpa using q
          rw [this]
          exact .inl ⟨rfl, rfl⟩
      · rw [if_neg hr] at h
        cases h
  · rw [if_pos hl] at h
    cases h
theorem put_no {room : Int} {L : List Bk} {p : Int × Int} {l : List Nat} {d : Bool} (h : (putK room L p l d).2 ≠ 0) : (putK room L p l d).1 = L := by
  unfold putK at h ⊢
  by_cases hl : l.length = 64
  · rw [if_neg (by omega)] at h ⊢
    cases hf : findK L p with
    | some t =>
      rw [hf] at h
      exact absurd rfl h
    | none =>
      rw [hf] at h
      simp only at h ⊢
      by_cases hr : (roomK room L).2 = true
      · rw [if_pos hr] at h
        exact absurd rfl h
      · rw [if_neg hr]
        exact room_no (by simpa using hr)
  · rw [if_pos hl]
theorem do_sub {L : List Bk} {k : Int} {p : Int × Int} : ∀ t ∈ (doK L k p).1, ∃ s ∈ L, t.key = s.key ∧ t.data = s.data := fun t ht => by
  have hset : ∀ g : Bk → Bk, (∀ s, (g s).key = s.key ∧ (g s).data = s.data) → ∀ t ∈ setK L p g, ∃ s ∈ L, t.key = s.key ∧ t.data = s.data := fun g hg t ht => by
    unfold setK at ht
    obtain ⟨s, hs, e⟩ := List.mem_map.1 ht
    refine ⟨s, hs, ?_⟩
    rw [← e]
    split
    · exact hg s
    · exact ⟨rfl, rfl⟩
  have hid : t ∈ L → ∃ s ∈ L, t.key = s.key ∧ t.data = s.data := fun h => ⟨t, h, rfl, rfl⟩
  unfold doK at ht
  split at ht
  · exact hid ht
  · split at ht
    · exact hset (fun s => { s with dirty := false }) (fun _ => ⟨rfl, rfl⟩) t ht
    · split at ht
      · exact hset (fun s => { s with pins := s.pins + 1 }) (fun _ => ⟨rfl, rfl⟩) t ht
      · split at ht
        · split at ht
          · exact hid ht
          · exact hset (fun s => { s with pins := s.pins - 1 }) (fun _ => ⟨rfl, rfl⟩) t ht
        · split at ht
          · exact hid ht
          · exact hid (woK_sub ht)
theorem get_sub {L : List Bk} {p : Int × Int} : ∀ t ∈ (getK L p).1, ∃ s ∈ L, t.key = s.key ∧ t.data = s.data := fun t ht => by
  unfold getK at ht
  split at ht
  · exact ⟨t, ht, rfl, rfl⟩
  · rename_i s hs
    rcases List.mem_append.1 ht with q | q
    · exact ⟨t, woK_sub q, rfl, rfl⟩
    · have : t = s := by simpa using q
      rw [this]
      exact ⟨s, (findK_mem hs).1, rfl, rfl⟩
theorem get_dat {L : List Bk} {p : Int × Int} {d : Nat → Nat} (h : (getK L p).2 = some d) : ∃ s ∈ L, s.key = p ∧ d = s.data := by
  unfold getK at h
  split at h
  · cases h
  · rename_i s hs
    cases h
    exact ⟨s, (findK_mem hs).1, (findK_mem hs).2, rfl⟩
/-- What a call that is no Put leaves. -/
theorem play_sub {room : Int} {L : List Bk} {x : OpC} (h : x.k ≠ 1) : ∀ t ∈ (playK room L x).1, ∃ s ∈ L, t.key = s.key ∧ t.data = s.data := fun t ht => by
  unfold playK at ht
  rw [if_neg h] at ht
  split at ht
  · exact get_sub t ht
  · split at ht
    · exact do_sub t ht
    · split at ht
      · exact do_sub t ht
      · split at ht
        · exact do_sub t ht
        · split at ht
          · exact do_sub t ht
          · exact ⟨t, ht, rfl, rfl⟩
theorem LaI.put {L : List Bk} {f : Int × Int → Option ByteArray} (h : LaI L f) {room : Int} {p : Int × Int} {l : List Nat} {d : Bool} (hl : ∀ y ∈ l, y < 256) (h0 : (putK room L p l d).2 = 0) : LaI (putK room L p l d).1 (updP f p (some (strOf l))) := fun s hs => by
  obtain ⟨h64, h1⟩ := put_yes h0
  rcases h1 s hs with ⟨e1, e2⟩ | ⟨e1, e2⟩
  · rw [e1, e2, updP_at, dtL_gd h64]
    exact ⟨rfl, hl⟩
  · rw [updP_ne _ _ e1]
    exact h s e2
/-- The same blocks, in whatever order. -/
def SmL (L0 L : List Bk) : Prop := ∀ s, s ∈ L ↔ s ∈ L0
theorem nodup_key : ∀ {L : List Bk}, (L.map Bk.key).Nodup → ∀ {s t : Bk}, s ∈ L → t ∈ L → s.key = t.key → s = t
  | [], _, s, t, hs, _, _ => by cases hs
  | a :: L, hn, s, t, hs, ht, e => by
    rw [List.map_cons, List.nodup_cons] at hn
    rcases List.mem_cons.1 hs with q1 | q1 <;> rcases List.mem_cons.1 ht with q2 | q2
    · rw [q1, q2]
    · exact absurd (by rw [← q1, e]; exact List.mem_map_of_mem q2) hn.1
    · exact absurd (by rw [← q2, ← e]; exact List.mem_map_of_mem q1) hn.1
    · exact nodup_key hn.2 q1 q2 e
theorem SmL.get {L0 L : List Bk} (h : SmL L0 L) (hn : (L.map Bk.key).Nodup) {s : Bk} (hs : s ∈ L0) : getK L s.key = (woK L s.key ++ [s], some s.data) ∧ SmL L0 (woK L s.key ++ [s]) := by
  have hsl := (h s).2 hs
  have hf : findK L s.key = some s := find_only hsl rfl (fun t ht e => nodup_key hn ht hsl e)
  refine ⟨by unfold getK; rw [hf], fun t => ?_⟩
  rw [← h t, List.mem_append, List.mem_singleton]
  constructor
  · rintro (q | q)
    · exact woK_sub q
    · rw [q]; exact hsl
  · intro q
    by_cases e : t.key = s.key
    · exact .inr (nodup_key hn q hsl e)
    · refine .inl ?_
      unfold woK
      rw [List.mem_filter]
      exact ⟨q, by simpa using e⟩
end Go.Proofs.Ytdnkeplmjimjcaa
