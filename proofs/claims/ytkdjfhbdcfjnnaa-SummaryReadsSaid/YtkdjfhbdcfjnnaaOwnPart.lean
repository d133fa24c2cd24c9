/-
  marllaw06.Own: a summary's files and inodes, copied.
-/
import Derived.Test.YtkdjfhbdcfjnnaaApRow
namespace Go.Proofs.Ytkdjfhbdcfjnnaa
open Go.RowKit

abbrev PTY := 25
def updF {α : Type} (f : Nat → α) (i : Nat) (x : α) : Nat → α := fun j => if j = i then x else f j
theorem updF_at {α : Type} (f : Nat → α) (i : Nat) (x : α) : updF f i x i = x := if_pos rfl
theorem updF_ne {α : Type} (f : Nat → α) (i : Nat) (x : α) {j : Nat} (h : j ≠ i) : updF f i x j = f j := if_neg h
def flo (l : List Fi) (av : Nat → Value) (n : Nat) : List Value := (List.range n).flatMap fun i => [.int .i64 (l.getD i fi0).ino, .int .i64 (l.getD i fi0).ver, av i]
theorem flo_succ (l : List Fi) (av : Nat → Value) (n : Nat) : flo l av (n + 1) = flo l av n ++ [.int .i64 (l.getD n fi0).ino, .int .i64 (l.getD n fi0).ver, av n] := by
  simp [flo, List.range_succ]
theorem flo_len (l : List Fi) (av : Nat → Value) (n : Nat) : (flo l av n).length = n * 3 := by
  induction n with
  | zero => rfl
  | succ n ih => rw [flo_succ, List.length_append, ih]; simp; omega
theorem flo_congr (l : List Fi) {f g : Nat → Value} (n : Nat) (h : ∀ i, i < n → f i = g i) : flo l f n = flo l g n := by
  induction n with
  | zero => rfl
  | succ n ih => rw [flo_succ, flo_succ, ih (fun i hi => h i (by omega)), h n (Nat.lt_succ_self _)]
theorem flo_get (l : List Fi) (av : Nat → Value) {n : Nat} : ∀ {i : Nat}, i < n → (flo l av n)[i * 3]? = some (.int .i64 (l.getD i fi0).ino) ∧ (flo l av n)[i * 3 + 1]? = some (.int .i64 (l.getD i fi0).ver) ∧ (flo l av n)[i * 3 + 2]? = some (av i) := by
  induction n with
  | zero => intro i hi; omega
  | succ n ih =>
    intro i hi
    have hl := flo_len l av n
    rw [flo_succ]
    by_cases e : i = n
    · subst e
      rw [List.getElem?_append_right (by omega), List.getElem?_append_right (by omega), List.getElem?_append_right (by omega), hl, Nat.sub_self, Nat.add_sub_cancel_left, Nat.add_sub_cancel_left]
      exact ⟨rfl, rfl, rfl⟩
    · rw [List.getElem?_append_left (by omega), List.getElem?_append_left (by omega), List.getElem?_append_left (by omega)]
      exact ih (by omega)
theorem oblo {w : World} {base n size : Nat} {e : TypeId} {v : Value} {xs : List Value} {g : Nat} (h : w.ownsRow base e size v n xs) (hg : v.ownBlock = some g) : base ≤ g ∧ g < w.heap.size ∧ ∃ cs, Blo w g e cs := by
  rcases h.2 with ⟨h1, h2⟩ | ⟨g', cap, cur, h1, h2, h3, _⟩
  · subst h1; cases hg
  · subst h1
    have : g' = g := by simpa [Value.ownBlock] using hg
    subst this
    exact ⟨h2, (Array.getElem?_eq_some_iff.1 h3).1, cur, h3⟩
structure Fo (w : World) (base : Nat) (v : Value) (av : Nat → Value) (l : List Fi) (k : Nat) : Prop where
  row : w.ownsRow base FN 3 v k (flo l av k)
  its : ∀ i, i < k → w.ownsRow base IT 1 (av i) (l.getD i fi0).lb.length (cellsI (l.getD i fi0).lb)
section
variable {w w' : World} {base k : Nat} {v v' : Value} {av : Nat → Value} {l : List Fi}
theorem Fo.later (h : Fo w base v av l k) (hb : Below w.heap.size w w') : Fo w' base v av l k := ⟨own_later h.row hb, fun i hi => own_later (h.its i hi) hb⟩
theorem fo_nil (w : World) (base : Nat) (l : List Fi) : Fo w base (.slice none 0 0) (fun _ => .slice none 0 0) l 0 := ⟨⟨by simp [flo], .inl ⟨rfl, rfl⟩⟩, fun i hi => by omega⟩
theorem Fo.next (h : Fo w base v av l k) {u : Value} (ho : w'.ownsRow base FN 3 v' (k + 1) (flo l av k ++ [.int .i64 (l.getD k fi0).ino, .int .i64 (l.getD k fi0).ver, u])) (hg : w.grownBy w' v.ownBlock)
    (hu : w.ownsRow base IT 1 u (l.getD k fi0).lb.length (cellsI (l.getD k fi0).lb)) : Fo w' base v' (updF av k u) l (k + 1) := by
  have keep : ∀ {u : Value} {n : Nat} {xs : List Value}, w.ownsRow base IT 1 u n xs → w'.ownsRow base IT 1 u n xs := fun hu => (Out.of_grown (X := fun g => v.ownBlock = some g) hg (fun g e => e)).own hu (fun q e1 e2 => by
    obtain ⟨-, -, c1, hb1⟩ := oblo hu e1
    obtain ⟨-, -, c2, hb2⟩ := oblo h.row e2
    have h3 := hb1.symm.trans hb2
    cases h3)
  refine ⟨?_, fun j hj => ?_⟩
  · rw [flo_succ, flo_congr l k (g := av) (fun i hi => updF_ne _ _ _ (by omega)), updF_at]
    exact ho
  · by_cases e : j = k
    · subst e; rw [updF_at]; exact keep hu
    · rw [updF_ne _ _ _ e]; exact keep (h.its j (by omega))
theorem Fo.fis {a : Option Addr} {c : Nat} (h : Fo w base (.slice a k c) av l k) (hk : k = l.length) : Fis w a l := fun hl => by
  subst hk
  have hpos : 0 < l.length := List.length_pos_iff.2 hl
  rcases h.row.2 with ⟨h1, h2⟩ | ⟨g, cap, cur, h1, _⟩
  · omega
  · cases h1
    refine ⟨g, 0, rfl, fun i hi => ?_⟩
    obtain ⟨q1, q2, q3⟩ := flo_get l av hi
    obtain ⟨a2, c2, e2, _⟩ := own_slice (h.its i hi)
    refine ⟨by rw [Nat.zero_add, h.row.cellAt _ (by omega)]; exact q1, by rw [Nat.zero_add, h.row.cellAt _ (by omega)]; exact q2, a2, c2, by rw [Nat.zero_add, h.row.cellAt _ (by omega), q3, e2], ?_⟩
    exact Ints.own (e2 ▸ h.its i hi)
end
/-- Of a slice of files: where there is no list there is nothing in it. -/
def FisN (w : World) (a : Option Addr) (l : List Fi) : Prop := ∀ b o i n c, i < l.length → a = some ⟨b, o, none⟩ → w.cell? ⟨b, o + i * 3 + 2, none⟩ = some (.slice none n c) → n = 0 ∧ c = 0
end Go.Proofs.Ytkdjfhbdcfjnnaa
