/-
  The cache's buffers in memory, and the row of those that may go.
-/
import Derived.Test.YtdnkeplmjimjcaaChHp
import Derived.Test.YtdnkeplmjimjcaaOut
import Derived.Test.YtdnkeplmjimjcaaKit
namespace Go.Proofs.Ytdnkeplmjimjcaa
open Go.RowKit

abbrev BT := 79
abbrev PB := 80
abbrev CT := 69
structure Bf where
  ino : Int
  lbn : Int
  data : Nat → Nat
  dirty : Bool
  pins : Int
  used : Int
structure BfC (cs : Array Value) (s : Bf) (a : Int) : Prop where
  size : cs.size = 70
  k0 : cs[0]? = some (.int .i64 s.ino)
  k1 : cs[1]? = some (.int .i64 s.lbn)
  dat : ∀ i, i < 64 → cs[2 + i]? = some (.int .u8 ((s.data i : Nat) : Int))
  dirty : cs[66]? = some (.bool s.dirty)
  pins : cs[67]? = some (.int .i64 s.pins)
  used : cs[68]? = some (.int .i64 s.used)
  at_ : cs[69]? = some (.int .i64 a)
def BufO (w : World) (b : Nat) (s : Bf) (a : Int) : Prop := ∃ cs, Blo w b BT cs ∧ BfC cs s a
def ptrs (h : Nat → Nat) (m : Nat) : List Value := (List.range m).map fun i => Value.pointer (some ⟨h i, 0, none⟩)
theorem ptrs_len (h : Nat → Nat) (m : Nat) : (ptrs h m).length = m := by simp [ptrs]
theorem ptrs_get (h : Nat → Nat) {m i : Nat} (hi : i < m) : (ptrs h m)[i]? = some (.pointer (some ⟨h i, 0, none⟩)) := by simp [ptrs, hi]
theorem ptrs_succ (h : Nat → Nat) (m : Nat) : ptrs h (m + 1) = ptrs h m ++ [.pointer (some ⟨h m, 0, none⟩)] := by simp [ptrs, List.range_succ]
theorem ptrs_congr {h h' : Nat → Nat} {m : Nat} (hh : ∀ i, i < m → h i = h' i) : ptrs h m = ptrs h' m := by
  unfold ptrs
  apply List.map_congr_left
  intro i hi
  rw [hh i (by simpa using hi)]
/-- The row of those that may go: each knows its place. -/
structure GS (w : World) (base : Nat) (v : Value) (m : Nat) (h : Nat → Nat) (S : Nat → Bf) : Prop where
  row : w.ownsRow base PB 1 v m (ptrs h m)
  buf : ∀ i, i < m → BufO w (h i) (S (h i)) ((i : Nat) : Int)
/-- What a heap's calls may change: the row, and its buffers. -/
def XG (v : Value) (m : Nat) (h : Nat → Nat) (g : Nat) : Prop := v.ownBlock = some g ∨ ∃ i, i < m ∧ h i = g
/-- The same buffers, in another order. -/
def PmG (m : Nat) (h h' : Nat → Nat) : Prop := (∀ i, i < m → ∃ j, j < m ∧ h' i = h j) ∧ (∀ j, j < m → ∃ i, i < m ∧ h' i = h j)
section
variable {w w' : World} {b base m : Nat} {s : Bf} {a : Int} {v : Value} {h : Nat → Nat} {S : Nat → Bf} {X : Nat → Prop}
theorem Out.put {w0 : World} (ho : Out X w0 w) {p : Addr} (hp : X p.block) (u : Value) : Out X w0 (w.setCell p u) :=
  ⟨ho.os, ho.tape, ho.output, by simpa using ho.size, fun i hi hx => (heap_setCell_other w p i u (fun e => hx (by rw [e]; exact hp))).trans (ho.block i hi hx)⟩
theorem Out.drawn {w0 : World} (ho : Out X w0 w) : Out X w0 w.drew := ⟨ho.os, ho.tape, ho.output, ho.size, ho.block⟩
theorem BufO.later (hB : BufO w b s a) (hb : Below w.heap.size w w') : BufO w' b s a := by
  obtain ⟨cs, h1, h2⟩ := hB
  exact ⟨cs, h1.later hb, h2⟩
theorem BufO.out (hB : BufO w b s a) (ho : Out X w w') (hx : ¬ X b) : BufO w' b s a := by
  obtain ⟨cs, h1, h2⟩ := hB
  exact ⟨cs, ho.blo h1 hx, h2⟩
theorem BufO.lt (hB : BufO w b s a) : b < w.heap.size := by
  obtain ⟨cs, h1, h2⟩ := hB
  exact h1.lt
theorem BufO.apart (hB : BufO w b s a) {g : Nat} {t : TypeId} {cs : Array Value} (hg : Blo w g t cs) (ht : t ≠ BT) : b ≠ g := by
  obtain ⟨cs', h1, h2⟩ := hB
  exact fun e => h1.apart hg (fun e => ht e.symm) e
theorem BufO.cells (hB : BufO w b s a) : w.cell? ⟨b, 0, none⟩ = some (.int .i64 s.ino) ∧ w.cell? ⟨b, 1, none⟩ = some (.int .i64 s.lbn) ∧ w.cell? ⟨b, 66, none⟩ = some (.bool s.dirty) ∧ w.cell? ⟨b, 67, none⟩ = some (.int .i64 s.pins) ∧ w.cell? ⟨b, 68, none⟩ = some (.int .i64 s.used) ∧ w.cell? ⟨b, 69, none⟩ = some (.int .i64 a) := by
  obtain ⟨cs, h1, h2⟩ := hB
  exact ⟨(h1.cell _).trans h2.k0, (h1.cell _).trans h2.k1, (h1.cell _).trans h2.dirty, (h1.cell _).trans h2.pins, (h1.cell _).trans h2.used, (h1.cell _).trans h2.at_⟩
theorem BufO.frozen (hB : BufO w b s a) (i : Nat) : w.frozen? ⟨b, i, none⟩ = false := by
  obtain ⟨cs, h1, h2⟩ := hB
  exact h1.frozen i
theorem BufO.uniq (hB : BufO w b s a) {s' : Bf} {a' : Int} (hC : BufO w b s' a') : a = a' := by
  obtain ⟨-, -, -, -, -, h1⟩ := hB.cells
  obtain ⟨-, -, -, -, -, h2⟩ := hC.cells
  rw [h1] at h2
  cases h2
  rfl
theorem BfC.set {cs : Array Value} (hC : BfC cs s a) (i : Nat) (u : Value) (s' : Bf) (a' : Int)
    (e0 : i ≠ 0) (e1 : i ≠ 1) (ed : i < 2 ∨ 66 ≤ i) (h0 : s'.ino = s.ino) (h1 : s'.lbn = s.lbn) (hd : s'.data = s.data)
    (h66 : if i = 66 then u = .bool s'.dirty else s'.dirty = s.dirty) (h67 : if i = 67 then u = .int .i64 s'.pins else s'.pins = s.pins)
    (h68 : if i = 68 then u = .int .i64 s'.used else s'.used = s.used) (h69 : if i = 69 then u = .int .i64 a' else a' = a) : BfC (cs.setIfInBounds i u) s' a' := by
  have get : ∀ j, cs.size = 70 → j < 70 → (cs.setIfInBounds i u)[j]? = if i = j then some u else cs[j]? := fun j hs hj => by
    rw [Array.getElem?_setIfInBounds]
    by_cases e : i = j
    · rw [if_pos e, if_pos e, if_pos (by omega)]
    · rw [if_neg e, if_neg e]
  have g := fun j hj => get j hC.size hj
  refine ⟨by simp [hC.size], ?_, ?_, fun j hj => ?_, ?_, ?_, ?_, ?_⟩
  · rw [g 0 (by decide), if_neg e0, h0]; exact hC.k0
  · rw [g 1 (by decide), if_neg e1, h1]; exact hC.k1
  · rw [g (2 + j) (by omega), if_neg (by omega), hd]; exact hC.dat j hj
  · rw [g 66 (by decide)]
    by_cases e : i = 66
    · rw [if_pos e] at h66 ⊢; rw [h66]
    · rw [if_neg e] at h66 ⊢; rw [h66]; exact hC.dirty
  · rw [g 67 (by decide)]
    by_cases e : i = 67
    · rw [if_pos e] at h67 ⊢; rw [h67]
    · rw [if_neg e] at h67 ⊢; rw [h67]; exact hC.pins
  · rw [g 68 (by decide)]
    by_cases e : i = 68
    · rw [if_pos e] at h68 ⊢; rw [h68]
    · rw [if_neg e] at h68 ⊢; rw [h68]; exact hC.used
  · rw [g 69 (by decide)]
    by_cases e : i = 69
    · rw [if_pos e] at h69 ⊢; rw [h69]
    · rw [if_neg e] at h69 ⊢; rw [h69]; exact hC.at_
theorem BufO.put_at (hB : BufO w b s a) (x : Int) : BufO (w.setCell ⟨b, 69, none⟩ (.int .i64 x)) b s x := by
  obtain ⟨cs, h1, h2⟩ := hB
  exact ⟨_, h1.put 69 _, h2.set 69 _ s x (by decide) (by decide) (by decide) rfl rfl rfl (by simp) (by simp) (by simp) (by simp)⟩
theorem BufO.put_used (hB : BufO w b s a) (x : Int) : BufO (w.setCell ⟨b, 68, none⟩ (.int .i64 x)) b { s with used := x } a := by
  obtain ⟨cs, h1, h2⟩ := hB
  exact ⟨_, h1.put 68 _, h2.set 68 _ _ a (by decide) (by decide) (by decide) rfl rfl rfl (by simp) (by simp) (by simp) (by simp)⟩
theorem BufO.put_pins (hB : BufO w b s a) (x : Int) : BufO (w.setCell ⟨b, 67, none⟩ (.int .i64 x)) b { s with pins := x } a := by
  obtain ⟨cs, h1, h2⟩ := hB
  exact ⟨_, h1.put 67 _, h2.set 67 _ _ a (by decide) (by decide) (by decide) rfl rfl rfl (by simp) (by simp) (by simp) (by simp)⟩
theorem BufO.put_dirty (hB : BufO w b s a) (x : Bool) : BufO (w.setCell ⟨b, 66, none⟩ (.bool x)) b { s with dirty := x } a := by
  obtain ⟨cs, h1, h2⟩ := hB
  exact ⟨_, h1.put 66 _, h2.set 66 _ _ a (by decide) (by decide) (by decide) rfl rfl rfl (by simp) (by simp) (by simp) (by simp)⟩
theorem BufO.far (hB : BufO w b s a) {p : Addr} (hp : b ≠ p.block) (u : Value) : BufO (w.setCell p u) b s a := by
  obtain ⟨cs, h1, h2⟩ := hB
  exact ⟨cs, h1.far hp u, h2⟩
theorem GS.inj (hG : GS w base v m h S) {i j : Nat} (hi : i < m) (hj : j < m) (e : h i = h j) : i = j := by
  have h1 := hG.buf i hi
  rw [e] at h1
  have := h1.uniq (hG.buf j hj)
  omega
theorem GS.later (hG : GS w base v m h S) (hb : Below w.heap.size w w') : GS w' base v m h S := ⟨own_later hG.row hb, fun i hi => (hG.buf i hi).later hb⟩
theorem GS.form (hG : GS w base v m h S) (h0 : 0 < m) : ∃ gr cap, v = .slice (some ⟨gr, 0, none⟩) m cap := by
  rcases hG.row.2 with ⟨_, e⟩ | ⟨g, cap, cur, hv, _⟩
  · omega
  · exact ⟨g, cap, hv⟩
theorem GS.out (hG : GS w base v m h S) (ho : Out X w w') (hx : ∀ g, XG v m h g → ¬ X g) : GS w' base v m h S :=
  ⟨ho.own hG.row (fun g hg => hx g (.inl hg)), fun i hi => (hG.buf i hi).out ho (hx _ (.inr ⟨i, hi, rfl⟩))⟩
theorem PmG.refl : PmG m h h := ⟨fun i hi => ⟨i, hi, rfl⟩, fun i hi => ⟨i, hi, rfl⟩⟩
theorem PmG.trans {h1 h2 : Nat → Nat} (p : PmG m h h1) (q : PmG m h1 h2) : PmG m h h2 := ⟨fun i hi => by
  obtain ⟨j, hj, e⟩ := q.1 i hi
  obtain ⟨k, hk, e2⟩ := p.1 j hj
  exact ⟨k, hk, e.trans e2⟩, fun i hi => by
  obtain ⟨j, hj, e⟩ := p.2 i hi
  obtain ⟨k, hk, e2⟩ := q.2 j hj
  exact ⟨k, hk, e2.trans e⟩⟩
theorem PmG.sw {i j : Nat} (hi : i < m) (hj : j < m) : PmG m h (sw h i j) := ⟨fun k hk => by
  by_cases e : k = i
  · exact ⟨j, hj, by rw [e, sw_l]⟩
  · by_cases e2 : k = j
    · exact ⟨i, hi, by rw [e2, sw_r]⟩
    · exact ⟨k, hk, sw_ne h e e2⟩, fun k hk => by
  by_cases e : k = i
  · exact ⟨j, hj, by rw [e, sw_r]⟩
  · by_cases e2 : k = j
    · exact ⟨i, hi, by rw [e2, sw_l]⟩
    · exact ⟨k, hk, sw_ne h e e2⟩⟩
theorem PmG.xg {h' : Nat → Nat} (p : PmG m h h') {g : Nat} (hx : XG v m h' g) : XG v m h g := by
  rcases hx with e | ⟨i, hi, e⟩
  · exact .inl e
  · obtain ⟨j, hj, e2⟩ := p.1 i hi
    exact .inr ⟨j, hj, by rw [← e2, e]⟩
end
end Go.Proofs.Ytdnkeplmjimjcaa
