/-
  Small laws of walks over any program: a slice of bytes that is read, told by a list of numbers; its text; bytes put behind what the call owns.
-/
import Derived.WalkKit
import Derived.WalkSpells
import Derived.WalkLawsBesides
import Derived.Laws.BitsAllLaws
import Derived.Laws.BytesArg
import Derived.Lib.BufferRead
import Derived.Lib.SmallJoins
import Derived.Laws.AppendOwnNone
import Derived.IntWalk
import Derived.Lib.Hide
import Derived.Lib.SlBytesConst
import Derived.Below
import Derived.OpenShut
import Derived.WalkSmall
namespace Go.Proofs.Ytdnkeplmjimjcaa
open Go.RowKit

/-- What a slice of bytes that is read holds: bytes; and where there are any, cells. -/
def Bytes (w : World) (a : Option Addr) (l : List Nat) : Prop :=
  (∀ x ∈ l, x < 256) ∧ l.length ≤ 9223372036854775807 ∧ (l ≠ [] → ∃ b o, a = some ⟨b, o, none⟩ ∧ ∀ i, i < l.length → w.cell? ⟨b, o + i, none⟩ = some (.int .u8 (l.getD i 0 : Nat)))
theorem getD_byte {l : List Nat} (h : ∀ x ∈ l, x < 256) (k : Nat) : l.getD k 0 < 256 := by
  rw [List.getD_eq_getElem?_getD]
  by_cases hk : k < l.length
  · rw [List.getElem?_eq_getElem hk]; exact h _ (List.getElem_mem hk)
  · rw [List.getElem?_eq_none (by omega)]; decide
theorem Bytes.none (w : World) (a : Option Addr) : Bytes w a [] := ⟨(fun _ h => by cases h), by decide, fun h => absurd rfl h⟩
theorem Bytes.below {w w' : World} {a : Option Addr} {l : List Nat} (h : Bytes w a l) (hb : Below w.heap.size w w') : Bytes w' a l :=
  ⟨h.1, h.2.1, fun hl => by
    obtain ⟨b, o, ha, hc⟩ := h.2.2 hl
    exact ⟨b, o, ha, fun i hi => cell_later hb (hc i hi)⟩⟩
/-- A row of bytes that was just laid. -/
theorem Bytes.laid (w : World) (l : List Nat) (C : Array Value) (t : TypeId) (fr : Nat × Nat) (h1 : ∀ x ∈ l, x < 256) (h2 : l.length ≤ 9223372036854775807)
    (hC : ∀ i, i < l.length → C[i]? = some (.int .u8 (l.getD i 0 : Nat))) : Bytes (w.alloc (.cells C t fr)) (some ⟨w.heap.size, 0, Option.none⟩) l :=
  ⟨h1, h2, fun _ => ⟨w.heap.size, 0, rfl, fun i hi => by rw [World.cell?_alloc_mark, Nat.zero_add, hC i hi]⟩⟩

/-- The text of bytes. -/
def strOf (l : List Nat) : ByteArray := strOfNums (l.map fun (x : Nat) => (x : Int))
theorem strOf_toList (l : List Nat) : (strOf l).data.toList = l.map UInt8.ofNat := by
  unfold strOf strOfNums
  simp [List.map_map, Function.comp_def]
theorem strOf_inj {l m : List Nat} (hl : ∀ x ∈ l, x < 256) (hm : ∀ x ∈ m, x < 256) (h : strOf l = strOf m) : l = m := by
  have e : l.map UInt8.ofNat = m.map UInt8.ofNat := by rw [← strOf_toList, ← strOf_toList, h]
  have e2 : ∀ k : List Nat, (∀ x ∈ k, x < 256) → (k.map UInt8.ofNat).map UInt8.toNat = k := by
    intro k hk
    rw [List.map_map]
    conv => rhs; rw [← List.map_id k]
    apply List.map_congr_left
    intro x hx
    simp only [Function.comp_apply, id_eq, UInt8.toNat_ofNat']
    exact Nat.mod_eq_of_lt (hk x hx)
  rw [← e2 l hl, ← e2 m hm, e]

theorem run_str {P : Program} (w : World) (T S e : TypeId) (hs : P.underlying T = some (.slice e)) (he : P.underlying e = some (.int .u8)) (hd : P.underlying S = some .string)
    (l : List Nat) (a : Option Addr) (n cap : Nat) (hn : n = l.length) (h : Bytes w a l) : (convert T S (.slice a n cap)).run P w = .ok (.string (strOf l)) w := by
  subst hn
  by_cases hl : l = []
  · subst hl
    have e0 : strOf [] = ⟨#[]⟩ := rfl
    rw [e0]
    cases a with
    | none => exact Lib.run_convert_nil_bytes w T S e cap hs he hd
    | some x =>
      rw [run_convert_bytes_string w T S e (some x) _ cap hs he hd, run_bytesToString w x _ cap [] rfl]
      rfl
  · obtain ⟨b, o, rfl, hc⟩ := h.2.2 hl
    exact run_convert_bytes_arg w T e hs he b o l.length cap (l.map fun (x : Nat) => (x : Int)) (by simp) (fun i hi => by
      rw [hc i hi]
      simp [List.getD_eq_getElem?_getD, List.getElem?_map, List.getElem?_eq_getElem hi]) S hd

/-- The cells of bytes. -/
def cellsB (l : List Nat) : List Value := l.map fun (x : Nat) => Value.int .u8 (x : Int)
theorem cellsB_length (l : List Nat) : (cellsB l).length = l.length := by simp [cellsB]
theorem cellsB_get (l : List Nat) (i : Nat) (hi : i < l.length) : (cellsB l)[i]? = some (.int .u8 (l.getD i 0 : Nat)) := by
  simp [cellsB, List.getD_eq_getElem?_getD, List.getElem?_eq_getElem hi]
theorem cellsB_append (l m : List Nat) : cellsB l ++ cellsB m = cellsB (l ++ m) := by simp [cellsB]
theorem cellsB_inj {l m : List Nat} (h : cellsB l = cellsB m) : l = m := by
  have := congrArg (List.map fun v => match v with | Value.int _ n => n.toNat | _ => 0) h
  simpa [cellsB, List.map_map, Function.comp_def] using this

/-- What the call owns, read as bytes. -/
theorem Bytes.own {w : World} {base : Nat} {e : TypeId} {v : Value} {n : Nat} {l : List Nat} (h : w.ownsRow base e 1 v n (cellsB l)) (h1 : ∀ x ∈ l, x < 256) :
    ∃ a cap, v = .slice a n cap ∧ n = l.length ∧ Bytes w a l ∧ (a = Option.none → l = [] ∧ cap = 0) := by
  have hlen : n = l.length := by have := h.1; rw [cellsB_length, Nat.mul_one] at this; exact this.symm
  obtain ⟨_, ⟨rfl, h0⟩ | ⟨g, cap, cur, rfl, hg, hh, hc1, hc2, hs, ht⟩⟩ := id h
  · have : l = [] := List.eq_nil_of_length_eq_zero (by omega)
    subst this
    exact ⟨Option.none, 0, by rw [h0], hlen, Bytes.none _ _, fun _ => ⟨rfl, rfl⟩⟩
  · refine ⟨some ⟨g, 0, Option.none⟩, cap, rfl, hlen, ⟨h1, by unfold maxLen at hc2; omega, fun _ => ⟨g, 0, rfl, fun i hi => ?_⟩⟩, fun h => by cases h⟩
    rw [Nat.zero_add, h.cellAt i (by omega), cellsB_get l i hi]

/-- 'append(own, bytes...)'. -/
theorem wp_append_bytes {P : Program} {w : World} {ops : Array Oper} {rest : List Oper} {o : Oper} {act : Act} {Q : Exit → Act → World → Prop} (hgd : o.guard = none) (s x : Operand) (t : TypeId)
    (ho : o.op = .call { callee := .builtin .append, args := #[s, x], argTypes := #[t, t] })
    (base : Nat) (e : TypeId) (ht : P.underlying t = some (.slice e)) (hi : (P.info? e).map (fun i => (i.zero, i.size, i.bytes)) = some (some (.int .u8 0), 1, 1))
    (v : Value) (n : Nat) (xs : List Nat) (hs : act.eval s = v) (hown : w.ownsRow base e 1 v n (cellsB xs)) (hxs : ∀ y ∈ xs, y < 256)
    (a : Option Addr) (m cap : Nat) (l : List Nat) (hx : act.eval x = .slice a m cap) (hm : m = l.length) (hl : Bytes w a l) (ha : a = none → l = [] ∧ cap = 0)
    (hroom : n + m ≤ 140737488355328) (hbase : base ≤ w.heap.size)
    (h : ∀ a' cap' w', w'.ownsRow base e 1 (.slice a' (n + m) cap') (n + m) (cellsB (xs ++ l)) → w.grownBy w' v.ownBlock → Bytes w' a' (xs ++ l) → n + m = (xs ++ l).length →
      wpList P ops Q rest (act.put o.dst (.slice a' (n + m) cap')) w') : wpList P ops Q (o :: rest) act w := by
  obtain ⟨i, hi0, hz, hs1, hb1⟩ := info_parts hi
  subst hm
  have hbytes : ∀ y ∈ xs ++ l, y < 256 := fun y hy => by
    rcases List.mem_append.1 hy with h | h
    · exact hxs y h
    · exact hl.1 y h
  have fin : ∀ v' w', w'.ownsRow base e 1 v' (n + l.length) (cellsB (xs ++ l)) → w.grownBy w' v.ownBlock → wpList P ops Q rest (act.put o.dst v') w' := by
    intro v' w' h1 h2
    obtain ⟨a', cap', rfl, hn, hB, _⟩ := Bytes.own h1 hbytes
    exact h a' cap' w' h1 h2 hB hn
  cases a with
  | none =>
    obtain ⟨rfl, rfl⟩ := ha rfl
    refine wpList_append_own_none hgd s x t ho base e i 1 ht hi0 v n (cellsB xs) hs hown hx ?_
    have := fin v w (by simpa using hown) ⟨rfl, rfl, rfl, Nat.le_refl _, fun _ _ _ => rfl⟩
    exact this
  | some ad =>
    refine wpList_append_own w hgd s x t ho base e i (.int .u8 0) 1 1 ht hi0 hz hs1 hb1 rfl (by decide) v n (cellsB xs) hs hown ad l.length cap (cellsB l) hx (by rw [cellsB_length, Nat.mul_one]) ?_ ?_ (by unfold maxLen; omega) (by omega) hbase ?_
    · intro j u hj
      have hjl : j < l.length := by
        rcases Nat.lt_or_ge j l.length with h | h
        · exact h
        · rw [List.getElem?_eq_none (by rw [cellsB_length]; exact h)] at hj; cases hj
      have hne : l ≠ [] := fun h => by subst h; simp at hjl
      obtain ⟨b, off, he, hc⟩ := hl.2.2 hne
      cases he
      rw [cellsB_get l j hjl] at hj
      cases hj
      rw [Addr.add_lit]; exact hc j hjl
    · intro u hu
      simp only [cellsB, List.mem_map] at hu
      obtain ⟨_, _, rfl⟩ := hu
      rfl
    · intro v' w' h1 h2 _
      rw [cellsB_append] at h1
      exact fin v' w' h1 h2

/-- What the walk is told of a slice of integers that came in. -/
def IsRow (k : IntKind) (w : World) (a : Option Addr) (len cap : Nat) (zs : List Int) : Prop :=
  (a = none ∧ len = 0 ∧ cap = 0 ∧ zs = []) ∨
  ∃ x, a = some x ∧ len ≤ cap ∧ cap ≤ maxLen ∧ zs.length = cap ∧ (∀ i, i < zs.length → w.cell? (x.add i) = some (.int k (zs.getD i 0))) ∧ ∀ n ∈ zs, (Lit.int k n).wf = true
theorem IsRow.bytes {w : World} {a : Option Addr} {len cap : Nat} {zs : List Int} (h : IsRow .u8 w a len cap zs) :
    ∃ l : List Nat, len = l.length ∧ Bytes w a l ∧ (a = none → l = [] ∧ cap = 0) ∧ len ≤ 9223372036854775807 ∧ len ≤ cap := by
  rcases h with ⟨rfl, rfl, rfl, rfl⟩ | ⟨x, rfl, h1, h2, h3, h4, h5⟩
  · exact ⟨[], rfl, Bytes.none _ _, fun _ => ⟨rfl, rfl⟩, by decide, by decide⟩
  · have hm : (maxLen : Nat) = 9223372036854775807 := by decide
    have hb : ∀ n ∈ zs, 0 ≤ n ∧ n < 256 := fun n hn => by
      have := h5 n hn
      have := Go.bounds_u8 this
      omega
    refine ⟨(zs.take len).map Int.toNat, by simp; omega, ⟨?_, by simp; omega, ?_⟩, (fun h => by cases h), by omega, h1⟩
    · intro y hy
      obtain ⟨n, hn, rfl⟩ := List.mem_map.1 hy
      have := hb n (List.mem_of_mem_take hn)
      omega
    · intro hne
      have hlen : 0 < len := by
        rcases Nat.eq_zero_or_pos len with h | h
        · subst h; simp at hne
        · exact h
      obtain ⟨b, off, rfl, hc⟩ := Go.ints_at h4 (by omega)
      refine ⟨b, off, rfl, fun i hi => ?_⟩
      simp at hi
      rw [hc i (by omega)]
      have hiz : i < zs.length := by omega
      have hil : i < len := by omega
      have hg : zs.getD i 0 = zs[i] := by rw [List.getD_eq_getElem?_getD, List.getElem?_eq_getElem hiz]; rfl
      have hp := (hb zs[i] (List.getElem_mem hiz)).1
      rw [hg, List.getD_eq_getElem?_getD, List.getElem?_map, List.getElem?_take_of_lt hil, List.getElem?_eq_getElem hiz]
      simp [Int.toNat_of_nonneg hp]

/-- 's[:k]' of bytes. -/
theorem slice_head {P : Program} (T e : TypeId) (ht : P.underlying T = some (.slice e)) (hz : ∀ w, (Go.sizeOf e).run P w = .ok 1 w) {w : World} {a : Option Addr} {l : List Nat} {n cap : Nat} (hn : n = l.length)
    (h : Bytes w a l) (ha : a = none → l = [] ∧ cap = 0) (hc : n ≤ cap) (k : Nat) (hk : k ≤ n) :
    ∃ a', (∀ W, (Instr.slice T (.slice a n cap) none (some (.int .i64 (k : Int))) none).run P W = .ok (.slice a' k cap) W) ∧ Bytes w a' (l.take k) ∧ (a' = none → l.take k = [] ∧ cap = 0) := by
  have ht' : P.underlying T = some (.slice (P.elem T)) := by simp [Program.elem, ht]
  have he : P.elem T = e := by simp [Program.elem, ht]
  refine ⟨if cap = 0 then a else a.map (·.add (0 * 1)), fun W => ?_, ?_, ?_⟩
  · rw [run_slice_h W T _ _ _ ht' .i64 _ (by omega) (by omega), he, hz]
    simp [Result.andThen, sliced]
  · refine ⟨fun x hx => h.1 x (List.mem_of_mem_take hx), by have := h.2.1; simp; omega, fun hne => ?_⟩
    have hl : l ≠ [] := fun e => by subst e; simp at hne
    obtain ⟨b, o, rfl, hcell⟩ := h.2.2 hl
    have hlen : 0 < l.length := List.length_pos_iff.2 hl
    rw [if_neg (by omega)]
    refine ⟨b, o, by simp [Addr.add_lit], fun i hi => ?_⟩
    simp only [List.length_take] at hi
    rw [hcell i (by omega), List.getD_eq_getElem?_getD, List.getD_eq_getElem?_getD, List.getElem?_take_of_lt (by omega)]
  · intro hn'
    cases a with
    | none => obtain ⟨rfl, h0⟩ := ha rfl; exact ⟨by simp, h0⟩
    | some x => split at hn' <;> simp at hn'

/-- 's[k:]' of bytes. -/
theorem slice_tail {P : Program} (T e : TypeId) (ht : P.underlying T = some (.slice e)) (hz : ∀ w, (Go.sizeOf e).run P w = .ok 1 w) {w : World} {a : Option Addr} {l : List Nat} {n cap : Nat} (hn : n = l.length)
    (h : Bytes w a l) (ha : a = none → l = [] ∧ cap = 0) (hc : n ≤ cap) (k : Nat) (hk : k ≤ n) :
    ∃ a', (∀ W, (Instr.slice T (.slice a n cap) (some (.int .i64 (k : Int))) none none).run P W = .ok (.slice a' (n - k) (cap - k)) W) ∧ Bytes w a' (l.drop k) ∧ (a' = none → l.drop k = [] ∧ cap - k = 0) := by
  have ht' : P.underlying T = some (.slice (P.elem T)) := by simp [Program.elem, ht]
  have he : P.elem T = e := by simp [Program.elem, ht]
  refine ⟨if cap = k then a else a.map (·.add (k * 1)), fun W => ?_, ?_, ?_⟩
  · rw [run_slice_l W T _ _ _ ht' .i64 _ (by omega) (by omega), he, hz]
    simp [Result.andThen, sliced]
  · refine ⟨fun x hx => h.1 x (List.mem_of_mem_drop hx), by have := h.2.1; simp; omega, fun hne => ?_⟩
    have hlen : k < l.length := by
      rcases Nat.lt_or_ge k l.length with hh | hh
      · exact hh
      · exact absurd (List.drop_eq_nil_of_le hh) hne
    have hl : l ≠ [] := fun e => by subst e; simp at hlen
    obtain ⟨b, o, rfl, hcell⟩ := h.2.2 hl
    rw [if_neg (by omega)]
    refine ⟨b, o + k, by simp [Addr.add_lit], fun i hi => ?_⟩
    simp only [List.length_drop] at hi
    rw [Nat.add_assoc, hcell (k + i) (by omega), List.getD_eq_getElem?_getD, List.getD_eq_getElem?_getD, List.getElem?_drop]
  · intro hn'
    cases a with
    | none => obtain ⟨rfl, h0⟩ := ha rfl; exact ⟨by simp, by omega⟩
    | some x => split at hn' <;> simp at hn'
theorem flip_same {P : Program} {f : FuncId} {args : Array Value} {w : World} {v : Value} (h : Calls P f args w fun e w' => e = .returned v ∧ w = w') : Calls P f args w fun e w' => e = .returned v ∧ w' = w :=
  h.mono fun _ _ ⟨h1, h2⟩ => ⟨h1, h2.symm⟩
theorem Bytes.drewN {w : World} {a : Option Addr} {l : List Nat} (h : Bytes w a l) (q : Nat) : Bytes (w.drewN q) a l :=
  ⟨h.1, h.2.1, fun hl => by
    obtain ⟨b, o, ha, hc⟩ := h.2.2 hl
    exact ⟨b, o, ha, fun i hi => by rw [World.cell?_drewN]; exact hc i hi⟩⟩
/-- 'int(uint(x) % uint(n + 1))'. -/
theorem cut_mod (x : Int) (n : Nat) (hn : n < 4611686018427387904) : ∃ k : Nat, k ≤ n ∧ wrap64 ((IntKind.u64.wrap x).tmod ((n : Int) + 1)) = (k : Int) := by
  have h0 : 0 ≤ IntKind.u64.wrap x := by rw [IntKind.wrap_u64]; omega
  rw [Int.tmod_eq_emod_of_nonneg h0]
  generalize IntKind.u64.wrap x = y at *
  refine ⟨(y % ((n : Int) + 1)).toNat, ?_, ?_⟩
  · have := Int.emod_lt_of_pos y (show (0 : Int) < (n : Int) + 1 by omega)
    have := Int.emod_nonneg y (show ((n : Int) + 1) ≠ 0 by omega)
    omega
  · have h1 := Int.emod_lt_of_pos y (show (0 : Int) < (n : Int) + 1 by omega)
    have h2 := Int.emod_nonneg y (show ((n : Int) + 1) ≠ 0 by omega)
    rw [IntWalk.wrap64_in _ (by omega)]
    omega
theorem str_ne {l m : List Nat} (hl : ∀ x ∈ l, x < 256) (hm : ∀ x ∈ m, x < 256) (h : l ≠ m) : ((strOf l).toList == (strOf m).toList) = false := by
  rw [ByteArray.toList_eq, ByteArray.toList_eq]
  apply beq_false_of_ne
  intro e
  exact h (strOf_inj hl hm (ByteArray.ext (Array.toList_inj.mp e)))
/-- 's[0:k:k]' of bytes. -/
theorem slice_full {P : Program} (T e : TypeId) (ht : P.underlying T = some (.slice e)) (hz : ∀ w, (Go.sizeOf e).run P w = .ok 1 w) {w : World} {a : Option Addr} {l : List Nat} {n cap : Nat} (hn : n = l.length)
    (h : Bytes w a l) (hc : n ≤ cap) (k : Nat) (hk : k ≤ n) :
    ∃ a', (∀ W, (Instr.slice T (.slice a n cap) (some (.int .i64 0)) (some (.int .i64 (k : Int))) (some (.int .i64 (k : Int)))).run P W = .ok (.slice a' k k) W) ∧ Bytes w a' (l.take k) := by
  have ht' : P.underlying T = some (.slice (P.elem T)) := by simp [Program.elem, ht]
  have he : P.elem T = e := by simp [Program.elem, ht]
  refine ⟨if k = 0 then a else a.map (·.add (0 * 1)), fun W => ?_, ?_⟩
  · rw [run_slice_lhm W T _ _ _ ht' .i64 .i64 .i64 _ _ _ (by omega) (by omega) (by omega) (by omega), he, hz]
    simp [Result.andThen, sliced]
  · refine ⟨fun x hx => h.1 x (List.mem_of_mem_take hx), by have := h.2.1; simp; omega, fun hne => ?_⟩
    have hl : l ≠ [] := fun e => by subst e; simp at hne
    have hk0 : k ≠ 0 := fun e => by subst e; simp at hne
    obtain ⟨b, o, rfl, hcell⟩ := h.2.2 hl
    rw [if_neg hk0]
    refine ⟨b, o, by simp [Addr.add_lit], fun i hi => ?_⟩
    simp only [List.length_take] at hi
    rw [hcell i (by omega), List.getD_eq_getElem?_getD, List.getD_eq_getElem?_getD, List.getElem?_take_of_lt (by omega)]
end Go.Proofs.Ytdnkeplmjimjcaa
