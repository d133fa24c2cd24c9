/-
  An append onto a row of one's own, with the slice's own form handed on.
-/

import Derived.Test.YtdnkeplmjimjcaaRow
import Derived.Test.YtdnkeplmjimjcaaOut
import Derived.Deep.RegionLaw
import Derived.BigRegion
import Derived.Deep.DeepCutAuto
namespace Go.Proofs.Ytdnkeplmjimjcaa
open Go.RowKit

theorem laid_srcO (w : World) (t : TypeId) (cs : Array Value) (l : List Value) (hl : cs.toList = l) : ∀ ad, some (⟨w.heap.size, 0, none⟩ : Addr) = some ad → ∀ j u, l[j]? = some u → (w.alloc (.cells cs t)).cell? (ad.add j) = some u := fun ad e j u hj => by
  cases e
  rw [Addr.add_lit, Nat.zero_add, (blo_laid w t cs).cell, ← Array.getElem?_toList, hl, hj]
theorem wp_append_rowO {P : Program} {w : World} {ops : Array Oper} {rest : List Oper} {o : Oper} {act : Act} {Q : Exit → Act → World → Prop} (hgd : o.guard = none) (s x : Operand) (t : TypeId)
    (ho : o.op = .call { callee := .builtin .append, args := #[s, x], argTypes := #[t, t] })
    (base : Nat) (e : TypeId) (z : Value) (size bytes : Nat) (ht : P.underlying t = some (.slice e)) (hi : (P.info? e).map (fun i => (i.zero, i.size, i.bytes)) = some (some z, size, bytes)) (hzs : z.cells.size = size) (hsz : 0 < size) (hby : bytes ≤ 1000)
    (v : Value) (n : Nat) (xs : List Value) (hs : act.eval s = v) (hown : w.ownsRow base e size v n xs)
    (ao : Option Addr) (m c : Nat) (ys : List Value) (hx : act.eval x = .slice ao m c) (hl : ys.length = m * size) (hy : ∀ ad, ao = some ad → ∀ j u, ys[j]? = some u → w.cell? (ad.add j) = some u) (h1 : ∀ u ∈ ys, u.oneCell' = true) (hnone : ao = none → m = 0 ∧ c = 0)
    (hroom : n + m ≤ 1000000) (hbase : base ≤ w.heap.size)
    (h : ∀ a' cap' w', w'.ownsRow base e size (.slice a' (n + m) cap') (n + m) (xs ++ ys) → w.grownBy w' v.ownBlock → ((Value.slice a' (n + m) cap').ownBlock = v.ownBlock ∨ (Value.slice a' (n + m) cap').ownBlock = some w.heap.size) → wpList P ops Q rest (act.put o.dst (.slice a' (n + m) cap')) w') : wpList P ops Q (o :: rest) act w := by
  refine wpList_plain hgd fun K hK => ?_
  have hw : Region.wanted o (yielded ops act.tmps) = true := by simp [Region.wanted, hgd]
  have := step_append_row (P := P) (ops := ops) (Q := Q) (o := o) (a := act) (w := w) (K := K) (E := True) hgd s x t ho base e z size bytes ht hi hzs hsz hby v n xs hs hown ao m c ys hx hl hy h1 hnone hroom hbase (fun v' w' h2 h3 h4 => by
    obtain ⟨a', cap', rfl, _⟩ := own_slice h2
    exact hK _ _ (h a' cap' w' h2 h3 h4))
  rwa [if_pos hw] at this
theorem ints_src {w : World} {a : Option Addr} {l : List Int} (h : Ints w a l) : ∀ ad, a = some ad → ∀ j u, (cellsI l)[j]? = some u → w.cell? (ad.add j) = some u := fun ad ha j u hj => by
  have hl : j < l.length := by
    have := (List.getElem?_eq_some_iff.1 hj).1
    simpa [cellsI] using this
  obtain ⟨b, o, rfl, hc⟩ := h (fun e => by rw [e] at hl; cases hl)
  cases ha
  rw [Addr.add_lit, hc j hl, ← hj]
  simp [cellsI, List.getD_eq_getElem?_getD, List.getElem?_eq_getElem hl]
theorem ints_one (l : List Int) : ∀ u ∈ cellsI l, u.oneCell' = true := fun u hu => by
  unfold cellsI at hu
  obtain ⟨x, _, rfl⟩ := List.mem_map.1 hu
  rfl
end Go.Proofs.Ytdnkeplmjimjcaa
