/-
  summary.gather: the Epoch and Count of the first sector, and the words of all.
-/
import Derived.Test.YtkdjfhbdcfjnnaaSwEncM
import Derived.Test.YtkdjfhbdcfjnnaaSwTake
namespace Go.Proofs.Ytkdjfhbdcfjnnaa
open Go.RowKit

attribute [local go_sem] Oper.semAt_some

theorem opIn_append_bytes {F : Fence} {fn : Nat} {P : Program} {w : World} {o : Oper} {act : Act} {K : Act → World → Prop} {Q : Exit → Act → World → Prop} (s x : Operand) (t : TypeId)
    (ho : o.op = .call { callee := .builtin .append, args := #[s, x], argTypes := #[t, t] })
    (base : Nat) (ht : P.underlying t = some (.slice U8)) (hi : (P.info? U8).map (fun i => (i.zero, i.size, i.bytes)) = some (some (.int .u8 0), 1, 1))
    (v : Value) (n : Nat) (xs : List Nat) (hs : act.eval s = v) (hown : w.ownsRow base U8 1 v n (cellsB xs))
    (a : Option Addr) (m cap : Nat) (l : List Nat) (hx : act.eval x = .slice a m cap) (hm : m = l.length) (hl : Bytes w a l) (hne : l ≠ [])
    (hroom : n + m ≤ 140737488355328) (hbase : base ≤ w.heap.size)
    (h : ∀ v' w', w'.ownsRow base U8 1 v' (n + m) (cellsB (xs ++ l)) → w.grownBy w' v.ownBlock → K (act.put o.dst v') w') : o.wpIn F fn P act w K Q := by
  obtain ⟨i, hi0, hz, hs1, hb1⟩ := info_parts hi
  obtain ⟨b, off, rfl, hc⟩ := hl.2.2 hne
  subst hm
  obtain ⟨v', w', hrun, r1, r2, r3⟩ := run_append_own (P := P) w base t o.type U8 i (.int .u8 0) 1 1 ht hi0 hz hs1 hb1 rfl (by decide) v n (cellsB xs) hown ⟨b, off, none⟩ l.length cap (cellsB l) (by rw [cellsB_length, Nat.mul_one])
    (fun j u hj => by
      have hjl : j < l.length := by
        rcases Nat.lt_or_ge j l.length with h | h
        · exact h
        · rw [List.getElem?_eq_none (by rw [cellsB_length]; exact h)] at hj; cases hj
      rw [cellsB_get l j hjl] at hj
      cases hj
      rw [Addr.add_lit]; exact hc j hjl)
    (fun u hu => by
      simp only [cellsB, List.mem_map] at hu
      obtain ⟨_, _, rfl⟩ := hu
      rfl) (by unfold maxLen; omega) (by omega) hbase
  rw [cellsB_append] at r1
  unfold Oper.wpIn
  refine ⟨?_, ?_⟩
  · simp [Oper.about, ho, resolve, Target.leads, Sem.run_pure]
  · rw [Oper.semAt_plain F _ _ (by rw [ho]; intro c hc'; cases hc')]
    simp [execOp, ho, resolve, invoke, builtin, hs, hx, hrun, Result.andThen]
    exact h v' w' r1 r2
theorem bytes_part {w : World} {b o : Nat} {l : List Nat} (h : Bytes w (some ⟨b, o, none⟩) l) (k n : Nat) (hkn : k + n ≤ l.length) (hn : 0 < n) : Bytes w (some ⟨b, o + k, none⟩) ((l.drop k).take n) := by
  have hx := h.2.1
  refine ⟨fun x hx => h.1 x (List.mem_of_mem_drop (List.mem_of_mem_take hx)), by simp only [List.length_take, List.length_drop]; omega, fun _ => ?_⟩
  obtain ⟨b', o', e, hc⟩ := h.2.2 (fun e => by rw [e] at hkn; simp at hkn; omega)
  cases e
  refine ⟨b, o + k, rfl, fun i hi => ?_⟩
  simp only [List.length_take, List.length_drop] at hi
  rw [Nat.add_assoc, hc (k + i) (by omega)]
  simp [List.getD_eq_getElem?_getD, List.getElem?_take_of_lt (show i < n by omega)]
theorem val_2 (l : List Nat) (o : Nat) : val ((l.drop o).take 2) = v2 l o := by
  rw [show v2 l o = v2 (l.drop o) 0 by rw [v2_drop]; rfl]
  rcases l.drop o with _ | ⟨a, _ | ⟨b, t⟩⟩ <;> simp [val, v2, at']
theorem val_1 (l : List Nat) (o : Nat) : val ((l.drop o).take 1) = at' l o := by
  rw [show at' l o = at' (l.drop o) 0 by rw [at_drop]; rfl]
  rcases l.drop o with _ | ⟨a, t⟩ <;> simp [val, at']
theorem val_4 (l : List Nat) (o : Nat) : val ((l.drop o).take 4) = at' l o + 256 * at' l (o + 1) + 65536 * at' l (o + 2) + 16777216 * at' l (o + 3) := by
  have e : ∀ j, at' l (o + j) = at' (l.drop o) j := fun j => (at_drop l o j).symm
  rw [e 1, e 2, e 3, show at' l o = at' (l.drop o) 0 from e 0]
  rcases l.drop o with _ | ⟨a, _ | ⟨b, _ | ⟨c, _ | ⟨d, t⟩⟩⟩⟩ <;> simp [val, at'] <;> omega
def gatL (l ys : List Nat) : List Nat := ys.flatMap fun k => (l.drop (16 * k + 5)).take 11
theorem gatL_snoc (l ys : List Nat) (x : Nat) : gatL l (ys ++ [x]) = gatL l ys ++ (l.drop (16 * x + 5)).take 11 := by simp [gatL]
theorem gatL_range (l : List Nat) (n : Nat) : gatL l (List.range n) = gat l n := rfl
theorem gatL_len {l : List Nat} (hl : l.length = 128) : ∀ ys : List (Fin 8), (gatL l (ys.map fun (y : Fin 8) => y.val)).length = 11 * ys.length
  | [] => rfl
  | y :: ys => by
    have := gatL_len hl ys
    show ((l.drop (16 * y.val + 5)).take 11 ++ gatL l (ys.map fun (y : Fin 8) => y.val)).length = _
    have hy := y.2
    rw [List.length_append, this, List.length_take, List.length_drop, hl, List.length_cons]
    omega
/-- The box of the words' slice, and the words. -/
structure Gr (w : World) (s B : Nat) (n : Nat) (xs : List Nat) (wr : World) : Prop where
  row : ∃ v, Blo wr B 30 #[v] ∧ wr.ownsRow s U8 1 v n (cellsB xs)
  below : Below w.heap.size w wr
  le : w.heap.size ≤ B
  hs : B + 2 < s
end Go.Proofs.Ytkdjfhbdcfjnnaa
