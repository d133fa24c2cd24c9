/-
  What lies in memory while summary.Encode goes over the chunks.
-/
import Derived.Test.YtkdjfhbdcfjnnaaSwChunk
import Derived.Test.YtkdjfhbdcfjnnaaSwWords
namespace Go.Proofs.Ytkdjfhbdcfjnnaa
open Go.RowKit

def accM (e c : Int) (w ys : List Nat) : List Nat := (List.range ys.length).flatMap fun k => num 2 e.toNat ++ num 2 c.toNat ++ num 1 k ++ (w.drop (11 * ys.getD k 0)).take 11
theorem accM_snoc (e c : Int) (w ys : List Nat) (x : Nat) : accM e c w (ys ++ [x]) = accM e c w ys ++ num 2 e.toNat ++ num 2 c.toNat ++ num 1 ys.length ++ (w.drop (11 * x)).take 11 := by
  unfold accM
  rw [List.length_append, List.length_singleton, List.range_succ, List.flatMap_append, List.flatMap_singleton]
  have e1 : (ys ++ [x]).getD ys.length 0 = x := by simp [List.getD_eq_getElem?_getD]
  rw [e1]
  simp only [← List.append_assoc]
  congr 4
  refine congrArg List.flatten (List.map_congr_left fun k hk => ?_)
  have : k < ys.length := List.mem_range.1 hk
  have e2 : (ys ++ [x]).getD k 0 = ys.getD k 0 := by simp [List.getD_eq_getElem?_getD, List.getElem?_append_left this]
  rw [e2]
theorem accM_range (e c : Int) (w : List Nat) (n : Nat) : accM e c w (List.range n) = secs e c w n := by
  unfold accM secs
  rw [List.length_range]
  refine congrArg List.flatten (List.map_congr_left fun k hk => ?_)
  have : k < n := List.mem_range.1 hk
  have e2 : (List.range n).getD k 0 = k := by simp [List.getD_eq_getElem?_getD, this]
  rw [e2]
  rfl
theorem accM_len (e c : Int) {w : List Nat} (hw : w.length = 88) (ys : List (Fin 8)) : (accM e c w (ys.map (·.val))).length = 16 * ys.length := by
  have : ∀ n, n ≤ ys.length → (accM e c w ((ys.take n).map (·.val))).length = 16 * n := by
    intro n
    induction n with
    | zero => intro _; rfl
    | succ n ih =>
      intro hn
      rw [List.take_add_one, List.getElem?_eq_getElem (by omega)]
      rw [Option.toList_some, List.map_append, List.map_singleton, accM_snoc]
      simp only [List.length_append, num_len, ih (by omega), List.length_take, List.length_drop, hw]
      have := (ys[n]).2
      omega
  have := this ys.length (Nat.le_refl _)
  rwa [List.take_of_length_le (Nat.le_refl _)] at this
/-- The part, the row of the answer, the box of its slice, the place, the words. -/
structure Er (w : World) (cs : Array Value) (g : Nat) (bv pv : Value) (xs : List Nat) (bw : Nat) (ws : List Nat) (wr : World) : Prop where
  top : Blo wr w.heap.size 25 cs
  fil : Fil wr g 128 xs
  bx : Blo wr (g + 1) 30 #[bv]
  pl : Blo wr (g + 2) 3 #[pv]
  wd : Fil wr bw 88 ws
  below : Below w.heap.size w wr
  l1 : w.heap.size < g
  l2 : g + 2 < bw
section
variable {w wr w' : World} {cs : Array Value} {g bw : Nat} {bv pv : Value} {xs ys ws : List Nat}
theorem Er.later (h : Er w cs g bv pv xs bw ws wr) (hb : Below wr.heap.size wr w') : Er w cs g bv pv xs bw ws w' :=
  ⟨h.top.later hb, h.fil.later hb, h.bx.later hb, h.pl.later hb, h.wd.later hb, h.below.trans (hb.mono h.below.size), h.l1, h.l2⟩
theorem Er.fill (h : Er w cs g bv pv xs bw ws wr) (hf : Fil w' g 128 ys) (hg : wr.grownBy w' (some g)) : Er w cs g bv pv ys bw ws w' := by
  have h1 := h.l1
  have h2 := h.l2
  have n1 : ∀ k, k ≠ g → some k ≠ some g := fun k hk e => hk (by cases e; rfl)
  exact ⟨h.top.grown hg (n1 _ (by omega)), hf, h.bx.grown hg (n1 _ (by omega)), h.pl.grown hg (n1 _ (by omega)), h.wd.grown hg (n1 _ (by omega)), h.below.grown hg h.below.size (fun k e => by cases e; omega), h1, h2⟩
theorem Er.box (h : Er w cs g bv pv xs bw ws wr) (u : Value) : Er w cs g u pv xs bw ws (wr.setCell ⟨g + 1, 0, none⟩ u) := by
  have h1 := h.l1
  have h2 := h.l2
  exact ⟨h.top.far (by show _ ≠ g + 1; omega) u, ⟨h.fil.len, h.fil.lt, h.fil.blo.far (by show _ ≠ g + 1; omega) u⟩, h.bx.put 0 u, h.pl.far (by show _ ≠ g + 1; omega) u, ⟨h.wd.len, h.wd.lt, h.wd.blo.far (by show _ ≠ g + 1; omega) u⟩, h.below.setCell (p := ⟨g + 1, 0, none⟩) (by show _ ≤ g + 1; omega) u, h1, h2⟩
theorem Er.plc (h : Er w cs g bv pv xs bw ws wr) (u : Value) : Er w cs g bv u xs bw ws (wr.setCell ⟨g + 2, 0, none⟩ u) := by
  have h1 := h.l1
  have h2 := h.l2
  exact ⟨h.top.far (by show _ ≠ g + 2; omega) u, ⟨h.fil.len, h.fil.lt, h.fil.blo.far (by show _ ≠ g + 2; omega) u⟩, h.bx.far (by show _ ≠ g + 2; omega) u, h.pl.put 0 u, ⟨h.wd.len, h.wd.lt, h.wd.blo.far (by show _ ≠ g + 2; omega) u⟩, h.below.setCell (p := ⟨g + 2, 0, none⟩) (by show _ ≤ g + 2; omega) u, h1, h2⟩
end
theorem blo_own {s : Nat} {t : TypeId} {cs : Array Value} {A B : World} {row : Option Nat} (h : Blo A s t cs) (hg : A.grownBy B row) (hr : ∀ r, row = some r → ∃ o : Obj, A.heap[r]? = some o ∧ o.isCells = false) : Blo B s t cs :=
  (grownBy_keeps_cells hg hr h rfl).trans h
theorem fil_own {s c : Nat} {xs : List Nat} {A B : World} {row : Option Nat} (h : Fil A s c xs) (hg : A.grownBy B row) (hr : ∀ r, row = some r → ∃ o : Obj, A.heap[r]? = some o ∧ o.isCells = false) : Fil B s c xs :=
  ⟨h.len, h.lt, blo_own h.blo hg hr⟩
theorem er_own {w A B : World} {cs : Array Value} {g bw s : Nat} {bv pv : Value} {xs ws : List Nat} {row : Option Nat} (hB : w.heap.size ≤ s) (h : Er w cs g bv pv xs bw ws A) (hg : A.grownBy B row) (hr : ∀ r, row = some r → s ≤ r ∧ ∃ o : Obj, A.heap[r]? = some o ∧ o.isCells = false) : Er w cs g bv pv xs bw ws B :=
  have hr' := fun r e => (hr r e).2
  ⟨blo_own h.top hg hr', fil_own h.fil hg hr', blo_own h.bx hg hr', blo_own h.pl hg hr', fil_own h.wd hg hr', h.below.grown hg h.below.size (fun k e => Nat.le_trans hB (hr k e).1), h.l1, h.l2⟩
theorem fil_part {w : World} {g c : Nat} {xs : List Nat} (h : Fil w g c xs) (hc : c ≤ 1000000) (o n : Nat) (hon : o + n ≤ c) : Bytes w (some ⟨g, o, none⟩) (((zpad c xs).drop o).take n) := by
  have hl := zpad_len h.len
  refine ⟨fun x hx => zpad_lt h.lt x (List.mem_of_mem_drop (List.mem_of_mem_take hx)), by simp only [List.length_take]; omega, fun _ => ⟨g, o, rfl, fun i hi => ?_⟩⟩
  simp only [List.length_take, List.length_drop] at hi
  rw [h.blo.cell, ← Array.getElem?_toList]
  have := cellsB_get (zpad c xs) (o + i) (by omega)
  show (cellsB (zpad c xs))[o + i]? = _
  rw [this]
  simp [List.getD_eq_getElem?_getD, List.getElem?_take_of_lt (show i < n by omega)]
/-- What a step of a round keeps: all that is no cells; the iterator's two blocks. -/
def Kr (B : Nat) (W W' : World) : Prop := KeepsOthers W W' ∧ Kc B W W'
theorem Kr.refl (B : Nat) (W : World) : Kr B W W := ⟨KeepsOthers.refl _, Kc.refl _ _⟩
theorem Kr.trans {B : Nat} {x y z : World} (h : Kr B x y) (k : Kr B y z) : Kr B x z := ⟨h.1.trans k.1, h.2.trans k.2⟩
theorem Kr.fill {B g c : Nat} {xs : List Nat} {W W' : World} (hB : g < B) (hl : B + 1 < W.heap.size) (hf : Fil W g c xs) (hg : W.grownBy W' (some g)) : Kr B W W' :=
  ⟨KeepsOthers.of_grownBy hg (fun j o e ho => by cases e; have := hf.blo; unfold Blo at this; rw [this] at ho; cases ho; rfl), hg.block _ (by omega) (by simp; omega), hg.block _ hl (by simp; omega)⟩
theorem Kr.set {B k : Nat} (hB : k < B) (W : World) (u : Value) : Kr B W (W.setCell ⟨k, 0, none⟩ u) :=
  ⟨KeepsOthers.setCell _ _ _, Below.heap_setCell W _ u _ (by show _ ≠ k; omega), Below.heap_setCell W _ u _ (by show _ ≠ k; omega)⟩
theorem wpListIn_append_fil {F : Fence} {fn : Nat} {P : Program} {w : World} {ops : Array Oper} {rest : List Oper} {o : Oper} {act : Act} {Q : Exit → Act → World → Prop} (hgd : o.guard = none) (s x : Operand) (t : TypeId)
    (ho : o.op = .call { callee := .builtin .append, args := #[s, x], argTypes := #[t, t] })
    (ht : P.underlying t = some (.slice U8)) (hi : (P.info? U8).map (fun i => (i.zero, i.size, i.bytes)) = some (some (.int .u8 0), 1, 1))
    (g c n : Nat) (xs : List Nat) (hs : act.eval s = .slice (some ⟨g, 0, none⟩) n c) (hn : n = xs.length) (hF : Fil w g c xs)
    (a : Option Addr) (m cap : Nat) (l : List Nat) (hx : act.eval x = .slice a m cap) (hm : m = l.length) (hl : Bytes w a l) (hne : l ≠ []) (hroom : n + m ≤ c)
    (h : ∀ w', Fil w' g c (xs ++ l) → w.grownBy w' (some g) → wpListIn F fn P ops Q rest (act.put o.dst (.slice (some ⟨g, 0, none⟩) (n + m) c)) w') : wpListIn F fn P ops Q (o :: rest) act w := by
  refine wpListIn_plain hgd fun K hK => ?_
  obtain ⟨W', hrun, hF', hg'⟩ := run_append_fil (P := P) o.type t ht hi g c n xs hn hF a m cap l hm hl hne hroom
  unfold Oper.wpIn
  refine ⟨?_, ?_⟩
  · simp [Oper.about, ho, resolve, Target.leads, Sem.run_pure]
  · rw [Oper.semAt_plain F _ _ (by rw [ho]; intro c hc'; cases hc')]
    simp [execOp, ho, resolve, invoke, builtin, hs, hx, hrun, Result.andThen]
    exact hK _ _ (h W' hF' hg')
end Go.Proofs.Ytkdjfhbdcfjnnaa
