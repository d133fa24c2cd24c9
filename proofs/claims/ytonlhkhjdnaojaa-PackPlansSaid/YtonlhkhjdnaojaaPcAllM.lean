/-
  PackAll: the lists in memory.
-/
import Derived.Test.YtonlhkhjdnaojaaPcFlat
import Derived.Test.YtonlhkhjdnaojaaPcTwice
import Derived.DeepKeys
namespace Go.Proofs.Ytonlhkhjdnaojaa
open Go.RowKit

abbrev A3 := 48
theorem info_a3 : (Try.prog.info? A3).map (fun i => (i.zero, i.size, i.bytes)) = some (some (.agg #[.int .i64 0, .int .i64 0, .int .i64 0]), 3, 24) := by kernel_rfl
def cell3 (I V : Nat → Int) (x : It) : List Value := [.int .i64 (I x.f), .int .i64 (V x.f), .int .i64 x.n]
def rowI (I V : Nat → Int) (B : List It) : List Value := B.flatMap (cell3 I V)
theorem rowI_snoc (I V : Nat → Int) (B : List It) (x : It) : rowI I V B ++ cell3 I V x = rowI I V (B ++ [x]) := by simp [rowI]
theorem rowI_len (I V : Nat → Int) (B : List It) : (rowI I V B).length = B.length * 3 := by
  induction B with
  | nil => rfl
  | cons x B ih => rw [rowI, List.flatMap_cons, List.length_append]; simp only [rowI] at ih; rw [ih]; simp [cell3]; omega
theorem rowI_get (I V : Nat → Int) : ∀ (B : List It) (i : Nat) (x : It), B[i]? = some x → ∀ j u, (cell3 I V x)[j]? = some u → (rowI I V B)[i * 3 + j]? = some u
  | [], i, x, h, _, _, _ => by simp at h
  | y :: B, 0, x, h, j, u, hj => by
    have : y = x := by simpa using h
    subst this
    have hj3 : j < 3 := by have := (List.getElem?_eq_some_iff.1 hj).1; simpa [cell3] using this
    rw [rowI, List.flatMap_cons, List.getElem?_append_left (by simp [cell3]; omega), Nat.zero_mul, Nat.zero_add]
    exact hj
  | y :: B, i + 1, x, h, j, u, hj => by
    have ih := rowI_get I V B i x (by simpa using h) j u hj
    rw [rowI, List.flatMap_cons, List.getElem?_append_right (by simp [cell3]; omega)]
    have : (cell3 I V y).length = 3 := rfl
    rw [this, show (i + 1) * 3 + j - 3 = i * 3 + j by omega]
    exact ih
theorem cell3_one (I V : Nat → Int) (x : It) : ∀ u ∈ cell3 I V x, u.oneCell' = true := fun u hu => by
  rcases List.mem_cons.1 hu with e | hu
  · rw [e]; rfl
  · rcases List.mem_cons.1 hu with e | hu
    · rw [e]; rfl
    · rw [List.mem_singleton.1 hu]; rfl
theorem cells_a3 : Try.prog.cellsOf A3 = 3 := by kernel_rfl
theorem cells_i : Try.prog.cellsOf IT = 1 := by kernel_rfl
theorem key_a3 : Try.prog.keyTypeAt 4 A3 = true := by kernel_rfl
theorem a3_lits (a b c : Int) (ha : (Lit.int .i64 a).wf = true) (hb : (Lit.int .i64 b).wf = true) (hc : (Lit.int .i64 c).wf = true) : Try.prog.keyLits 4 A3 [.int .i64 a, .int .i64 b, .int .i64 c] = some [.int .i64 a, .int .i64 b, .int .i64 c] := by
  simp [Program.keyLits, Try.underlying48, Try.underlying3, cells_i, cells_a3, List.range, List.range.loop, ha, hb, hc]
theorem neq_a3 (a b c : Int) (ha : (Lit.int .i64 a).wf = true) (hb : (Lit.int .i64 b).wf = true) (hc : (Lit.int .i64 c).wf = true) (W : World) :
    (binOp .neq A3 (.agg #[.int .i64 a, .int .i64 b, .int .i64 c]) (.agg #[.int .i64 a, .int .i64 b, .int .i64 c])).run Try.prog W = .ok (.bool false) W := by
  obtain ⟨r, hr, hiff⟩ := run_equalIn_deep (P := Try.prog) 9996 4 A3 key_a3 W 4 4 (.agg #[.int .i64 a, .int .i64 b, .int .i64 c]) (.agg #[.int .i64 a, .int .i64 b, .int .i64 c]) _ _ (by simp [Value.formed, Try.underlying48, cells_a3]) (by simp [Value.formed, Try.underlying48, cells_a3]) (a3_lits a b c ha hb hc) (a3_lits a b c ha hb hc)
  have : r = true := hiff.2 rfl
  subst this
  rw [run_neq_struct, hr]; rfl
theorem quiet_mid {P : Program} {C : World → Prop} {K : Act → Prop} {a : Act} {o : Oper} (ty : TypeId) (x : Operand) (ho : o.op = .load ty x)
    (b off : Nat) (hx : a.eval x = .pointer (some ⟨b, off, none⟩)) (cs : List Value) (d : TypeDesc) (hc : ∀ W, C W → W.rangeAt b off cs)
    (hu : P.underlying ty = some d) (hd : d.isRow = true) (hi : (P.info? ty).map (·.size) = some cs.length)
    (h : K (a.put o.dst (.agg cs.toArray))) : o.quiet P a C K := by
  refine ⟨.agg cs.toArray, fun W hC => ?_, h⟩
  unfold Oper.quietAt execOp
  simp only [ho, hx, Instr.loadAt, Instr.sureAddr, Sem.run_bind, Sem.run_pure, Result.andThen_ok, run_loadVar_mid W b off ty cs d (hc W hC) hu hd hi]
  exact ⟨rfl, rfl⟩
/-- The lists at hand, made since w. -/
structure AllR (w : World) (I V : Nat → Int) (bv nv : Value) (B : List It) (J : List Int) (wr : World) : Prop where
  b : wr.ownsRow w.heap.size A3 3 bv B.length (rowI I V B)
  n : wr.ownsRow w.heap.size IT 1 nv J.length (cellsI J)
  below : Below w.heap.size w wr
section
variable {w wr w7 w' : World} {I V : Nat → Int} {bv nv : Value} {B : List It} {J : List Int}
theorem AllR.later (h : AllR w I V bv nv B J wr) (hb : Below wr.heap.size wr w') : AllR w I V bv nv B J w' :=
  ⟨own_later h.b hb, own_later h.n hb, h.below.trans (hb.mono h.below.size)⟩
theorem AllR.addB (h : AllR w I V bv nv B J wr) {x : It} {v' : Value} {o : Obj} (ho : w7.ownsRow w.heap.size A3 3 v' (B.length + 1) (rowI I V B ++ cell3 I V x)) (hg : (wr.alloc o).grownBy w7 bv.ownBlock) : AllR w I V v' nv (B ++ [x]) J w7 := by
  have h1 := h.later (sup_pc wr o)
  rw [rowI_snoc] at ho
  refine ⟨by rw [List.length_append]; exact ho, (Out.of_grown (X := fun q => bv.ownBlock = some q) hg (fun _ e => e)).own h1.n (fun g e1 e2 => own_apart h1.n h1.b (by decide) g e1 e2), h1.below.grown hg h1.below.size (fun q e => (own_bd h1.b e).1)⟩
theorem AllR.addN (h : AllR w I V bv nv B J wr) {l : List Int} {m : Nat} {v' : Value} (hm : m = l.length) (ho : w7.ownsRow w.heap.size IT 1 v' (J.length + m) (cellsI J ++ cellsI l)) (hg : wr.grownBy w7 nv.ownBlock) : AllR w I V bv v' B (J ++ l) w7 := by
  subst hm
  rw [cellsI_append] at ho
  refine ⟨(Out.of_grown (X := fun q => nv.ownBlock = some q) hg (fun _ e => e)).own h.b (fun g e1 e2 => own_apart h.b h.n (by decide) g e1 e2), by rw [List.length_append]; exact ho, h.below.grown hg h.below.size (fun q e => (own_bd h.n e).1)⟩
theorem allR_nil (w : World) (I V : Nat → Int) : AllR w I V (.slice none 0 0) (.slice none 0 0) [] [] w := ⟨own_nil _ _ _ _, own_nil _ _ _ _, Below.refl _ _⟩
theorem cells_src {a : Option Addr} {l : List Int} (h : Ints w a l) : ∀ ad, a = some ad → ∀ j u, (cellsI l)[j]? = some u → w.cell? (ad.add j) = some u := fun ad ha j u hj => by
  have hjl : j < l.length := by have := (List.getElem?_eq_some_iff.1 hj).1; rwa [cellsI_length] at this
  obtain ⟨b, o, ha', hc⟩ := h (fun e => by rw [e] at hjl; cases hjl)
  rw [ha] at ha'
  cases ha'
  rw [Addr.add_lit, hc j hjl, ← cellsI_get l j hjl, hj]
theorem cellsI_one (l : List Int) : ∀ u ∈ cellsI l, u.oneCell' = true := fun u hu => by
  obtain ⟨n, _, rfl⟩ := List.mem_map.1 hu; rfl
end
/-- The file blocks, the inodes of the first pieces. -/
def fileI (i : Nat) (it : Nat → List It) : List It := (catI i it).filter fun x => !nodeB x
def nodeI (i : Nat) (it : Nat → List It) : List Int := ((catI i it).filter nodeB).map It.n
def partZ (z : Pz) (k : Nat) : List It := (List.range k).flatMap fun q => (z.li (q + 1)).map (It.mk (z.fi q))
theorem partZ_succ (z : Pz) (k : Nat) : partZ z (k + 1) = partZ z k ++ (z.li (k + 1)).map (It.mk (z.fi k)) := by simp [partZ, List.range_succ]
theorem fileI_succ (i : Nat) (it : Nat → List It) : fileI (i + 1) it = fileI i it ++ partZ (bs (it i)).z (bs (it i)).z.nf := by
  unfold fileI
  rw [catI_succ, List.filter_append, ← (bs_fl (it i)).fl]
  rfl
theorem nodeI_succ (i : Nat) (it : Nat → List It) : nodeI (i + 1) it = nodeI i it ++ (bs (it i)).z.li 0 := by
  unfold nodeI
  rw [catI_succ, List.filter_append, List.map_append, ← (bs_fl (it i)).no]
theorem partZ_len (z : Pz) (k : Nat) : (partZ z k).length = sumR k fun q => (z.li (q + 1)).length := by
  induction k with
  | zero => rfl
  | succ k ih => rw [partZ_succ, List.length_append, ih, sumR_succ, List.length_map]
theorem len_n (l : List It) : l.length = ((bs l).z.li 0).length + (partZ (bs l).z (bs l).z.nf).length := by
  have h := (bs_sum l).n
  rw [bs_n] at h
  rw [partZ_len, h]; rfl
end Go.Proofs.Ytonlhkhjdnaojaa
