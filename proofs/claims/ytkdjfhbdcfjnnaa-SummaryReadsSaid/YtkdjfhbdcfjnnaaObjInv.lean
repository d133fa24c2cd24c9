/-
  Memory of a region's own that draws its order: which operation's slot holds which object: rows that are appended to, blocks that are made and stored into; whatever they hold.
-/
import Derived.Test.YtkdjfhbdcfjnnaaRegInv
import Derived.Test.YtkdjfhbdcfjnnaaMem
import Derived.Test.YtkdjfhbdcfjnnaaRow
import Derived.Laws.Tables
namespace Go.Proofs.Ytkdjfhbdcfjnnaa
open Go.RowKit

def blkOf : Value → Option Nat
  | .slice (some a) _ _ => some a.block
  | .pointer (some a) => some a.block
  | _ => none
structure ObjT where
  p : Value → World → Prop
  c : Nat
  o : Nat
def Stab (p : Value → World → Prop) : Prop := ∀ v W W' b, W.grownBy W' b → (∀ k, blkOf v = some k → some k ≠ b) → p v W → p v W'
theorem blk_own {w : World} {base : Nat} {e : TypeId} {size : Nat} {v : Value} {n : Nat} {xs : List Value} (h : w.ownsRow base e size v n xs) : v.ownBlock = blkOf v := by
  rcases h.2 with ⟨rfl, _⟩ | ⟨g, cap, cur, rfl, _⟩ <;> rfl
def rowP (base : Nat) (e : TypeId) (size n : Nat) (xs : List Value) : Value → World → Prop := fun v W => W.ownsRow base e size v n xs
def cellsP (base : Nat) (t : TypeId) (cs : Array Value) : Value → World → Prop := fun v W => ∃ g, v = .pointer (some ⟨g, 0, none⟩) ∧ base ≤ g ∧ Blo W g t cs
theorem stab_row (base : Nat) (e : TypeId) (size n : Nat) (xs : List Value) : Stab (rowP base e size n xs) := fun v W W' b hg hk h => by
  refine World.ownsRow.kept h hg ?_
  rw [blk_own h]
  cases hb : blkOf v with
  | none => exact .inl rfl
  | some k => exact .inr fun e => hk k hb (by rw [← e])
theorem stab_cells (base : Nat) (t : TypeId) (cs : Array Value) : Stab (cellsP base t cs) := fun v W W' b hg hk h => by
  obtain ⟨g, rfl, h1, h2⟩ := h
  exact ⟨g, rfl, h1, h2.grown hg (hk g rfl)⟩
def DetO (T : List (Nat × Value)) (D : Nat → Bool) (X : Nat → Value) : Prop := ∀ x ∈ T, D x.1 = true → X x.1 = x.2
structure GI (R : List (Nat × ObjT)) (T : List (Nat × Value)) (C : List (Nat × Nat)) (w : World) (D : Nat → Bool) (X : Nat → Value) (W : World) : Prop where
  b : Below w.heap.size w W
  rows : ∀ x ∈ R, D x.1 = true → (∀ y ∈ R, y.2.c = x.2.c → x.2.o < y.2.o → D y.1 = false) → x.2.p (X x.1) W
  blk : ∀ x ∈ R, D x.1 = true → ∀ k, blkOf (X x.1) = some k → w.heap.size ≤ k ∧ k < W.heap.size
  ap : ∀ x ∈ R, ∀ y ∈ R, x.2.c ≠ y.2.c → D x.1 = true → D y.1 = true → ∀ k, blkOf (X x.1) = some k → blkOf (X y.1) ≠ some k
  dt : DetO T D X
  cl : ∀ x ∈ C, D x.1 = true → D x.2 = true
def keysO (R : List (Nat × ObjT)) : Prop := ∀ x ∈ R, ∀ y ∈ R, x.1 = y.1 → x = y
def stabs (R : List (Nat × ObjT)) : Prop := ∀ x ∈ R, Stab x.2.p
theorem keysO_of {R : List (Nat × ObjT)} (h : nodupB (R.map (·.1)) = true) : keysO R := by
  have hn := nodup_of h
  clear h
  induction R with
  | nil => intro x hx; cases hx
  | cons a R ih =>
    rw [List.map_cons, List.nodup_cons] at hn
    intro x hx y hy e
    rcases List.mem_cons.1 hx with rfl | hx' <;> rcases List.mem_cons.1 hy with rfl | hy'
    · rfl
    · exact absurd (by rw [e]; exact List.mem_map_of_mem (f := (·.1)) hy') hn.1
    · exact absurd (by rw [← e]; exact List.mem_map_of_mem (f := (·.1)) hx') hn.1
    · exact ih hn.2 x hx' y hy' e
section
variable {R : List (Nat × ObjT)} {T : List (Nat × Value)} {C : List (Nat × Nat)} {w W W' : World} {D : Nat → Bool} {X : Nat → Value}
theorem updD_ofO {D : Nat → Bool} {i j : Nat} (h : updD D i j = true) : j = i ∨ (j ≠ i ∧ D j = true) := by
  by_cases e : j = i
  · exact .inl e
  · rw [updD_ne D i e] at h; exact .inr ⟨e, h⟩
theorem updD_offO {D : Nat → Bool} {i j : Nat} (h : updD D i j = false) : D j = false := by
  by_cases e : j = i
  · rw [e, updD_at] at h; cases h
  · rwa [updD_ne D i e] at h
theorem updD_upO {D : Nat → Bool} {i j : Nat} (h : D j = true) : updD D i j = true := by
  by_cases e : j = i
  · rw [e, updD_at]
  · rw [updD_ne D i e]; exact h
theorem GI.start (hw : Below w.heap.size w W) : GI R T C w (fun _ => false) X W :=
  ⟨hw, fun _ _ h => (by cases h), fun _ _ h => (by cases h), fun _ _ _ _ _ h => (by cases h), fun _ _ h => (by cases h), fun _ _ h => (by cases h)⟩
theorem GI.size (h : GI R T C w D X W) : w.heap.size ≤ W.heap.size := h.b.size
theorem DetO.set {T : List (Nat × Value)} {D : Nat → Bool} {X : Nat → Value} (h : DetO T D X) (i : Nat) (v : Value) (hv : ∀ x ∈ T, x.1 = i → x.2 = v) : DetO T (updD D i) (updV X i v) := fun x hx hd => by
  by_cases e : x.1 = i
  · rw [e, updV_at]; exact (hv x hx e).symm
  · rw [updV_ne X i v e]
    rw [updD_ne D i e] at hd
    exact h x hx hd
/-- An operation whose slot is no object of the region's own; it may make new memory. -/
theorem GI.tell (h : GI R T C w D X W) (hs : stabs R) (i : Nat) (v : Value) (hb : Below W.heap.size W W') (hR : ∀ x ∈ R, x.1 ≠ i) (hv : ∀ x ∈ T, x.1 = i → x.2 = v) (hc : ∀ x ∈ C, x.1 = i → D x.2 = true) : GI R T C w (updD D i) (updV X i v) W' := by
  have hd : ∀ x ∈ R, updD D i x.1 = true → D x.1 = true := fun x hx hh => by rwa [updD_ne D i (hR x hx)] at hh
  have hg : W.grownBy W' none := grown_of_below hb none
  refine ⟨h.b.trans (hb.mono h.size), fun x hx hh hn => ?_, fun x hx hh k hk => ?_, fun x hx y hy hcc h1 h2 k hk => ?_, h.dt.set i v hv, fun x hx hh => ?_⟩
  · rw [updV_ne X i v (hR x hx)]
    exact hs x hx _ W W' none hg (fun _ _ e => by cases e) (h.rows x hx (hd x hx hh) (fun y hy e1 e2 => updD_offO (hn y hy e1 e2)))
  · rw [updV_ne X i v (hR x hx)] at hk
    have := h.blk x hx (hd x hx hh) k hk
    have := hb.size
    omega
  · rw [updV_ne X i v (hR x hx)] at hk
    rw [updV_ne X i v (hR y hy)]
    exact h.ap x hx y hy hcc (hd x hx h1) (hd y hy h2) k hk
  · rcases updD_ofO hh with e | ⟨_, e⟩
    · exact updD_upO (hc x hx e)
    · exact updD_upO (h.cl x hx e)
/-- An operation that makes an object anew (b = none), or changes the newest one of its class. -/
theorem GI.set (h : GI R T C w D X W) (hk : keysO R) (hs : stabs R) (i : Nat) (v : Value) (z : ObjT) (hz : (i, z) ∈ R) (b : Option Nat) (hg : W.grownBy W' b)
    (hb : ∀ k, b = some k → w.heap.size ≤ k ∧ k < W.heap.size ∧ ∀ x ∈ R, D x.1 = true → x.2.c ≠ z.c → blkOf (X x.1) ≠ some k)
    (hv : ∀ k, blkOf v = some k → w.heap.size ≤ k ∧ k < W'.heap.size ∧ (b = some k ∨ W.heap.size ≤ k))
    (hlast : ∀ y ∈ R, y.2.c = z.c → y.1 ≠ i → y.2.o < z.o ∨ D y.1 = false)
    (ho : z.p v W') (hT : ∀ x ∈ T, x.1 ≠ i) (hc : ∀ x ∈ C, x.1 = i → D x.2 = true) : GI R T C w (updD D i) (updV X i v) W' := by
  have hb' : Below w.heap.size w W' := h.b.grown hg h.b.size (fun k hkk => (hb k hkk).1)
  have apr : ∀ x ∈ R, x.2.c ≠ z.c → D x.1 = true → ∀ k, blkOf (X x.1) = some k → some k ≠ b := fun x hx hc hd k hkk e => (hb k e.symm).2.2 x hx hd hc hkk
  have aps : ∀ x ∈ R, x.2.c ≠ z.c → D x.1 = true → ∀ k, blkOf (X x.1) = some k → blkOf v ≠ some k := fun x hx hc hd k hkk e => by
    rcases (hv k e).2.2 with e2 | e2
    · exact apr x hx hc hd k hkk e2.symm
    · have := (h.blk x hx hd k hkk).2
      omega
  have cls : ∀ x ∈ R, x.1 = i → x = (i, z) := fun x hx e => hk x hx _ hz e
  refine ⟨hb', fun x hx hh hn => ?_, fun x hx hh k hkk => ?_, fun x hx y hy hcc h1 h2 k hkk => ?_, fun x hx hd => ?_, fun x hx hh => ?_⟩
  · by_cases e : x.1 = i
    · have := cls x hx e
      subst this
      rw [updV_at]; exact ho
    · rw [updD_ne D i e] at hh
      by_cases hcc : x.2.c = z.c
      · rcases hlast x hx hcc e with h3 | h3
        · have := hn (i, z) hz hcc.symm h3
          rw [updD_at] at this; cases this
        · rw [h3] at hh; cases hh
      · rw [updV_ne X i v e]
        exact hs x hx _ W W' b hg (apr x hx hcc hh) (h.rows x hx hh (fun y hy e1 e2 => updD_offO (hn y hy e1 e2)))
  · by_cases e : x.1 = i
    · rw [e, updV_at] at hkk
      exact ⟨(hv k hkk).1, (hv k hkk).2.1⟩
    · rw [updV_ne X i v e] at hkk
      rw [updD_ne D i e] at hh
      have := h.blk x hx hh k hkk
      have := hg.size
      omega
  · by_cases e : x.1 = i
    · have hxe := cls x hx e
      have hye : y.1 ≠ i := fun e2 => by
        have := cls y hy e2
        rw [hxe, this] at hcc; exact hcc rfl
      rw [e, updV_at] at hkk
      rw [updV_ne X i v hye]
      rw [updD_ne D i hye] at h2
      intro e3
      exact aps y hy (fun e2 => hcc (by rw [hxe, e2])) h2 k e3 hkk
    · rw [updV_ne X i v e] at hkk
      rw [updD_ne D i e] at h1
      by_cases e2 : y.1 = i
      · have hye := cls y hy e2
        rw [e2, updV_at]
        exact aps x hx (fun e3 => hcc (by rw [hye, e3])) h1 k hkk
      · rw [updV_ne X i v e2]
        rw [updD_ne D i e2] at h2
        exact h.ap x hx y hy hcc h1 h2 k hkk
  · rw [updV_ne X i v (hT x hx)]
    rw [updD_ne D i (hT x hx)] at hd
    exact h.dt x hx hd
  · rcases updD_ofO hh with e | ⟨_, e⟩
    · exact updD_upO (hc x hx e)
    · exact updD_upO (h.cl x hx e)
/-- A new block. -/
theorem GI.fresh (h : GI R T C w D X W) (hk : keysO R) (hs : stabs R) (i : Nat) (v : Value) (z : ObjT) (hz : (i, z) ∈ R) (hb : Below W.heap.size W W') (hv : ∀ k, blkOf v = some k → W.heap.size ≤ k ∧ k < W'.heap.size)
    (hlast : ∀ y ∈ R, y.2.c = z.c → y.1 ≠ i → y.2.o < z.o ∨ D y.1 = false) (ho : z.p v W') (hT : ∀ x ∈ T, x.1 ≠ i) (hc : ∀ x ∈ C, x.1 = i → D x.2 = true) : GI R T C w (updD D i) (updV X i v) W' :=
  h.set hk hs i v z hz none (grown_of_below hb none) (fun k e => by cases e) (fun k e => ⟨Nat.le_trans h.size (hv k e).1, (hv k e).2, .inr (hv k e).1⟩) hlast ho hT hc
/-- The newest one of its class changed, or put into a new block. -/
theorem GI.onto (h : GI R T C w D X W) (hk : keysO R) (hs : stabs R) (i p : Nat) (v : Value) (z y0 : ObjT) (hz : (i, z) ∈ R) (hp : (p, y0) ∈ R) (hcl : z.c = y0.c) (hpd : D p = true)
    (hg : W.grownBy W' (blkOf (X p))) (hv : blkOf v = blkOf (X p) ∨ (blkOf v = some W.heap.size ∧ W.heap.size < W'.heap.size))
    (hlast : ∀ y ∈ R, y.2.c = z.c → y.1 ≠ i → y.2.o < z.o ∨ D y.1 = false) (ho : z.p v W') (hT : ∀ x ∈ T, x.1 ≠ i) (hc : ∀ x ∈ C, x.1 = i → D x.2 = true) : GI R T C w (updD D i) (updV X i v) W' := by
  refine h.set hk hs i v z hz (blkOf (X p)) hg (fun k e => ⟨(h.blk _ hp hpd k e).1, (h.blk _ hp hpd k e).2, fun x hx hd hcc e2 => ?_⟩) (fun k e => ?_) hlast ho hT hc
  · exact h.ap x hx (p, y0) hp (by rw [← hcl]; exact hcc) hd hpd k e2 e
  · rcases hv with e2 | ⟨e2, e3⟩
    · rw [e2] at e
      have := h.blk _ hp hpd k e
      have := hg.size
      exact ⟨by omega, by omega, .inl e⟩
    · rw [e2] at e
      cases e
      exact ⟨h.size, e3, .inr (Nat.le_refl _)⟩
end
/-! Steps -/
section
variable {P : Program} {ops : Array Oper} {Q : Exit → Act → World → Prop} {o : Oper} {a : Act} {w w' : World} {K : Act → World → Prop} {E : Prop}
theorem stepO_run {v : Value} (hw : Region.wanted o (yielded ops a.tmps) = true) (hr : (execOp a.eval o).run P w = .ok (.value v) w') (hk : K (a.put o.dst v) w') :
    if Region.wanted o (yielded ops a.tmps) = true then Oper.wp P o a w K Q else E := by
  rw [if_pos hw]
  unfold Oper.wp
  rw [hr]
  exact hk
theorem stepO_call {f : FuncId} {args : Array Value} {post : Ending → World → Prop} (hw : Region.wanted o (yielded ops a.tmps) = true) (hr : (execOp a.eval o).run P w = .ok (.enter f args) w)
    (hc : Calls P f args w post) (hk : ∀ e w', post e w' → ∃ v, e = .returned v ∧ K (a.put o.dst v) w') :
    if Region.wanted o (yielded ops a.tmps) = true then Oper.wp P o a w K Q else E := by
  rw [if_pos hw]
  unfold Oper.wp
  rw [hr]
  exact hc.mono fun e w' h => by
    obtain ⟨v, rfl, h2⟩ := hk e w' h
    exact h2
theorem stepO_store (hw : Region.wanted o (yielded ops a.tmps) = true) (ty : TypeId) (x y : Operand) (ho : o.op = .store ty x y) (g : Nat) (cells : Array Value) (hx : a.eval x = .pointer (some ⟨g, 0, none⟩)) (hy : a.eval y = .agg cells)
    (t : TypeId) (old : Array Value) (hg : Blo w g t old) (hi : (P.info? ty).map (·.size) = some cells.size) (hold : old.size = cells.size) (h1 : cells.all (·.oneCell') = true) (hd : o.dst = none) (v : Value)
    (hk : Blo (w.setRow g cells) g t cells → w.grownBy (w.setRow g cells) (some g) → K (a.put o.dst v) (w.setRow g cells)) :
    if Region.wanted o (yielded ops a.tmps) = true then Oper.wp P o a w K Q else E := by
  rw [if_pos hw]
  refine wp_store_row ty x y ho g cells hx hy t old hg hi hold h1 ?_
  have := hk (setRow_heap w g old cells t (0, 0) hg) ⟨rfl, rfl, rfl, by simp, fun k _ hne => setRow_other w g k cells (fun e => hne (by rw [e]))⟩
  rw [hd] at this ⊢
  exact this
theorem stepO_append (hw : Region.wanted o (yielded ops a.tmps) = true) (s x : Operand) (t : TypeId) (ho : o.op = .call { callee := .builtin .append, args := #[s, x], argTypes := #[t, t] })
    (base : Nat) (e : TypeId) (z : Value) (size bytes : Nat) (ht : P.underlying t = some (.slice e)) (hi : (P.info? e).map (fun i => (i.zero, i.size, i.bytes)) = some (some z, size, bytes)) (hzs : z.cells.size = size) (hsz : 0 < size) (hby : bytes ≤ 1000)
    (v : Value) (n : Nat) (xs : List Value) (hs : a.eval s = v) (hown : w.ownsRow base e size v n xs) (ao : Option Addr) (m c : Nat) (ys : List Value) (hx : a.eval x = .slice ao m c) (hl : ys.length = m * size) (hy : ∀ ad, ao = some ad → ∀ j u, ys[j]? = some u → w.cell? (ad.add j) = some u) (h1 : ∀ u ∈ ys, u.oneCell' = true) (hnone : ao = none → m = 0)
    (hroom : n + m ≤ 1000000) (hbase : base ≤ w.heap.size)
    (hk : ∀ v' w', w'.ownsRow base e size v' (n + m) (xs ++ ys) → w.grownBy w' (blkOf v) → (blkOf v' = blkOf v ∨ (blkOf v' = some w.heap.size ∧ w.heap.size < w'.heap.size)) → K (a.put o.dst v') w') :
    if Region.wanted o (yielded ops a.tmps) = true then Oper.wp P o a w K Q else E := by
  obtain ⟨i, hi0, hz, hs1, hb1⟩ := info_parts hi
  rw [if_pos hw]
  unfold Oper.wp
  cases ao with
  | none =>
    obtain rfl := hnone rfl
    have hys : ys = [] := List.eq_nil_of_length_eq_zero (by rw [hl]; simp)
    subst hys
    have hrun : (Builtin.append_ #[t, t] o.type #[v, .slice none 0 c]).run P w = .ok v w := by
      rcases hown.2 with ⟨rfl, rfl⟩ | ⟨g, cap, cur, rfl, _, _, hnc, _⟩
      · simp [Builtin.append_, run_underlying ht, sizeOf, typeInfo, hi0, Builtin.lenOf, Builtin.firstCells]
      · simp [Builtin.append_, run_underlying ht, sizeOf, typeInfo, hi0, Builtin.lenOf, Builtin.firstCells, hnc, storeCells]
    simp [execOp, ho, resolve, invoke, builtin, hs, hx, hrun, Result.andThen]
    exact hk v w (by simpa using hown) ⟨rfl, rfl, rfl, Nat.le_refl _, fun _ _ _ => rfl⟩ (.inl rfl)
  | some ad =>
    obtain ⟨v', w', hrun, h2, h3, _, h5⟩ := run_append_own_at (P := P) w base t o.type e i z size bytes ht hi0 hz hs1 hb1 hzs hsz v n xs hown ad m c ys hl (hy ad rfl) h1 (by unfold maxLen; omega) (Nat.le_trans (Nat.mul_le_mul hroom hby) (by decide)) hbase
    simp [execOp, ho, resolve, invoke, builtin, hs, hx, hrun, Result.andThen]
    rw [blk_own hown] at h3 h5
    refine hk v' w' h2 h3 ?_
    rw [← blk_own h2]
    rcases h5 with h5 | h5
    · exact .inl h5
    · exact .inr ⟨h5, (h2.lt _ h5).2⟩
end
end Go.Proofs.Ytkdjfhbdcfjnnaa
