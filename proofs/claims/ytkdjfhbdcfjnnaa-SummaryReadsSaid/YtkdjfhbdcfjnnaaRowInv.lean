/-
  Lists of integers appended to in a region that draws its order: which operation's slot owns what.
-/
import Derived.Test.YtkdjfhbdcfjnnaaRegInv
import Derived.Test.YtkdjfhbdcfjnnaaMem
import Derived.Maps.AppendAt
import Derived.Laws.AppendOwnNone
import Derived.OwnWalk
namespace Go.Proofs.Ytkdjfhbdcfjnnaa
open Go.RowKit

structure RowT where
  l : List Int
  c : Nat
  o : Nat
/-- Slots whose values are told. -/
def Det (T : List (Nat × Value)) (D : Nat → Bool) (X : Nat → Value) : Prop := ∀ x ∈ T, D x.1 = true → X x.1 = x.2
theorem Det.set {T : List (Nat × Value)} {D : Nat → Bool} {X : Nat → Value} (h : Det T D X) (i : Nat) (v : Value) (hv : ∀ x ∈ T, x.1 = i → x.2 = v) : Det T (updD D i) (updV X i v) := fun x hx hd => by
  by_cases e : x.1 = i
  · rw [e, updV_at]; exact (hv x hx e).symm
  · rw [updV_ne X i v e]
    rw [updD_ne D i e] at hd
    exact h x hx hd
/-- Rows of integers of the region's own: the newest of a class (c) owns its list (l); rows of two classes lie apart. -/
structure RI (R : List (Nat × RowT)) (w : World) (t : TypeId) (D : Nat → Bool) (X : Nat → Value) (W : World) : Prop where
  b : Below w.heap.size w W
  rows : ∀ x ∈ R, D x.1 = true → (∀ y ∈ R, y.2.c = x.2.c → x.2.o < y.2.o → D y.1 = false) → W.ownsRow w.heap.size t 1 (X x.1) x.2.l.length (cellsI x.2.l)
  blk : ∀ x ∈ R, D x.1 = true → ∀ k, (X x.1).ownBlock = some k → w.heap.size ≤ k ∧ k < W.heap.size
  ap : ∀ x ∈ R, ∀ y ∈ R, x.2.c ≠ y.2.c → D x.1 = true → D y.1 = true → ∀ k, (X x.1).ownBlock = some k → (X y.1).ownBlock ≠ some k
section
variable {R : List (Nat × RowT)} {w W W' : World} {t : TypeId} {D : Nat → Bool} {X : Nat → Value}
theorem RI.start (hb : Below w.heap.size w W) : RI R w t (fun _ => false) X W := ⟨hb, fun _ _ h => (by cases h), fun _ _ h => (by cases h), fun _ _ _ _ _ h => (by cases h)⟩
theorem RI.size (h : RI R w t D X W) : w.heap.size ≤ W.heap.size := h.b.size
theorem updD_of {D : Nat → Bool} {i j : Nat} (h : updD D i j = true) : j = i ∨ (j ≠ i ∧ D j = true) := by
  by_cases e : j = i
  · exact .inl e
  · rw [updD_ne D i e] at h; exact .inr ⟨e, h⟩
theorem updD_off {D : Nat → Bool} {i j : Nat} (h : updD D i j = false) : D j = false := by
  by_cases e : j = i
  · rw [e, updD_at] at h; cases h
  · rwa [updD_ne D i e] at h
/-- An operation that is no row. -/
theorem RI.still (h : RI R w t D X W) (i : Nat) (v : Value) (hi : ∀ x ∈ R, x.1 ≠ i) (hb : Below W.heap.size W W') : RI R w t (updD D i) (updV X i v) W' := by
  have hd : ∀ x ∈ R, updD D i x.1 = true → D x.1 = true := fun x hx hh => by rwa [updD_ne D i (hi x hx)] at hh
  refine ⟨h.b.trans (hb.mono h.size), fun x hx hh hc => ?_, fun x hx hh k hk => ?_, fun x hx y hy hc h1 h2 k hk => ?_⟩
  · rw [updV_ne X i v (hi x hx)]
    exact own_later (h.rows x hx (hd x hx hh) (fun y hy e1 e2 => by have := hc y hy e1 e2; rwa [updD_ne D i (hi y hy)] at this)) hb
  · rw [updV_ne X i v (hi x hx)] at hk
    have := h.blk x hx (hd x hx hh) k hk
    have := hb.size
    omega
  · rw [updV_ne X i v (hi x hx)] at hk
    rw [updV_ne X i v (hi y hy)]
    exact h.ap x hx y hy hc (hd x hx h1) (hd y hy h2) k hk
/-- The keys tell the rows. -/
def keysB (R : List (Nat × RowT)) : Prop := ∀ x ∈ R, ∀ y ∈ R, x.1 = y.1 → x = y
/-- A new block. -/
theorem RI.fresh (h : RI R w t D X W) (hk : keysB R) (i : Nat) (v : Value) (z : RowT) (hz : (i, z) ∈ R) (hb : Below W.heap.size W W') (hv : v.ownBlock = some W.heap.size) (hlt : W.heap.size < W'.heap.size)
    (ho : W'.ownsRow w.heap.size t 1 v z.l.length (cellsI z.l)) : RI R w t (updD D i) (updV X i v) W' := by
  refine ⟨h.b.trans (hb.mono h.size), fun x hx hh hc => ?_, fun x hx hh k hkk => ?_, fun x hx y hy hc h1 h2 k hkk => ?_⟩
  · by_cases e : x.1 = i
    · have : x = (i, z) := hk x hx _ hz e
      subst this
      rw [updV_at]; exact ho
    · rw [updV_ne X i v e]
      rw [updD_ne D i e] at hh
      exact own_later (h.rows x hx hh (fun y hy e1 e2 => updD_off (hc y hy e1 e2))) hb
  · by_cases e : x.1 = i
    · rw [e, updV_at, hv] at hkk
      cases hkk
      exact ⟨h.size, hlt⟩
    · rw [updV_ne X i v e] at hkk
      rw [updD_ne D i e] at hh
      have := h.blk x hx hh k hkk
      have := hb.size
      omega
  · by_cases e : x.1 = i
    · have hxe : x = (i, z) := hk x hx _ hz e
      have hye : y.1 ≠ i := fun e2 => by
        have : y = (i, z) := hk y hy _ hz e2
        rw [hxe, this] at hc; exact hc rfl
      rw [e, updV_at, hv] at hkk
      cases hkk
      rw [updV_ne X i v hye]
      rw [updD_ne D i hye] at h2
      intro e3
      have := (h.blk y hy h2 _ e3).2
      omega
    · rw [updV_ne X i v e] at hkk
      rw [updD_ne D i e] at h1
      by_cases e2 : y.1 = i
      · rw [e2, updV_at, hv]
        intro e3
        cases e3
        have := (h.blk x hx h1 _ hkk).2
        omega
      · rw [updV_ne X i v e2]
        rw [updD_ne D i e2] at h2
        exact h.ap x hx y hy hc h1 h2 k hkk
/-- An append to the newest row of a class. -/
theorem RI.append (h : RI R w t D X W) (hk : keysB R) (i p : Nat) (v : Value) (z y0 : RowT) (hz : (i, z) ∈ R) (hp : (p, y0) ∈ R) (hcl : z.c = y0.c) (hpd : D p = true) (hlast : ∀ y ∈ R, y.2.c = z.c → y.1 ≠ i → y.2.o < z.o ∨ D y.1 = false)
    (hg : W.grownBy W' (X p).ownBlock) (hv : v.ownBlock = (X p).ownBlock ∨ v.ownBlock = some W.heap.size)
    (ho : W'.ownsRow w.heap.size t 1 v z.l.length (cellsI z.l)) : RI R w t (updD D i) (updV X i v) W' := by
  have hpb := h.blk _ hp hpd
  have hb' : Below w.heap.size w W' := h.b.grown hg h.b.size (fun k hkk => (hpb k hkk).1)
  have apr : ∀ x ∈ R, x.2.c ≠ z.c → D x.1 = true → (X x.1).ownBlock = none ∨ (X x.1).ownBlock ≠ (X p).ownBlock := fun x hx hc hd => by
    cases e : (X x.1).ownBlock with
    | none => exact .inl rfl
    | some k => exact .inr fun e2 => h.ap x hx (p, y0) hp (by rw [← hcl]; exact hc) hd hpd k e e2.symm
  refine ⟨hb', fun x hx hh hc => ?_, fun x hx hh k hkk => ?_, fun x hx y hy hc h1 h2 k hkk => ?_⟩
  · by_cases e : x.1 = i
    · have : x = (i, z) := hk x hx _ hz e
      subst this
      rw [updV_at]; exact ho
    · rw [updD_ne D i e] at hh
      by_cases hcc : x.2.c = z.c
      · rcases hlast x hx hcc e with h3 | h3
        · have := hc (i, z) hz hcc.symm h3
          rw [updD_at] at this; cases this
        · rw [h3] at hh; cases hh
      · rw [updV_ne X i v e]
        exact (h.rows x hx hh (fun y hy e1 e2 => updD_off (hc y hy e1 e2))).kept hg (apr x hx hcc hh)
  · by_cases e : x.1 = i
    · rw [e, updV_at] at hkk
      exact ho.lt k hkk
    · rw [updV_ne X i v e] at hkk
      rw [updD_ne D i e] at hh
      have := h.blk x hx hh k hkk
      have := hg.size
      omega
  · by_cases e : x.1 = i
    · have hxe : x = (i, z) := hk x hx _ hz e
      have hye : y.1 ≠ i := fun e2 => by
        have : y = (i, z) := hk y hy _ hz e2
        rw [hxe, this] at hc; exact hc rfl
      have hyc : y.2.c ≠ z.c := fun e2 => hc (by rw [hxe, e2])
      rw [e, updV_at] at hkk
      rw [updV_ne X i v hye]
      rw [updD_ne D i hye] at h2
      intro e3
      rcases hv with hv | hv
      · rw [hv] at hkk
        rcases apr y hy hyc h2 with h4 | h4
        · rw [h4] at e3; cases e3
        · exact h4 (e3.trans hkk.symm)
      · rw [hv] at hkk
        cases hkk
        have := (h.blk y hy h2 _ e3).2
        omega
    · rw [updV_ne X i v e] at hkk
      rw [updD_ne D i e] at h1
      by_cases e2 : y.1 = i
      · have hye : y = (i, z) := hk y hy _ hz e2
        have hxc : x.2.c ≠ z.c := fun e3 => hc (by rw [hye, e3])
        rw [e2, updV_at]
        intro e3
        rcases hv with hv | hv
        · rw [hv] at e3
          rcases apr x hx hxc h1 with h4 | h4
          · rw [h4] at hkk; cases hkk
          · exact h4 (hkk.trans e3.symm)
        · rw [hv] at e3
          cases e3
          have := (h.blk x hx h1 _ hkk).2
          omega
      · rw [updV_ne X i v e2]
        rw [updD_ne D i e2] at h2
        exact h.ap x hx y hy hc h1 h2 k hkk
end
/-! Slots made of others -/
structure UseT where
  i : Nat
  u : (Nat → Value) → Value
  deps : List Nat
def Uses (U : List UseT) (D : Nat → Bool) (X : Nat → Value) : Prop := ∀ x ∈ U, D x.i = true → X x.i = x.u X ∧ ∀ j ∈ x.deps, D j = true
def usesB (U : List UseT) : Prop := ∀ x ∈ U, ∀ X Y : Nat → Value, (∀ j ∈ x.deps, X j = Y j) → x.u X = x.u Y
theorem updD_up {D : Nat → Bool} {i j : Nat} (h : D j = true) : updD D i j = true := by
  by_cases e : j = i
  · rw [e, updD_at]
  · rw [updD_ne D i e]; exact h
theorem Uses.set {U : List UseT} {D : Nat → Bool} {X : Nat → Value} (h : Uses U D X) (hU : usesB U) (i : Nat) (v : Value) (hD : D i = false) (hv : ∀ x ∈ U, x.i = i → v = x.u X ∧ ∀ j ∈ x.deps, D j = true) : Uses U (updD D i) (updV X i v) := fun x hx hd => by
  have key : (∀ j ∈ x.deps, D j = true) → x.u (updV X i v) = x.u X := fun hj => hU x hx _ _ (fun j hjj => updV_ne X i v (fun e => by rw [← e, hj j hjj] at hD; cases hD))
  rcases updD_of hd with e | ⟨e0, e⟩
  · obtain ⟨h1, h2⟩ := hv x hx e
    rw [key h2, e, updV_at]
    exact ⟨h1, fun j hj => updD_up (h2 j hj)⟩
  · obtain ⟨h1, h2⟩ := h x hx e
    rw [key h2, updV_ne X i v e0]
    exact ⟨h1, fun j hj => updD_up (h2 j hj)⟩
/-- What holds between a region's operations: rows (R), told slots (T), slots made of others (U), what comes ahead of what (C). -/
structure BG (R : List (Nat × RowT)) (T : List (Nat × Value)) (U : List UseT) (C : List (Nat × Nat)) (w : World) (t : TypeId) (D : Nat → Bool) (X : Nat → Value) (W : World) : Prop where
  ri : RI R w t D X W
  dt : Det T D X
  us : Uses U D X
  cl : ∀ x ∈ C, D x.1 = true → D x.2 = true
section
variable {R : List (Nat × RowT)} {T : List (Nat × Value)} {U : List UseT} {C : List (Nat × Nat)} {w W W' : World} {t : TypeId} {D : Nat → Bool} {X : Nat → Value}
theorem BG.start : BG R T U C w t (fun _ => false) X w.drew :=
  ⟨RI.start (Below.refl _ _).drew, fun _ _ h => (by cases h), fun _ _ h => (by cases h), fun _ _ h => (by cases h)⟩
theorem BG.set (h : BG R T U C w t D X W) (hU : usesB U) (i : Nat) (v : Value) (hD : D i = false) (hr : RI R w t (updD D i) (updV X i v) W') (hv : ∀ x ∈ T, x.1 = i → x.2 = v) (hu : ∀ x ∈ U, x.i = i → v = x.u X ∧ ∀ j ∈ x.deps, D j = true) (hc : ∀ x ∈ C, x.1 = i → D x.2 = true) :
    BG R T U C w t (updD D i) (updV X i v) W' := by
  refine ⟨hr, h.dt.set i v hv, h.us.set hU i v hD hu, fun x hx hd => ?_⟩
  rcases updD_of hd with e | ⟨_, e⟩
  · exact updD_up (hc x hx e)
  · exact updD_up (h.cl x hx e)
theorem BG.tell (h : BG R T U C w t D X W) (hU : usesB U) (i : Nat) (v : Value) (hD : D i = false) (hR : ∀ x ∈ R, x.1 ≠ i) (hv : ∀ x ∈ T, x.1 = i → x.2 = v) (hu : ∀ x ∈ U, x.i = i → v = x.u X ∧ ∀ j ∈ x.deps, D j = true) (hc : ∀ x ∈ C, x.1 ≠ i) : BG R T U C w t (updD D i) (updV X i v) W :=
  h.set hU i v hD (h.ri.still i v hR (Below.refl _ _)) hv hu (fun x hx e => absurd e (hc x hx))
end
/-! Steps -/
section
variable {P : Program} {ops : Array Oper} {Q : Exit → Act → World → Prop}
theorem step_of_run {o : Oper} {a : Act} {w w' : World} {K : Act → World → Prop} {E : Prop} {v : Value} (hg : o.guard = none) (hr : (execOp a.eval o).run P w = .ok (.value v) w') (hk : K (a.put o.dst v) w') :
    if Region.wanted o (yielded ops a.tmps) = true then Oper.wp P o a w K Q else E := by
  rw [if_pos (by simp [Region.wanted, hg])]
  unfold Oper.wp
  rw [hr]
  exact hk
/-- 'append(own, more...)' at integers. -/
theorem step_append_ints {o : Oper} {a : Act} {w : World} {K : Act → World → Prop} {E : Prop} (hg : o.guard = none) (s x : Operand) (t : TypeId) (ho : o.op = .call { callee := .builtin .append, args := #[s, x], argTypes := #[t, t] })
    (base : Nat) (e : TypeId) (ht : P.underlying t = some (.slice e)) (hi : (P.info? e).map (fun i => (i.zero, i.size, i.bytes)) = some (some (.int .i64 0), 1, 8))
    (v : Value) (xs : List Int) (hs : a.eval s = v) (hown : w.ownsRow base e 1 v xs.length (cellsI xs)) (ao : Option Addr) (m c : Nat) (ys : List Int) (hm : m = ys.length) (hx : a.eval x = .slice ao m c) (hy : Ints w ao ys) (hnone : ao = none → m = 0 ∧ c = 0)
    (hroom : xs.length + m < 1000000) (hbase : base ≤ w.heap.size)
    (hk : ∀ v' w', w'.ownsRow base e 1 v' (xs ++ ys).length (cellsI (xs ++ ys)) → w.grownBy w' v.ownBlock → (v'.ownBlock = v.ownBlock ∨ v'.ownBlock = some w.heap.size) → K (a.put o.dst v') w') :
    if Region.wanted o (yielded ops a.tmps) = true then Oper.wp P o a w K Q else E := by
  subst hm
  obtain ⟨i, hi0, hz, hs1, hb1⟩ := info_parts hi
  rw [if_pos (by simp [Region.wanted, hg])]
  unfold Oper.wp
  cases ao with
  | none =>
    obtain ⟨h0, rfl⟩ := hnone rfl
    have hys : ys = [] := List.eq_nil_of_length_eq_zero h0
    subst hys
    have hrun := run_append_owned_none (P := P) (w := w) base t o.type e i 1 ht hi0 v xs.length (cellsI xs) hown
    rw [List.length_nil] at hx
    simp [execOp, ho, resolve, invoke, builtin, hs, hx, hrun, Result.andThen]
    exact hk v w (by simpa using hown) ⟨rfl, rfl, rfl, Nat.le_refl _, fun _ _ _ => rfl⟩ (.inl rfl)
  | some ad =>
    have hcell : ∀ j u, (cellsI ys)[j]? = some u → w.cell? (ad.add j) = some u := fun j u hj => by
      have hjl : j < ys.length := by
        have := (List.getElem?_eq_some_iff.1 hj).1
        rwa [cellsI_length] at this
      obtain ⟨b, o, ha, hc⟩ := hy (fun e => by rw [e] at hjl; cases hjl)
      cases ha
      rw [cellsI_get ys j hjl] at hj
      cases hj
      rw [Addr.add_lit]
      exact hc j hjl
    obtain ⟨v', w', hrun, h1, h2, _, h4⟩ := run_append_own_at (P := P) w base t o.type e i (.int .i64 0) 1 8 ht hi0 hz hs1 hb1 rfl (by decide) v xs.length (cellsI xs) hown ad ys.length c (cellsI ys) (by rw [cellsI_length]; omega) hcell
      (fun u hu => by unfold cellsI at hu; obtain ⟨q, _, rfl⟩ := List.mem_map.1 hu; rfl) (by unfold maxLen; omega) (by omega) hbase
    simp [execOp, ho, resolve, invoke, builtin, hs, hx, hrun, Result.andThen]
    exact hk v' w' (by rw [List.length_append, ← cellsI_append]; exact h1) h2 h4
/-! The same, behind a guard that holds -/
theorem step_of_runW {o : Oper} {a : Act} {w w' : World} {K : Act → World → Prop} {E : Prop} {v : Value} (hw : Region.wanted o (yielded ops a.tmps) = true) (hr : (execOp a.eval o).run P w = .ok (.value v) w') (hk : K (a.put o.dst v) w') :
    if Region.wanted o (yielded ops a.tmps) = true then Oper.wp P o a w K Q else E := by
  rw [if_pos hw]
  unfold Oper.wp
  rw [hr]
  exact hk
/-- A call of a Go function. -/
theorem step_of_enter {o : Oper} {a : Act} {w : World} {K : Act → World → Prop} {E : Prop} {v : Value} {f : FuncId} {args : Array Value} (hw : Region.wanted o (yielded ops a.tmps) = true) (hr : (execOp a.eval o).run P w = .ok (.enter f args) w)
    (hc : Calls P f args w fun e w' => e = .returned v ∧ Below w.heap.size w w') (hk : ∀ w', Below w.heap.size w w' → K (a.put o.dst v) w') :
    if Region.wanted o (yielded ops a.tmps) = true then Oper.wp P o a w K Q else E := by
  rw [if_pos hw]
  unfold Oper.wp
  rw [hr]
  exact hc.mono fun e w' ⟨he, hb⟩ => by
    subst he
    exact hk w' hb
theorem run_append_none_any {w : World} (base : Nat) (t ty e : TypeId) (i : TypeInfo) (size c : Nat) (ht : P.underlying t = some (.slice e)) (hi : P.info? e = some i) (v : Value) (n : Nat) (xs : List Value) (hown : w.ownsRow base e size v n xs) :
    (Builtin.append_ #[t, t] ty #[v, .slice none 0 c]).run P w = .ok v w := by
  rcases hown.2 with ⟨rfl, rfl⟩ | ⟨g, cap, cur, rfl, _, _, hnc, _⟩
  · simp [Builtin.append_, run_underlying ht, sizeOf, typeInfo, hi, Builtin.lenOf, Builtin.firstCells]
  · simp [Builtin.append_, run_underlying ht, sizeOf, typeInfo, hi, Builtin.lenOf, Builtin.firstCells, hnc, storeCells]
theorem step_append_intsW {o : Oper} {a : Act} {w : World} {K : Act → World → Prop} {E : Prop} (hw : Region.wanted o (yielded ops a.tmps) = true) (s x : Operand) (t : TypeId) (ho : o.op = .call { callee := .builtin .append, args := #[s, x], argTypes := #[t, t] })
    (base : Nat) (e : TypeId) (ht : P.underlying t = some (.slice e)) (hi : (P.info? e).map (fun i => (i.zero, i.size, i.bytes)) = some (some (.int .i64 0), 1, 8))
    (v : Value) (xs : List Int) (hs : a.eval s = v) (hown : w.ownsRow base e 1 v xs.length (cellsI xs)) (ao : Option Addr) (m c : Nat) (ys : List Int) (hm : m = ys.length) (hx : a.eval x = .slice ao m c) (hy : Ints w ao ys)
    (hroom : xs.length + m < 1000000) (hbase : base ≤ w.heap.size)
    (hk : ∀ v' w', w'.ownsRow base e 1 v' (xs ++ ys).length (cellsI (xs ++ ys)) → w.grownBy w' v.ownBlock → (v'.ownBlock = v.ownBlock ∨ v'.ownBlock = some w.heap.size) → K (a.put o.dst v') w') :
    if Region.wanted o (yielded ops a.tmps) = true then Oper.wp P o a w K Q else E := by
  subst hm
  obtain ⟨i, hi0, hz, hs1, hb1⟩ := info_parts hi
  rw [if_pos hw]
  unfold Oper.wp
  cases ao with
  | none =>
    have hys : ys = [] := by
      cases ys with
      | nil => rfl
      | cons y r => obtain ⟨b, o, h, _⟩ := hy (by simp); cases h
    subst hys
    have hrun := run_append_none_any (P := P) (w := w) base t o.type e i 1 c ht hi0 v xs.length (cellsI xs) hown
    rw [List.length_nil] at hx
    simp [execOp, ho, resolve, invoke, builtin, hs, hx, hrun, Result.andThen]
    exact hk v w (by simpa using hown) ⟨rfl, rfl, rfl, Nat.le_refl _, fun _ _ _ => rfl⟩ (.inl rfl)
  | some ad =>
    have hcell : ∀ j u, (cellsI ys)[j]? = some u → w.cell? (ad.add j) = some u := fun j u hj => by
      have hjl : j < ys.length := by
        have := (List.getElem?_eq_some_iff.1 hj).1
        rwa [cellsI_length] at this
      obtain ⟨b, o, ha, hc⟩ := hy (fun e => by rw [e] at hjl; cases hjl)
      cases ha
      rw [cellsI_get ys j hjl] at hj
      cases hj
      rw [Addr.add_lit]
      exact hc j hjl
    obtain ⟨v', w', hrun, h1, h2, _, h4⟩ := run_append_own_at (P := P) w base t o.type e i (.int .i64 0) 1 8 ht hi0 hz hs1 hb1 rfl (by decide) v xs.length (cellsI xs) hown ad ys.length c (cellsI ys) (by rw [cellsI_length]; omega) hcell
      (fun u hu => by unfold cellsI at hu; obtain ⟨q, _, rfl⟩ := List.mem_map.1 hu; rfl) (by unfold maxLen; omega) (by omega) hbase
    simp [execOp, ho, resolve, invoke, builtin, hs, hx, hrun, Result.andThen]
    exact hk v' w' (by rw [List.length_append, ← cellsI_append]; exact h1) h2 h4
end
end Go.Proofs.Ytkdjfhbdcfjnnaa
