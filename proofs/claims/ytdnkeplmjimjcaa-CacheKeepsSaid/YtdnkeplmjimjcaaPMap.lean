/-
  A map from integers to pointers, told by a function from its keys to blocks.
-/
import Derived.Test.YtdnkeplmjimjcaaMem
import Derived.Test.YtdnkeplmjimjcaaRows
import Derived.Maps.OwnSet
import Derived.Maps.OwnOps
import Derived.OpenShut
namespace Go.Proofs.Ytdnkeplmjimjcaa
open Go.RowKit Go.Maps

/-- How a pointer reads: as its block's number. -/
def ptrE (v : Value) : Option (DataW (Option Nat) × List MemPlace) :=
  match v with
  | .pointer none => some (.held none, [])
  | .pointer (some ⟨b, 0, none⟩) => some (.held (some b), [])
  | _ => none
abbrev ptrV (p : Option Nat) : Value := .pointer (p.map fun b => ⟨b, 0, none⟩)
theorem ptrE_mk (p : Option Nat) : ptrE (ptrV p) = some (.held p, []) := by cases p <;> rfl
theorem ptrE_inv {v : Value} {z : DataW (Option Nat) × List MemPlace} (h : ptrE v = some z) : ∃ p, v = ptrV p ∧ z = (.held p, []) := by
  unfold ptrE at h
  split at h
  · cases h; exact ⟨none, rfl, rfl⟩
  · cases h; exact ⟨some _, rfl, rfl⟩
  · cases h
theorem keyI : Keyed Try.prog 3 := int_keyed Try.underlying3
theorem isKeyI (x : Int) : WideAt.IsKeyLit (.int .i64 x) := by first | trivial | exact ⟨⟩ | simp [WideAt.IsKeyLit]
/-- Block b is a map that leads from x to the block f x. -/
def PM (w : World) (b n : Nat) (f : Int → Option Nat) : Prop :=
  ∃ D : DataW (Option Nat), w.ownsMap Try.prog 3 ptrE b n D ∧ ∀ x : Int, Maps.has D (.int .i64 x) = (f x).isSome ∧ D.atKey (.int .i64 x) (.held none) = .held (f x)
def updO {α : Type} (f : Int → α) (x : Int) (v : α) : Int → α := fun y => if y = x then v else f y
theorem updO_at {α : Type} (f : Int → α) (x : Int) (v : α) : updO f x v x = v := by simp [updO]
theorem updO_ne {α : Type} (f : Int → α) {x y : Int} (v : α) (h : y ≠ x) : updO f x v y = f y := by simp [updO, h]
theorem wfI (x : Int) (h1 : -9223372036854775808 ≤ x) (h2 : x ≤ 9223372036854775807) : (Lit.int .i64 x).wf = true := by simp [Lit.wf, IntKind.min, IntKind.max, IntKind.signed, IntKind.bits]; omega
theorem litI_ne {x y : Int} (h : y ≠ x) : (Lit.int .i64 y) ≠ (Lit.int .i64 x) := fun e => h (by injection e)
theorem PM.made (w : World) : PM (w.alloc (.map #[] 0)) w.heap.size 0 (fun _ => none) :=
  ⟨_, World.ownsMap_made w Try.prog 3 ptrE, fun x => ⟨by simp [Maps.has], rfl⟩⟩
theorem PM.kept {w w' : World} {b n : Nat} {f : Int → Option Nat} (h : PM w b n f) {row : Option Nat} (hg : w.grownBy w' row) (hne : some b ≠ row) : PM w' b n f := by
  obtain ⟨D, h1, h2⟩ := h
  exact ⟨D, h1.kept hg hne, h2⟩
theorem PM.later {w w' : World} {b n : Nat} {f : Int → Option Nat} (h : PM w b n f) (hb : Below w.heap.size w w') : PM w' b n f := h.kept (row := none) (grown_of_below hb none) (by simp)
theorem PM.mono {w : World} {b n n' : Nat} {f : Int → Option Nat} (h : PM w b n f) (hn : n ≤ n') : PM w b n' f := by
  obtain ⟨D, h1, h2⟩ := h
  exact ⟨D, h1.mono hn, h2⟩
theorem PM.far {w : World} {b n : Nat} {f : Int → Option Nat} (h : PM w b n f) {a : Addr} (ha : b ≠ a.block) (u : Value) : PM (w.setCell a u) b n f := by
  obtain ⟨D, h1, h2⟩ := h
  exact ⟨D, h1.setCell ha u, h2⟩
theorem PM.lt {w : World} {b n : Nat} {f : Int → Option Nat} (h : PM w b n f) : b < w.heap.size := by
  obtain ⟨D, h1, h2⟩ := h
  exact h1.lt
theorem PM.blo {w : World} {b n g : Nat} {f : Int → Option Nat} {t : TypeId} {cs : Array Value} (h : PM w b n f) (hb : Blo w g t cs) : b ≠ g := by
  rintro rfl
  obtain ⟨D, ⟨es, clock, hx, _⟩, _⟩ := h
  unfold Blo at hb
  rw [hx] at hb
  cases hb
section
variable (w : World) {ops : Array Oper} {rest : List Oper} {o : Oper} {a : Act} {Q : Exit → Act → World → Prop}
theorem wp_look_ok (hg : o.guard = none) (m x : Operand) (t : TypeId) (hop : o.op = Op.lookup t m x true) (e : TypeId) (ht : Try.prog.underlying t = some (.map 3 e)) (hz : (zeroValue e).run Try.prog w = .ok (.pointer none) w) (b n : Nat) (f : Int → Option Nat)
    (hm : a.eval m = .map (some b)) (hown : PM w b n f) (k : Int) (hx : a.eval x = .int .i64 k) (hkw : (Lit.int .i64 k).wf = true)
    (hK : wpList Try.prog ops Q rest (a.put o.dst (.tuple #[ptrV (f k), .bool (f k).isSome])) w) : wpList Try.prog ops Q (o :: rest) a w := by
  obtain ⟨D, h1, h2⟩ := hown
  refine wpList_lookup_own_ok w hg m x t hop 3 e keyI ht ptrE hz (.held none) [] rfl b n D hm h1 _ (.int .i64 k) hx (keyOf_int_mk Try.underlying3 hkw) ?_
  intro v ps hv
  obtain ⟨p, rfl, hp⟩ := ptrE_inv hv
  have e1 := (h2 k).2
  have e2 : D.atKey (.int .i64 k) (.held none) = .held p := congrArg Prod.fst hp
  rw [e2] at e1
  cases e1
  rw [(h2 k).1]
  exact hK
theorem wp_look (hg : o.guard = none) (m x : Operand) (t : TypeId) (hop : o.op = Op.lookup t m x false) (e : TypeId) (ht : Try.prog.underlying t = some (.map 3 e)) (hz : (zeroValue e).run Try.prog w = .ok (.pointer none) w) (b n : Nat) (f : Int → Option Nat)
    (hm : a.eval m = .map (some b)) (hown : PM w b n f) (k : Int) (hx : a.eval x = .int .i64 k) (hkw : (Lit.int .i64 k).wf = true)
    (hK : wpList Try.prog ops Q rest (a.put o.dst (ptrV (f k))) w) : wpList Try.prog ops Q (o :: rest) a w := by
  obtain ⟨D, h1, h2⟩ := hown
  refine wpList_plain hg fun K' hK' => ?_
  obtain ⟨v, ps, hrun, hv⟩ := h1.lookup keyI ht hz (zd := .held none) (zp := []) rfl (key := .int .i64 k) (kl := .int .i64 k) (keyOf_int_mk Try.underlying3 hkw)
  obtain ⟨p, rfl, hp⟩ := ptrE_inv hv
  have e1 := (h2 k).2
  have e2 : D.atKey (.int .i64 k) (.held none) = .held p := congrArg Prod.fst hp
  rw [e2] at e1
  cases e1
  unfold Oper.wp
  simp [execOp, hop, hm, hx, hrun, Result.andThen]
  exact hK' _ _ hK
theorem wp_look_ok_some (hg : o.guard = none) (m x : Operand) (t : TypeId) (hop : o.op = Op.lookup t m x true) (e : TypeId) (ht : Try.prog.underlying t = some (.map 3 e)) (hz : (zeroValue e).run Try.prog w = .ok (.pointer none) w) (b n : Nat) (f : Int → Option Nat)
    (hm : a.eval m = .map (some b)) (hown : PM w b n f) (k : Int) (hx : a.eval x = .int .i64 k) (hkw : (Lit.int .i64 k).wf = true) (g : Nat) (hf : f k = some g)
    (hK : wpList Try.prog ops Q rest (a.put o.dst (.tuple #[.pointer (some ⟨g, 0, none⟩), .bool true])) w) : wpList Try.prog ops Q (o :: rest) a w :=
  wp_look_ok w hg m x t hop e ht hz b n f hm hown k hx hkw (by rw [hf]; exact hK)
theorem wp_look_ok_none (hg : o.guard = none) (m x : Operand) (t : TypeId) (hop : o.op = Op.lookup t m x true) (e : TypeId) (ht : Try.prog.underlying t = some (.map 3 e)) (hz : (zeroValue e).run Try.prog w = .ok (.pointer none) w) (b n : Nat) (f : Int → Option Nat)
    (hm : a.eval m = .map (some b)) (hown : PM w b n f) (k : Int) (hx : a.eval x = .int .i64 k) (hkw : (Lit.int .i64 k).wf = true) (hf : f k = none)
    (hK : wpList Try.prog ops Q rest (a.put o.dst (.tuple #[.pointer none, .bool false])) w) : wpList Try.prog ops Q (o :: rest) a w :=
  wp_look_ok w hg m x t hop e ht hz b n f hm hown k hx hkw (by rw [hf]; exact hK)
theorem wp_look_some (hg : o.guard = none) (m x : Operand) (t : TypeId) (hop : o.op = Op.lookup t m x false) (e : TypeId) (ht : Try.prog.underlying t = some (.map 3 e)) (hz : (zeroValue e).run Try.prog w = .ok (.pointer none) w) (b n : Nat) (f : Int → Option Nat)
    (hm : a.eval m = .map (some b)) (hown : PM w b n f) (k : Int) (hx : a.eval x = .int .i64 k) (hkw : (Lit.int .i64 k).wf = true) (g : Nat) (hf : f k = some g)
    (hK : wpList Try.prog ops Q rest (a.put o.dst (.pointer (some ⟨g, 0, none⟩))) w) : wpList Try.prog ops Q (o :: rest) a w :=
  wp_look w hg m x t hop e ht hz b n f hm hown k hx hkw (by rw [hf]; exact hK)
theorem wp_look_none (hg : o.guard = none) (m x : Operand) (t : TypeId) (hop : o.op = Op.lookup t m x false) (e : TypeId) (ht : Try.prog.underlying t = some (.map 3 e)) (hz : (zeroValue e).run Try.prog w = .ok (.pointer none) w) (b n : Nat) (f : Int → Option Nat)
    (hm : a.eval m = .map (some b)) (hown : PM w b n f) (k : Int) (hx : a.eval x = .int .i64 k) (hkw : (Lit.int .i64 k).wf = true) (hf : f k = none)
    (hK : wpList Try.prog ops Q rest (a.put o.dst (.pointer none)) w) : wpList Try.prog ops Q (o :: rest) a w :=
  wp_look w hg m x t hop e ht hz b n f hm hown k hx hkw (by rw [hf]; exact hK)
theorem wp_map_put (hg : o.guard = none) (m x v : Operand) (t : TypeId) (hop : o.op = Op.mapUpdate t m x v) (e : TypeId) (ht : Try.prog.underlying t = some (.map 3 e)) (b n : Nat) (f : Int → Option Nat)
    (hm : a.eval m = .map (some b)) (hown : PM w b n f) (hn : n < 1000000) (k : Int) (hx : a.eval x = .int .i64 k) (hkw : (Lit.int .i64 k).wf = true) (p : Option Nat) (hv : a.eval v = ptrV p) (hp : p.isSome = true)
    (hK : ∀ w', PM w' b (n + 1) (updO f k p) → w.grownBy w' (some b) → wpList Try.prog ops Q rest (a.put o.dst undef) w') : wpList Try.prog ops Q (o :: rest) a w := by
  obtain ⟨D, h1, h2⟩ := hown
  refine wpList_mapUpdate_own w hg m x v t hop 3 e keyI ht ptrE b n D hm h1 (by unfold maxLen; omega) _ _ (.int .i64 k) hx hv (keyOf_int_mk Try.underlying3 hkw) (.held p) [] (ptrE_mk p) ?_
  intro w' h3 h4
  have hT := h1.tidy keyI
  refine hK w' ⟨_, h3, fun y => ?_⟩ h4
  by_cases hy : y = k
  · subst hy
    rw [updO_at, has_put_same hT.isMap (isKeyI y), atKey_put_same hT.isMap (isKeyI y), hp]
    exact ⟨rfl, rfl⟩
  · rw [updO_ne _ _ hy, has_put_other (litI_ne hy), atKey_put_other (litI_ne hy)]
    exact h2 y
theorem wp_map_del (hg : o.guard = none) (m x : Operand) (t : TypeId) (hop : o.op = Op.call { callee := Callee.builtin Builtin.delete, args := #[m, x], argTypes := #[t, 3] }) (e : TypeId) (ht : Try.prog.underlying t = some (.map 3 e)) (b n : Nat) (f : Int → Option Nat)
    (hm : a.eval m = .map (some b)) (hown : PM w b n f) (k : Int) (hx : a.eval x = .int .i64 k) (hkw : (Lit.int .i64 k).wf = true)
    (hK : ∀ w', PM w' b n (updO f k none) → w.grownBy w' (some b) → wpList Try.prog ops Q rest (a.put o.dst (.tuple #[])) w') : wpList Try.prog ops Q (o :: rest) a w := by
  obtain ⟨D, h1, h2⟩ := hown
  refine wpList_delete_own w hg m x t 3 hop e keyI ht ptrE b n D hm h1 _ (.int .i64 k) hx (keyOf_int_mk Try.underlying3 hkw) ?_
  intro w' h3 h4
  have hT := h1.tidy keyI
  refine hK w' ⟨_, h3, fun y => ?_⟩ h4.grown
  by_cases hy : y = k
  · subst hy
    rw [updO_at, has_del_same, atKey_del_same]
    exact ⟨rfl, rfl⟩
  · rw [updO_ne _ _ hy, has_del_other (litI_ne hy), atKey_del_other (litI_ne hy)]
    exact h2 y
end
end Go.Proofs.Ytdnkeplmjimjcaa
