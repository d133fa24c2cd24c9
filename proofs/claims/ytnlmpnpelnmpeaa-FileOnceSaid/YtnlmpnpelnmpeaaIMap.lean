/-
  A map from integers to integers, told by a function; its keys.
-/
import Derived.Test.YtnlmpnpelnmpeaaPMap
namespace Go.Proofs.Ytnlmpnpelnmpeaa
open Go.RowKit Go.Maps

theorem zeroI (w : World) : (zeroValue 3).run Try.prog w = .ok (.int .i64 0) w := by kernel_rfl
/-- Block g is a map that has c at x where v x is some c; ks are its keys, each once. -/
def IM (w : World) (g n : Nat) (v : Int → Option Int) (ks : List Int) : Prop :=
  ∃ D : DataW Nat, w.ownsMap Try.prog 3 (plainElem (H := Nat) Try.prog 3) g n D ∧ (∀ x : Int, Maps.has D (.int .i64 x) = (v x).isSome ∧ D.atKey (.int .i64 x) (.lit (.int .i64 0)) = .lit (.int .i64 ((v x).getD 0))) ∧
    ks.Nodup ∧ (∀ x, x ∈ ks ↔ (v x).isSome = true) ∧ Maps.size D = ks.length
theorem IM.made (w : World) : IM (w.alloc (.map #[] 0)) w.heap.size 0 (fun _ => none) [] :=
  ⟨_, World.ownsMap_made w Try.prog 3 _, fun x => ⟨by simp [Maps.has], rfl⟩, List.nodup_nil, fun x => by simp, rfl⟩
section
variable {w w' : World} {g n : Nat} {v : Int → Option Int} {ks : List Int}
theorem IM.kept (h : IM w g n v ks) {row : Option Nat} (hg : w.grownBy w' row) (hne : some g ≠ row) : IM w' g n v ks := by
  obtain ⟨D, h1, h2⟩ := h
  exact ⟨D, h1.kept hg hne, h2⟩
theorem IM.later (h : IM w g n v ks) (hb : Below w.heap.size w w') : IM w' g n v ks := h.kept (row := none) (grown_of_below hb none) (by simp)
theorem IM.obj (h : IM w g n v ks) : ∃ es c, w.heap[g]? = some (.map es c) := by
  obtain ⟨D, ⟨es, c, hx, _⟩, _⟩ := h
  exact ⟨es, c, hx⟩
theorem IM.same (h : IM w g n v ks) (he : ∀ o, w.heap[g]? = some o → w'.heap[g]? = some o) : IM w' g n v ks := by
  obtain ⟨D, ⟨es, c, hx, hr⟩, h2⟩ := h
  exact ⟨D, ⟨es, c, he _ hx, hr⟩, h2⟩
theorem IM.lt (h : IM w g n v ks) : g < w.heap.size := by
  obtain ⟨es, c, hx⟩ := h.obj
  exact (Array.getElem?_eq_some_iff.1 hx).1
theorem IM.blo (h : IM w g n v ks) {k : Nat} {t : TypeId} {cs : Array Value} (hb : Blo w k t cs) : g ≠ k := by
  rintro rfl
  obtain ⟨es, c, hx⟩ := h.obj
  unfold Blo at hb
  rw [hx] at hb
  cases hb
def addK (ks : List Int) (k : Int) : List Int := if k ∈ ks then ks else ks ++ [k]
theorem addK_mem (ks : List Int) (k x : Int) : x ∈ addK ks k ↔ x ∈ ks ∨ x = k := by
  unfold addK
  split
  · constructor
    · exact .inl
    · rintro (h | rfl)
      · exact h
      · assumption
  · simp
end
section
variable (w : World) {ops : Array Oper} {rest : List Oper} {o : Oper} {a : Act} {Q : Exit → Act → World → Prop}
theorem wp_imap_get (hg : o.guard = none) (m x : Operand) (hop : o.op = Op.lookup 32 m x false) (g n : Nat) (v : Int → Option Int) (ks : List Int)
    (hm : a.eval m = .map (some g)) (hown : IM w g n v ks) (k : Int) (hx : a.eval x = .int .i64 k) (hkw : (Lit.int .i64 k).wf = true) (c : Int) (hc : (v k).getD 0 = c)
    (hK : wpList Try.prog ops Q rest (a.put o.dst (.int .i64 c)) w) : wpList Try.prog ops Q (o :: rest) a w := by
  obtain ⟨D, h1, h2, _⟩ := hown
  refine wpList_lookup_own_int w hg m x 32 hop 3 3 .i64 keyI Try.underlying32 Try.underlying3 (zeroI w) g n D hm h1 _ (.int .i64 k) hx (keyOf_int_mk Try.underlying3 hkw) ?_
  intro c' hat _
  rw [(h2 k).2] at hat
  injection hat with hat
  injection hat with _ hat
  rw [← hat, hc]
  exact hK
theorem wp_imap_put (hg : o.guard = none) (m x y : Operand) (hop : o.op = Op.mapUpdate 32 m x y) (g n : Nat) (v : Int → Option Int) (ks : List Int)
    (hm : a.eval m = .map (some g)) (hown : IM w g n v ks) (hn : n < 1000000) (k : Int) (hx : a.eval x = .int .i64 k) (hkw : (Lit.int .i64 k).wf = true) (c : Int) (hy : a.eval y = .int .i64 c) (hcw : (Lit.int .i64 c).wf = true)
    (hK : ∀ w', IM w' g (n + 1) (updO v k (some c)) (addK ks k) → w.grownBy w' (some g) → wpList Try.prog ops Q rest (a.put o.dst undef) w') : wpList Try.prog ops Q (o :: rest) a w := by
  obtain ⟨D, h1, h2, h5, h6, h7⟩ := hown
  refine wpList_mapUpdate_own w hg m x y 32 hop 3 3 keyI Try.underlying32 _ g n D hm h1 (by unfold maxLen; omega) _ _ (.int .i64 k) hx hy (keyOf_int_mk Try.underlying3 hkw) _ [] (plainElem_int Try.underlying3 hcw) ?_
  intro w' h3 h4
  have hT := h1.tidy keyI
  refine hK w' ⟨_, h3, fun z => ?_, ?_, fun z => ?_, ?_⟩ h4
  · by_cases hz : z = k
    · subst hz
      rw [updO_at, has_put_same hT.isMap (isKeyI z), atKey_put_same hT.isMap (isKeyI z)]
      exact ⟨rfl, rfl⟩
    · rw [updO_ne _ _ hz, has_put_other (litI_ne hz), atKey_put_other (litI_ne hz)]
      exact h2 z
  · unfold addK
    split
    · exact h5
    · rename_i hk
      rw [List.nodup_append]
      exact ⟨h5, by simp, fun a ha b hb => by simp at hb; subst hb; intro e; subst e; exact hk ha⟩
  · rw [addK_mem, h6]
    by_cases hz : z = k
    · subst hz; rw [updO_at]; simp
    · rw [updO_ne _ _ hz]; simp [hz]
  · rw [size_put hT, (h2 k).1, h7]
    unfold addK
    by_cases hk : k ∈ ks
    · rw [if_pos hk, if_pos ((h6 k).1 hk)]
    · rw [if_neg hk, if_neg (fun e => hk ((h6 k).2 e)), List.length_append]; rfl
theorem wp_imap_del (hg : o.guard = none) (m x : Operand) (hop : o.op = Op.call { callee := Callee.builtin Builtin.delete, args := #[m, x], argTypes := #[32, 3] }) (g n : Nat) (v : Int → Option Int) (ks : List Int)
    (hm : a.eval m = .map (some g)) (hown : IM w g n v ks) (k : Int) (hx : a.eval x = .int .i64 k) (hkw : (Lit.int .i64 k).wf = true) (hin : k ∈ ks)
    (hK : ∀ w', IM w' g n (updO v k none) (ks.erase k) → w.grownBy w' (some g) → wpList Try.prog ops Q rest (a.put o.dst (.tuple #[])) w') : wpList Try.prog ops Q (o :: rest) a w := by
  obtain ⟨D, h1, h2, h5, h6, h7⟩ := hown
  refine wpList_delete_own w hg m x 32 3 hop 3 keyI Try.underlying32 _ g n D hm h1 _ (.int .i64 k) hx (keyOf_int_mk Try.underlying3 hkw) ?_
  intro w' h3 h4
  have hT := h1.tidy keyI
  refine hK w' ⟨_, h3, fun z => ?_, h5.erase k, fun z => ?_, ?_⟩ h4.grown
  · by_cases hz : z = k
    · subst hz
      rw [updO_at, has_del_same, atKey_del_same]
      exact ⟨rfl, rfl⟩
    · rw [updO_ne _ _ hz, has_del_other (litI_ne hz), atKey_del_other (litI_ne hz)]
      exact h2 z
  · rw [h5.mem_erase_iff, h6]
    by_cases hz : z = k
    · subst hz; rw [updO_at]; simp
    · rw [updO_ne _ _ hz]; simp [hz]
  · have e := size_del (k := .int .i64 k) hT
    have hp := List.length_pos_of_mem hin
    rw [(h2 k).1, if_pos ((h6 k).1 hin), h7] at e
    rw [List.length_erase_of_mem hin]
    omega
theorem wp_imap_len (hg : o.guard = none) (m : Operand) (hop : o.op = Op.call { callee := Callee.builtin Builtin.len, args := #[m], argTypes := #[32] }) (g n : Nat) (v : Int → Option Int) (ks : List Int)
    (hm : a.eval m = .map (some g)) (hown : IM w g n v ks)
    (hK : wpList Try.prog ops Q rest (a.put o.dst (.int .i64 (ks.length : Nat))) w) : wpList Try.prog ops Q (o :: rest) a w := by
  obtain ⟨D, h1, h2, h5, h6, h7⟩ := hown
  refine wpList_len_own w hg m 32 hop 3 3 Try.underlying32 _ g n D hm h1 ?_
  rw [h7]
  exact hK
theorem wp_imap_get_g (hw : Region.wanted o (yielded ops a.tmps) = true) (m x : Operand) (hop : o.op = Op.lookup 32 m x false) (g n : Nat) (v : Int → Option Int) (ks : List Int)
    (hm : a.eval m = .map (some g)) (hown : IM w g n v ks) (k : Int) (hx : a.eval x = .int .i64 k) (hkw : (Lit.int .i64 k).wf = true) (c : Int) (hc : (v k).getD 0 = c)
    (hK : wpList Try.prog ops Q rest (a.put o.dst (.int .i64 c)) w) : wpList Try.prog ops Q (o :: rest) a w := by
  obtain ⟨D, h1, h2, _⟩ := hown
  obtain ⟨c', hrun, hat, _⟩ := h1.lookup_int keyI Try.underlying32 Try.underlying3 (zeroI w) (keyOf_int_mk Try.underlying3 hkw)
  rw [(h2 k).2] at hat
  injection hat with hat
  injection hat with _ hat
  refine wpList_step fun K hK' => ?_
  simp only [hw, if_true]
  unfold Oper.wp
  simp [execOp, hop, hm, hx, hrun, Result.andThen]
  rw [← hat, hc]
  exact hK' _ _ hK
theorem wp_imap_len_g (hw : Region.wanted o (yielded ops a.tmps) = true) (m : Operand) (hop : o.op = Op.call { callee := Callee.builtin Builtin.len, args := #[m], argTypes := #[32] }) (g n : Nat) (v : Int → Option Int) (ks : List Int)
    (hm : a.eval m = .map (some g)) (hown : IM w g n v ks)
    (hK : wpList Try.prog ops Q rest (a.put o.dst (.int .i64 (ks.length : Nat))) w) : wpList Try.prog ops Q (o :: rest) a w := by
  obtain ⟨D, h1, h2, h5, h6, h7⟩ := hown
  refine wpList_step fun K hK' => ?_
  simp only [hw, if_true]
  unfold Oper.wp
  simp [execOp, hop, resolve, invoke, builtin, hm, h1.len Try.underlying32 o.type, Result.andThen]
  rw [h7]
  exact hK' _ _ hK
end
end Go.Proofs.Ytnlmpnpelnmpeaa
