/-
  Pack: the packer in memory; next, take, last, current.
-/
import Derived.Test.YtonlhkhjdnaojaaPcSize
import Derived.Deep.RegionLaw
import Derived.BigRegion
import Derived.Deep.DeepCutAuto
namespace Go.Proofs.Ytonlhkhjdnaojaa
open Go.RowKit

structure Pk (w : World) (base g : Nat) (sz lf bl wd : Int) (op : Bool) (pv : Value) (fv : Nat → Value) (av : Nat → Nat → Value) (I V : Nat → Int) (N : Nat) (nw : Nat → Bool) (Z : Nat → Pz) : Prop where
  top : Blo w g PK #[pv, .int .i64 sz, .int .i64 lf, .int .i64 bl, .int .i64 wd, .bool op]
  pm : Pm w base pv fv av I V N nw Z
  bg : base ≤ g
section
variable {w w' : World} {base g N : Nat} {sz lf bl wd : Int} {op : Bool} {pv : Value} {fv : Nat → Value} {av : Nat → Nat → Value} {I V : Nat → Int} {nw : Nat → Bool} {Z : Nat → Pz}
theorem Pk.later (h : Pk w base g sz lf bl wd op pv fv av I V N nw Z) (hb : Below w.heap.size w w') : Pk w' base g sz lf bl wd op pv fv av I V N nw Z := ⟨h.top.later hb, h.pm.later hb, h.bg⟩
theorem Pk.put (h : Pk w base g sz lf bl wd op pv fv av I V N nw Z) (i : Nat) (u : Value) {lf' bl' wd' : Int} {op' : Bool} (he : (#[pv, .int .i64 sz, .int .i64 lf, .int .i64 bl, .int .i64 wd, .bool op] : Array Value).setIfInBounds i u = #[pv, .int .i64 sz, .int .i64 lf', .int .i64 bl', .int .i64 wd', .bool op']) :
    Pk (w.setCell ⟨g, i, none⟩ u) base g sz lf' bl' wd' op' pv fv av I V N nw Z :=
  ⟨by rw [← he]; exact h.top.put i u, h.pm.far h.top (out_put _ _ _ rfl) (by decide) (by decide) (by decide), h.bg⟩
theorem Pk.drew (h : Pk w base g sz lf bl wd op pv fv av I V N nw Z) : Pk w.drew base g sz lf bl wd op pv fv av I V N nw Z := h.later (Below.refl _ _).drew
end
theorem laid_src (w : World) (t : TypeId) (cs : Array Value) (l : List Value) (hl : cs.toList = l) : ∀ ad, some (⟨w.heap.size, 0, none⟩ : Addr) = some ad → ∀ j u, l[j]? = some u → (w.alloc (.cells cs t)).cell? (ad.add j) = some u := fun ad e j u hj => by
  cases e
  rw [Addr.add_lit, Nat.zero_add, (blo_laid w t cs).cell, ← Array.getElem?_toList, hl, hj]
/-- No row lies in this block. -/
def Ex (b : Nat) (pv : Value) (fv : Nat → Value) (av : Nat → Nat → Value) (N : Nat) (Z : Nat → Pz) : Prop := pv.ownBlock ≠ some b ∧ (∀ i, i < N → (fv i).ownBlock ≠ some b) ∧ ∀ i, i < N → ∀ k, k ≤ (Z i).nf → (av i k).ownBlock ≠ some b
theorem wp_append_rowH {P : Program} {w : World} {ops : Array Oper} {rest : List Oper} {o : Oper} {act : Act} {Q : Exit → Act → World → Prop} (hgd : o.guard = none) (s x : Operand) (t : TypeId)
    (ho : o.op = .call { callee := .builtin .append, args := #[s, x], argTypes := #[t, t] })
    (base : Nat) (e : TypeId) (z : Value) (size bytes : Nat) (ht : P.underlying t = some (.slice e)) (hi : (P.info? e).map (fun i => (i.zero, i.size, i.bytes)) = some (some z, size, bytes)) (hzs : z.cells.size = size) (hsz : 0 < size) (hby : bytes ≤ 1000)
    (v : Value) (n : Nat) (xs : List Value) (hs : act.eval s = v) (hown : w.ownsRow base e size v n xs)
    (ao : Option Addr) (m c : Nat) (ys : List Value) (hx : act.eval x = .slice ao m c) (hl : ys.length = m * size) (hy : ∀ ad, ao = some ad → ∀ j u, ys[j]? = some u → w.cell? (ad.add j) = some u) (h1 : ∀ u ∈ ys, u.oneCell' = true) (hnone : ao = none → m = 0 ∧ c = 0)
    (hroom : n + m ≤ 1000000) (hbase : base ≤ w.heap.size)
    (h : ∀ a' cap' w', w'.ownsRow base e size (.slice a' (n + m) cap') (n + m) (xs ++ ys) → w.grownBy w' v.ownBlock → ((Value.slice a' (n + m) cap').ownBlock = v.ownBlock ∨ (Value.slice a' (n + m) cap').ownBlock = some w.heap.size) → wpList P ops Q rest (act.put o.dst (.slice a' (n + m) cap')) w') : wpList P ops Q (o :: rest) act w := by
  refine wpList_plain hgd fun K hK => ?_
  have hw : Region.wanted o (yielded ops act.tmps) = true := by simp [Region.wanted, hgd]
  have := step_append_row (P := P) (ops := ops) (Q := Q) (o := o) (a := act) (w := w) (K := K) (E := True) hgd s x t ho base e z size bytes ht hi hzs hsz hby v n xs hs hown ao m c ys hx hl hy h1 hnone hroom hbase (fun v' w' h2 h3 h4 => by
    obtain ⟨a', cap', rfl, _⟩ := own_slice h2
    exact hK _ _ (h a' cap' w' h2 h3 h4))
  rwa [if_pos hw] at this
theorem pc_one (b : Bool) : ∀ u ∈ [Value.bool b, .slice none 0 0, .slice none 0 0], u.oneCell' = true := fun u hu => by
  rcases List.mem_cons.1 hu with e | hu
  · rw [e]; rfl
  · rcases List.mem_cons.1 hu with e | hu
    · rw [e]; rfl
    · rw [List.mem_singleton.1 hu]; rfl
theorem size_none (W : World) : Calls Try.prog 28 #[part 0 0 0 0 0 none 0 0 none 0 0] W fun e W' => e = .returned (.int .i64 10) ∧ Below W.heap.size W W' :=
  size_any (l := []) 0 0 0 0 0 none 0 0 none 0 0 (Fis.nil _ _) rfl (by decide) (by decide)
/-- What lies where the packer is changed. -/
structure PkO (E : Nat → Prop) (w : World) (base g : Nat) (sz lf bl wd : Int) (op : Bool) (I V : Nat → Int) (N : Nat) (nw : Nat → Bool) (Z : Nat → Pz) (w' : World) : Prop where
  pk : ∃ pv fv av, Pk w' base g sz lf bl wd op pv fv av I V N nw Z ∧ ∀ b, b < w.heap.size → b ≠ g → E b → Ex b pv fv av N Z ∧ w'.heap[b]? = w.heap[b]?
  below : Below base w w'
section
variable {w w' : World} {base g N : Nat} {sz lf bl wd : Int} {op : Bool} {pv : Value} {fv : Nat → Value} {av : Nat → Nat → Value} {I V : Nat → Int} {nw : Nat → Bool} {Z : Nat → Pz}
/-- Behind the append and the store. -/
theorem Pk.next {w1 w7 : World} {b : Bool} {v' : Value} (h : Pk w1 base g sz lf bl wd op pv fv av I V N nw Z) (hB : Below base w w1) (hw : base ≤ w.heap.size)
    (ho : w7.ownsRow base PC 3 v' (N + 1) ((flat3 N fun i => (.bool (nw i), fv i, av i 0)) ++ [.bool b, .slice none 0 0, .slice none 0 0])) (hg : (w1.alloc (.cells #[.bool b, .slice none 0 0, .slice none 0 0] PC)).grownBy w7 pv.ownBlock)
    (hat : v'.ownBlock = pv.ownBlock ∨ v'.ownBlock = some (w1.alloc (.cells #[.bool b, .slice none 0 0, .slice none 0 0] PC)).heap.size) :
    Blo w7 g PK #[pv, .int .i64 sz, .int .i64 lf, .int .i64 bl, .int .i64 wd, .bool op] ∧ ∃ fv' av', Pk (w7.setCell ⟨g, 0, none⟩ v') base g sz lf bl wd op v' fv' av' I V (N + 1) (upd nw N b) (upd Z N z0) ∧ Below base w (w7.setCell ⟨g, 0, none⟩ v') ∧ ∀ q, q < w1.heap.size → q ≠ g → Ex q pv fv av N Z → Ex q v' fv' av' (N + 1) (upd Z N z0) ∧ (w7.setCell ⟨g, 0, none⟩ v').heap[q]? = w1.heap[q]? := by
  have h1 := h.later (sup_pc w1 (.cells #[.bool b, .slice none 0 0, .slice none 0 0] PC))
  have hb1 : base ≤ w1.heap.size := Nat.le_trans hw hB.size
  have ht := h1.top.grown hg (h1.top.row_apart h1.pm.row (by decide))
  have hp := h1.pm.next ho hg
  refine ⟨ht, _, _, ⟨ht.put 0 v', hp.far ht (out_put _ _ _ rfl) (by decide) (by decide) (by decide), h.bg⟩, ?_, fun q hq hqg hE => ⟨⟨fun e => ?_, fun i hi => ?_, fun i hi k hk => ?_⟩, ?_⟩⟩
  rotate_left
  · rcases hat with h5 | h5
    · exact hE.1 (h5.symm.trans e)
    · rw [h5] at e
      have : (w1.alloc (.cells #[.bool b, .slice none 0 0, .slice none 0 0] PC)).heap.size = q := by simpa using e
      simp at this; omega
  · by_cases e : i = N
    · subst e; rw [upd_at]; intro h; cases h
    · rw [upd_ne _ _ _ e]; exact hE.2.1 i (by omega)
  · by_cases e : i = N
    · subst e; rw [upd_at]; intro h; cases h
    · rw [upd_ne _ _ _ e] at hk ⊢; exact hE.2.2 i (by omega) k hk
  · rw [Below.heap_setCell _ _ _ _ hqg, hg.block q (by simp; omega) (fun e => hE.1 e.symm)]
    exact (sup_pc w1 (.cells #[.bool b, .slice none 0 0, .slice none 0 0] PC)).block q hq
  have hB1 := hB.trans ((sup_pc w1 (.cells #[.bool b, .slice none 0 0, .slice none 0 0] PC)).mono hb1)
  exact (hB1.grown hg (by simp; omega) (fun q e => (own_bd h1.pm.row e).1)).setCell (p := ⟨g, 0, none⟩) h.bg _
set_option maxHeartbeats 2000000 in
theorem next_a (h : Pk w base g sz lf bl wd true pv fv av I V N nw Z) (hw : base ≤ w.heap.size) (hb0 : 0 ≤ bl) (hb1 : bl ≤ 100) (hl0 : 0 ≤ lf) (hl1 : lf ≤ 100) (hs : sz ≤ 100) (hs0 : 0 ≤ sz) (hN : N ≤ 1000) (hlt : lf - bl < 3) :
    Calls Try.prog 31 #[.pointer (some ⟨g, 0, none⟩)] w fun e w' => e = .returned (.tuple #[]) ∧ PkO (fun b => Ex b pv fv av N Z) w base g sz sz 2 10 true I V (N + 1) (upd nw N true) (upd Z N z0) w' := by
  have hk1 : Pk (((w.setCell ⟨g, 2, none⟩ (.int .i64 (lf - bl))).setCell ⟨g, 2, none⟩ (.int .i64 sz)).drew) base g sz sz bl wd true pv fv av I V N nw Z := ((h.put 2 (.int .i64 (lf - bl)) (lf' := lf - bl) (bl' := bl) (wd' := wd) (op' := true) rfl).put 2 (.int .i64 sz) (lf' := sz) (bl' := bl) (wd' := wd) (op' := true) rfl).drew
  have hB1 : Below base w (((w.setCell ⟨g, 2, none⟩ (.int .i64 (lf - bl))).setCell ⟨g, 2, none⟩ (.int .i64 sz)).drew) := (((Below.refl _ _).setCell (p := ⟨g, 2, none⟩) h.bg _).setCell (p := ⟨g, 2, none⟩) h.bg _).drew
  have O1 := Lib.hid (show Out (fun q => q = g) w (((w.setCell ⟨g, 2, none⟩ (.int .i64 (lf - bl))).setCell ⟨g, 2, none⟩ (.int .i64 sz)).drew) from ((out_put (X := fun q => q = g) w ⟨g, 2, none⟩ _ rfl).trans (out_put (X := fun q => q = g) _ ⟨g, 2, none⟩ _ rfl) (fun _ _ h => h)).trans (Out.of_below (X := fun q => q = g) (Below.refl _ _).drew) (fun _ _ h => h))
  have K1 := Lib.hid hk1
  have B1 := Lib.hid hB1
  have t0 := h.top.cell 0
  have t1 := h.top.cell 1
  have t2 := h.top.cell 2
  have t3 := h.top.cell 3
  have t5 := h.top.cell 5
  have f2 := h.top.frozen 2
  simp at t0 t1 t2 t3 t5
  clear h hk1 hB1
  go_enter Try.func31, Try.ntmps31
  go_upto_region 1 with (fail)
  go_region
  all_goals go_upto_region 5 with (fail)
  all_goals
    generalize ((w.setCell ⟨g, 2, none⟩ (.int .i64 (lf - bl))).setCell ⟨g, 2, none⟩ (.int .i64 sz)).drew = w1 at *
    have u0 := K1.out.top.cell 0
    have g0 := K1.out.top.frozen 0
    have HO := Lib.hid (own_later K1.out.pm.row (sup_pc w1 (.cells #[.bool true, .slice none 0 0, .slice none 0 0] PC)))
    have hsz1 : base ≤ w1.heap.size := Nat.le_trans hw B1.out.size
    have HSz := Lib.hid size_none
    simp at u0
    clear t0 t1 t2 t3 t5 f2
    go_wp2_with (at_builtin; refine wp_append_rowH rfl (.tmp 35) (.tmp 38) 30 rfl base PC _ 3 56 Try.underlying30 info_pc (by kernel_rfl) (by decide) (by decide) pv N _ rfl HO.out (some ⟨w1.heap.size, 0, none⟩) 1 1 [.bool true, .slice none 0 0, .slice none 0 0] rfl rfl (laid_src w1 PC _ _ rfl) (pc_one _) (fun h => by cases h) (by omega) (by simp; omega) ?_; intro a' cap' w7 hown hgrow hat; obtain ⟨hA, fv', av', hP, hB, hX⟩ := K1.out.next B1.out hw hown hgrow hat; have HX := Lib.hid hX; have hsz7 : w.heap.size ≤ (w7.setCell ⟨g, 0, none⟩ (.slice a' (N + 1) cap')).heap.size := hB.size; have x0 := hA.cell 0; have x1 := hA.frozen 0; have HP := Lib.hid hP; have HB := Lib.hid hB; simp at x0; clear hown hgrow hat hA hP hB hX)
    refine (HSz.out _).mono ?_
    rintro e w8 ⟨rfl, hb8⟩
    have HP8 := Lib.hid (HP.out.later hb8)
    have HB8 := Lib.hid (HB.out.trans (hb8.mono (Nat.le_trans hw HB.out.size)))
    have y3 := HP8.out.top.cell 3
    have y4 := HP8.out.top.cell 4
    have y5 := HP8.out.top.cell 5
    have g3 := HP8.out.top.frozen 3
    have g4 := HP8.out.top.frozen 4
    have g5 := HP8.out.top.frozen 5
    simp at y3 y4 y5
    have Hb8 := Lib.hid hb8
    clear hb8 HP HB HSz HO u0 g0 x0 x1 K1 B1
    go_wp2
    go_end0
    have q1 := HP8.out.put 3 (.int .i64 2) (lf' := sz) (bl' := 2) (wd' := wd) (op' := true) rfl
    have q2 := q1.put 4 (.int .i64 10) (lf' := sz) (bl' := 2) (wd' := 10) (op' := true) rfl
    have q3 := q2.put 5 (.bool true) (lf' := sz) (bl' := 2) (wd' := 10) (op' := true) rfl
    exact ⟨rfl, ⟨_, _, _, q3, fun b hb hbg hE => by
      obtain ⟨e1, e2⟩ := HX.out b (Nat.lt_of_lt_of_le hb O1.out.size) hbg hE
      refine ⟨e1, ?_⟩
      rw [Below.heap_setCell _ _ _ _ hbg, Below.heap_setCell _ _ _ _ hbg, Below.heap_setCell _ _ _ _ hbg, Hb8.out.block b (Nat.lt_of_lt_of_le hb hsz7), e2]
      exact O1.out.block b hb hbg⟩, ((HB8.out.setCell (p := ⟨g, 3, none⟩) q3.bg _).setCell (p := ⟨g, 4, none⟩) q3.bg _).setCell (p := ⟨g, 5, none⟩) q3.bg _⟩
set_option maxHeartbeats 2000000 in
theorem next_b (h : Pk w base g sz lf bl wd true pv fv av I V N nw Z) (hw : base ≤ w.heap.size) (hb0 : 0 ≤ bl) (hb1 : bl ≤ 100) (hl0 : 0 ≤ lf) (hl1 : lf ≤ 100) (hs : sz ≤ 100) (hs0 : 0 ≤ sz) (hN : N ≤ 1000) (hlt : ¬ lf - bl < 3) :
    Calls Try.prog 31 #[.pointer (some ⟨g, 0, none⟩)] w fun e w' => e = .returned (.tuple #[]) ∧ PkO (fun b => Ex b pv fv av N Z) w base g sz (lf - bl) 2 10 true I V (N + 1) (upd nw N false) (upd Z N z0) w' := by
  have hk1 : Pk ((w.setCell ⟨g, 2, none⟩ (.int .i64 (lf - bl))).drew) base g sz (lf - bl) bl wd true pv fv av I V N nw Z := (h.put 2 (.int .i64 (lf - bl)) (lf' := lf - bl) (bl' := bl) (wd' := wd) (op' := true) rfl).drew
  have hB1 : Below base w ((w.setCell ⟨g, 2, none⟩ (.int .i64 (lf - bl))).drew) := ((Below.refl _ _).setCell (p := ⟨g, 2, none⟩) h.bg _).drew
  have O1 := Lib.hid (show Out (fun q => q = g) w ((w.setCell ⟨g, 2, none⟩ (.int .i64 (lf - bl))).drew) from (out_put (X := fun q => q = g) w ⟨g, 2, none⟩ _ rfl).trans (Out.of_below (X := fun q => q = g) (Below.refl _ _).drew) (fun _ _ h => h))
  have K1 := Lib.hid hk1
  have B1 := Lib.hid hB1
  have t0 := h.top.cell 0
  have t1 := h.top.cell 1
  have t2 := h.top.cell 2
  have t3 := h.top.cell 3
  have t5 := h.top.cell 5
  have f2 := h.top.frozen 2
  simp at t0 t1 t2 t3 t5
  clear h hk1 hB1
  go_enter Try.func31, Try.ntmps31
  go_upto_region 1 with (fail)
  go_region
  all_goals go_upto_region 5 with (fail)
  all_goals
    generalize (w.setCell ⟨g, 2, none⟩ (.int .i64 (lf - bl))).drew = w1 at *
    have u0 := K1.out.top.cell 0
    have g0 := K1.out.top.frozen 0
    have HO := Lib.hid (own_later K1.out.pm.row (sup_pc w1 (.cells #[.bool false, .slice none 0 0, .slice none 0 0] PC)))
    have hsz1 : base ≤ w1.heap.size := Nat.le_trans hw B1.out.size
    have HSz := Lib.hid size_none
    simp at u0
    clear t0 t1 t2 t3 t5 f2
    go_wp2_with (at_builtin; refine wp_append_rowH rfl (.tmp 35) (.tmp 38) 30 rfl base PC _ 3 56 Try.underlying30 info_pc (by kernel_rfl) (by decide) (by decide) pv N _ rfl HO.out (some ⟨w1.heap.size, 0, none⟩) 1 1 [.bool false, .slice none 0 0, .slice none 0 0] rfl rfl (laid_src w1 PC _ _ rfl) (pc_one _) (fun h => by cases h) (by omega) (by simp; omega) ?_; intro a' cap' w7 hown hgrow hat; obtain ⟨hA, fv', av', hP, hB, hX⟩ := K1.out.next B1.out hw hown hgrow hat; have HX := Lib.hid hX; have hsz7 : w.heap.size ≤ (w7.setCell ⟨g, 0, none⟩ (.slice a' (N + 1) cap')).heap.size := hB.size; have x0 := hA.cell 0; have x1 := hA.frozen 0; have HP := Lib.hid hP; have HB := Lib.hid hB; simp at x0; clear hown hgrow hat hA hP hB hX)
    refine (HSz.out _).mono ?_
    rintro e w8 ⟨rfl, hb8⟩
    have HP8 := Lib.hid (HP.out.later hb8)
    have HB8 := Lib.hid (HB.out.trans (hb8.mono (Nat.le_trans hw HB.out.size)))
    have y3 := HP8.out.top.cell 3
    have y4 := HP8.out.top.cell 4
    have y5 := HP8.out.top.cell 5
    have g3 := HP8.out.top.frozen 3
    have g4 := HP8.out.top.frozen 4
    have g5 := HP8.out.top.frozen 5
    simp at y3 y4 y5
    have Hb8 := Lib.hid hb8
    clear hb8 HP HB HSz HO u0 g0 x0 x1 K1 B1
    go_wp2
    go_end0
    have q1 := HP8.out.put 3 (.int .i64 2) (lf' := (lf - bl)) (bl' := 2) (wd' := wd) (op' := true) rfl
    have q2 := q1.put 4 (.int .i64 10) (lf' := (lf - bl)) (bl' := 2) (wd' := 10) (op' := true) rfl
    have q3 := q2.put 5 (.bool true) (lf' := (lf - bl)) (bl' := 2) (wd' := 10) (op' := true) rfl
    exact ⟨rfl, ⟨_, _, _, q3, fun b hb hbg hE => by
      obtain ⟨e1, e2⟩ := HX.out b (Nat.lt_of_lt_of_le hb O1.out.size) hbg hE
      refine ⟨e1, ?_⟩
      rw [Below.heap_setCell _ _ _ _ hbg, Below.heap_setCell _ _ _ _ hbg, Below.heap_setCell _ _ _ _ hbg, Hb8.out.block b (Nat.lt_of_lt_of_le hb hsz7), e2]
      exact O1.out.block b hb hbg⟩, ((HB8.out.setCell (p := ⟨g, 3, none⟩) q3.bg _).setCell (p := ⟨g, 4, none⟩) q3.bg _).setCell (p := ⟨g, 5, none⟩) q3.bg _⟩
set_option maxHeartbeats 2000000 in
theorem next_c (h : Pk w base g sz lf bl wd false pv fv av I V N nw Z) (hw : base ≤ w.heap.size) (hb0 : 0 ≤ bl) (hb1 : bl ≤ 100) (hl0 : 0 ≤ lf) (hl1 : lf ≤ 100) (hs : sz ≤ 100) (hs0 : 0 ≤ sz) (hN : N ≤ 1000) (hlt : lf < 3) :
    Calls Try.prog 31 #[.pointer (some ⟨g, 0, none⟩)] w fun e w' => e = .returned (.tuple #[]) ∧ PkO (fun b => Ex b pv fv av N Z) w base g sz sz 2 10 true I V (N + 1) (upd nw N true) (upd Z N z0) w' := by
  have hk1 : Pk (w.setCell ⟨g, 2, none⟩ (.int .i64 sz)) base g sz sz bl wd false pv fv av I V N nw Z := h.put 2 (.int .i64 sz) (lf' := sz) (bl' := bl) (wd' := wd) (op' := false) rfl
  have hB1 : Below base w (w.setCell ⟨g, 2, none⟩ (.int .i64 sz)) := (Below.refl _ _).setCell (p := ⟨g, 2, none⟩) h.bg _
  have O1 := Lib.hid (show Out (fun q => q = g) w (w.setCell ⟨g, 2, none⟩ (.int .i64 sz)) from out_put (X := fun q => q = g) w ⟨g, 2, none⟩ _ rfl)
  have K1 := Lib.hid hk1
  have B1 := Lib.hid hB1
  have t0 := h.top.cell 0
  have t1 := h.top.cell 1
  have t2 := h.top.cell 2
  have t3 := h.top.cell 3
  have t5 := h.top.cell 5
  have f2 := h.top.frozen 2
  simp at t0 t1 t2 t3 t5
  clear h hk1 hB1
  go_enter Try.func31, Try.ntmps31
  go_upto_region 5 with (fail)
  all_goals
    generalize w.setCell ⟨g, 2, none⟩ (.int .i64 sz) = w1 at *
    have u0 := K1.out.top.cell 0
    have g0 := K1.out.top.frozen 0
    have HO := Lib.hid (own_later K1.out.pm.row (sup_pc w1 (.cells #[.bool true, .slice none 0 0, .slice none 0 0] PC)))
    have hsz1 : base ≤ w1.heap.size := Nat.le_trans hw B1.out.size
    have HSz := Lib.hid size_none
    simp at u0
    clear t0 t1 t2 t3 t5 f2
    go_wp2_with (at_builtin; refine wp_append_rowH rfl (.tmp 35) (.tmp 38) 30 rfl base PC _ 3 56 Try.underlying30 info_pc (by kernel_rfl) (by decide) (by decide) pv N _ rfl HO.out (some ⟨w1.heap.size, 0, none⟩) 1 1 [.bool true, .slice none 0 0, .slice none 0 0] rfl rfl (laid_src w1 PC _ _ rfl) (pc_one _) (fun h => by cases h) (by omega) (by simp; omega) ?_; intro a' cap' w7 hown hgrow hat; obtain ⟨hA, fv', av', hP, hB, hX⟩ := K1.out.next B1.out hw hown hgrow hat; have HX := Lib.hid hX; have hsz7 : w.heap.size ≤ (w7.setCell ⟨g, 0, none⟩ (.slice a' (N + 1) cap')).heap.size := hB.size; have x0 := hA.cell 0; have x1 := hA.frozen 0; have HP := Lib.hid hP; have HB := Lib.hid hB; simp at x0; clear hown hgrow hat hA hP hB hX)
    refine (HSz.out _).mono ?_
    rintro e w8 ⟨rfl, hb8⟩
    have HP8 := Lib.hid (HP.out.later hb8)
    have HB8 := Lib.hid (HB.out.trans (hb8.mono (Nat.le_trans hw HB.out.size)))
    have y3 := HP8.out.top.cell 3
    have y4 := HP8.out.top.cell 4
    have y5 := HP8.out.top.cell 5
    have g3 := HP8.out.top.frozen 3
    have g4 := HP8.out.top.frozen 4
    have g5 := HP8.out.top.frozen 5
    simp at y3 y4 y5
    have Hb8 := Lib.hid hb8
    clear hb8 HP HB HSz HO u0 g0 x0 x1 K1 B1
    go_wp2
    go_end0
    have q1 := HP8.out.put 3 (.int .i64 2) (lf' := sz) (bl' := 2) (wd' := wd) (op' := false) rfl
    have q2 := q1.put 4 (.int .i64 10) (lf' := sz) (bl' := 2) (wd' := 10) (op' := false) rfl
    have q3 := q2.put 5 (.bool true) (lf' := sz) (bl' := 2) (wd' := 10) (op' := true) rfl
    exact ⟨rfl, ⟨_, _, _, q3, fun b hb hbg hE => by
      obtain ⟨e1, e2⟩ := HX.out b (Nat.lt_of_lt_of_le hb O1.out.size) hbg hE
      refine ⟨e1, ?_⟩
      rw [Below.heap_setCell _ _ _ _ hbg, Below.heap_setCell _ _ _ _ hbg, Below.heap_setCell _ _ _ _ hbg, Hb8.out.block b (Nat.lt_of_lt_of_le hb hsz7), e2]
      exact O1.out.block b hb hbg⟩, ((HB8.out.setCell (p := ⟨g, 3, none⟩) q3.bg _).setCell (p := ⟨g, 4, none⟩) q3.bg _).setCell (p := ⟨g, 5, none⟩) q3.bg _⟩
set_option maxHeartbeats 2000000 in
theorem next_d (h : Pk w base g sz lf bl wd false pv fv av I V N nw Z) (hw : base ≤ w.heap.size) (hb0 : 0 ≤ bl) (hb1 : bl ≤ 100) (hl0 : 0 ≤ lf) (hl1 : lf ≤ 100) (hs : sz ≤ 100) (hs0 : 0 ≤ sz) (hN : N ≤ 1000) (hlt : ¬ lf < 3) :
    Calls Try.prog 31 #[.pointer (some ⟨g, 0, none⟩)] w fun e w' => e = .returned (.tuple #[]) ∧ PkO (fun b => Ex b pv fv av N Z) w base g sz lf 2 10 true I V (N + 1) (upd nw N false) (upd Z N z0) w' := by
  have hk1 : Pk (w) base g sz lf bl wd false pv fv av I V N nw Z := h
  have hB1 : Below base w (w) := Below.refl _ _
  have O1 := Lib.hid (show Out (fun q => q = g) w (w) from Out.refl _ _)
  have K1 := Lib.hid hk1
  have B1 := Lib.hid hB1
  have t0 := h.top.cell 0
  have t1 := h.top.cell 1
  have t2 := h.top.cell 2
  have t3 := h.top.cell 3
  have t5 := h.top.cell 5
  have f2 := h.top.frozen 2
  simp at t0 t1 t2 t3 t5
  clear h hk1 hB1
  go_enter Try.func31, Try.ntmps31
  go_upto_region 5 with (fail)
  all_goals
    obtain ⟨w1, hw1⟩ : ∃ w1, w = w1 := ⟨w, rfl⟩
    rw [hw1] at K1
    rw [hw1]
    rw [show Below base w w = Below base w w1 by rw [← hw1]] at B1
    rw [show Out (fun q => q = g) w w = Out (fun q => q = g) w w1 by rw [← hw1]] at O1
    clear hw1
    have u0 := K1.out.top.cell 0
    have g0 := K1.out.top.frozen 0
    have HO := Lib.hid (own_later K1.out.pm.row (sup_pc w1 (.cells #[.bool false, .slice none 0 0, .slice none 0 0] PC)))
    have hsz1 : base ≤ w1.heap.size := Nat.le_trans hw B1.out.size
    have HSz := Lib.hid size_none
    simp at u0
    clear t0 t1 t2 t3 t5 f2
    go_wp2_with (at_builtin; refine wp_append_rowH rfl (.tmp 35) (.tmp 38) 30 rfl base PC _ 3 56 Try.underlying30 info_pc (by kernel_rfl) (by decide) (by decide) pv N _ rfl HO.out (some ⟨w1.heap.size, 0, none⟩) 1 1 [.bool false, .slice none 0 0, .slice none 0 0] rfl rfl (laid_src w1 PC _ _ rfl) (pc_one _) (fun h => by cases h) (by omega) (by simp; omega) ?_; intro a' cap' w7 hown hgrow hat; obtain ⟨hA, fv', av', hP, hB, hX⟩ := K1.out.next B1.out hw hown hgrow hat; have HX := Lib.hid hX; have hsz7 : w.heap.size ≤ (w7.setCell ⟨g, 0, none⟩ (.slice a' (N + 1) cap')).heap.size := hB.size; have x0 := hA.cell 0; have x1 := hA.frozen 0; have HP := Lib.hid hP; have HB := Lib.hid hB; simp at x0; clear hown hgrow hat hA hP hB hX)
    refine (HSz.out _).mono ?_
    rintro e w8 ⟨rfl, hb8⟩
    have HP8 := Lib.hid (HP.out.later hb8)
    have HB8 := Lib.hid (HB.out.trans (hb8.mono (Nat.le_trans hw HB.out.size)))
    have y3 := HP8.out.top.cell 3
    have y4 := HP8.out.top.cell 4
    have y5 := HP8.out.top.cell 5
    have g3 := HP8.out.top.frozen 3
    have g4 := HP8.out.top.frozen 4
    have g5 := HP8.out.top.frozen 5
    simp at y3 y4 y5
    have Hb8 := Lib.hid hb8
    clear hb8 HP HB HSz HO u0 g0 x0 x1 K1 B1
    go_wp2
    go_end0
    have q1 := HP8.out.put 3 (.int .i64 2) (lf' := lf) (bl' := 2) (wd' := wd) (op' := false) rfl
    have q2 := q1.put 4 (.int .i64 10) (lf' := lf) (bl' := 2) (wd' := 10) (op' := false) rfl
    have q3 := q2.put 5 (.bool true) (lf' := lf) (bl' := 2) (wd' := 10) (op' := true) rfl
    exact ⟨rfl, ⟨_, _, _, q3, fun b hb hbg hE => by
      obtain ⟨e1, e2⟩ := HX.out b (Nat.lt_of_lt_of_le hb O1.out.size) hbg hE
      refine ⟨e1, ?_⟩
      rw [Below.heap_setCell _ _ _ _ hbg, Below.heap_setCell _ _ _ _ hbg, Below.heap_setCell _ _ _ _ hbg, Hb8.out.block b (Nat.lt_of_lt_of_le hb hsz7), e2]
      exact O1.out.block b hb hbg⟩, ((HB8.out.setCell (p := ⟨g, 3, none⟩) q3.bg _).setCell (p := ⟨g, 4, none⟩) q3.bg _).setCell (p := ⟨g, 5, none⟩) q3.bg _⟩
end
end Go.Proofs.Ytonlhkhjdnaojaa
