/-
  The inode map's walks: put, Free.
-/
import Derived.Test.YtbacfbdeeogkgaaImWhich
namespace Go.Proofs.Ytbacfbdeeogkgaa
open Go.RowKit Go.Maps

def PutO (C : Nat) (w : World) (bm gs gd n N i : Nat) (A V : Nat → Int) (B : Nat → Bool) (a v : Int) (b : Bool) (e : Ending) (w' : World) : Prop :=
  e = .returned (.tuple #[]) ∧ (∃ N', N' ≤ N + 1 ∧ Im w' bm gs gd n N' (upd A i a) (upd V i v) (upd B i b)) ∧ Below C w w' ∧ Fr1 gs w w'
section
variable {w w' : World} {bm gs gd n N i C : Nat} {A V : Nat → Int} {B : Nat → Bool}
theorem Im.turned {N1 : Nat} {D1 : DataW Nat} (h : Im w bm gs gd n N A V B) (ho : OwnU w' gd N1 D1) (hg : w.grownBy w' (some gd)) : Im w' bm gs gd n N1 A V B := by
  obtain ⟨q1, ⟨cs, q2, q3⟩, q4, q5⟩ := h
  exact ⟨q1.grown hg (by simp; omega), ⟨cs, q2.grown hg (by simp; omega), q3⟩, ⟨D1, ho⟩, q5⟩
theorem put_fin (h : Im w bm gs gd n N A V B) (hi : i < n) (a v : Int) (b : Bool) : Im (((w.setCell ⟨gs, i * 3, none⟩ (.int .i64 a)).setCell ⟨gs, i * 3 + 1, none⟩ (.int .i64 v)).setCell ⟨gs, i * 3 + 2, none⟩ (.bool b)) bm gs gd n N (upd A i a) (upd V i v) (upd B i b) :=
  (h.ints hi a v).busy hi b
theorem below_fin {w0 : World} (h : Below C w0 w) (hC : C ≤ gs) (i : Nat) (a v : Int) (b : Bool) : Below C w0 (((w.setCell ⟨gs, i * 3, none⟩ (.int .i64 a)).setCell ⟨gs, i * 3 + 1, none⟩ (.int .i64 v)).setCell ⟨gs, i * 3 + 2, none⟩ (.bool b)) :=
  ((h.setCell (p := ⟨gs, i * 3, none⟩) hC _).setCell (p := ⟨gs, i * 3 + 1, none⟩) hC _).setCell (p := ⟨gs, i * 3 + 2, none⟩) hC _
theorem fr1_fin {w0 : World} (h : Fr1 gs w0 w) (i : Nat) (a v : Int) (b : Bool) : Fr1 gs w0 (((w.setCell ⟨gs, i * 3, none⟩ (.int .i64 a)).setCell ⟨gs, i * 3 + 1, none⟩ (.int .i64 v)).setCell ⟨gs, i * 3 + 2, none⟩ (.bool b)) :=
  fun b' t cs hb hx => (((h b' t cs hb hx).far (p := ⟨gs, i * 3, none⟩) hb _).far (p := ⟨gs, i * 3 + 1, none⟩) hb _).far (p := ⟨gs, i * 3 + 2, none⟩) hb _
theorem wf_nat (m : Nat) (h : m ≤ 1000000) : (Lit.int .i64 (m : Int)).wf = true := by
  simp [Lit.wf, IntKind.min, IntKind.max, IntKind.signed, IntKind.bits]; omega
set_option maxHeartbeats 1000000 in
theorem put_same (b : Bool) (h : Im w bm gs gd n N A V B) (hi : i < n) (hn : n ≤ 200) (hC : C ≤ gs) :
    Calls Try.prog 38 #[.pointer (some ⟨bm, 0, none⟩), .int .i64 ((i : Int) + 1), .agg #[.int .i64 (A i), .int .i64 (V i)], .bool b] w (PutO C w bm gs gd n N i A V B (A i) (V i) b) := by
  have hgl := h.lt
  have hb0 : Below w.heap.size w (w.alloc (.cells #[.int .i64 (A i), .int .i64 (V i)] 55)) := (Below.refl _ _).alloc (Nat.le_refl _) _
  have H1 := h.later hb0
  have HS := Lib.hid (slot_any H1 hi hn)
  have HB0 := Lib.hid hb0
  have H := Lib.hid H1
  have HX := Lib.hid (blo_laid w 55 #[.int .i64 (A i), .int .i64 (V i)])
  obtain ⟨c0, c1, c2⟩ := H1.cell hi
  have f0 := H1.frozen (i * 3)
  have f1 := H1.frozen (i * 3 + 1)
  have f2 := H1.frozen (i * 3 + 2)
  clear h hb0 H1
  go_enter Try.func38, Try.ntmps38
  go_wp2_with fail
  refine HS.out.mono ?_
  rintro e w' ⟨rfl, rfl⟩
  clear HS
  go_wp2_with fail
  go_quiet (fail)
  go_wp2_with fail
  go_end0
  have HI := H.out.later (im_drewN (Below.refl _ _) nq)
  exact ⟨rfl, ⟨N, by omega, put_fin HI hi _ _ b⟩, below_fin (im_drewN (HB0.out.mono (by omega)) nq) hC i _ _ b, fr1_fin (fr1_below (im_drewN HB0.out nq)) i _ _ b⟩
set_option maxRecDepth 100000 in
set_option maxHeartbeats 1000000 in
theorem put_otherA (a v : Int) (b : Bool) (h : Im w bm gs gd n N A V B) (hi : i < n) (hn : n ≤ 200) (hC : C ≤ gs) (hC2 : C ≤ gd) (hN : N ≤ 1000000) (hne : A i ≠ a) :
    Calls Try.prog 38 #[.pointer (some ⟨bm, 0, none⟩), .int .i64 ((i : Int) + 1), .agg #[.int .i64 a, .int .i64 v], .bool b] w (PutO C w bm gs gd n N i A V B a v b) := by
  have hgl := h.lt
  have hb0 : Below w.heap.size w (w.alloc (.cells #[.int .i64 a, .int .i64 v] 55)) := (Below.refl _ _).alloc (Nat.le_refl _) _
  have H1 := h.later hb0
  have HS := Lib.hid (slot_any H1 hi hn)
  have HB0 := Lib.hid hb0
  have H := Lib.hid H1
  have HX := Lib.hid (blo_laid w 55 #[.int .i64 a, .int .i64 v])
  obtain ⟨c0, c1, c2⟩ := H1.cell hi
  have hne2 : (A i == a) = false := by rw [beq_eq_false_iff_ne]; exact hne
  have hkey : keyOf Try.prog 3 (.int .i64 ((i : Int) / 8)) = some (.int .i64 ((i : Int) / 8)) := keyOf_int_mk Try.underlying3 (by have := wf_nat (i / 8) (by omega); simpa using this)
  have HK := Lib.hid hkey
  have i1 : (0 : Int) ≤ (i : Int) := by omega
  have i2 : (i : Int) < 200 := by omega
  have hNN := Lib.hid hN
  clear h hb0 H1 hkey hN
  go_enter Try.func38, Try.ntmps38
  go_wp2_with fail
  refine HS.out.mono ?_
  rintro e w' ⟨rfl, rfl⟩
  clear HS
  go_wp2_with fail
  go_quiet (fail)
  have HI : Hid (Im ((w.alloc (.cells #[.int .i64 a, .int .i64 v] 55)).drewN nq) bm gs gd n N A V B) := H.out.later (im_drewN (Below.refl _ _) nq)
  obtain ⟨D, hD⟩ := HI.out.dm
  have HD := Lib.hid hD
  have t1 := HI.out.top.cell 1
  simp at t1
  have HBQ : Hid (Below C w ((w.alloc (.cells #[.int .i64 a, .int .i64 v] 55)).drewN nq)) := im_drewN (HB0.out.mono (by omega)) nq
  have HFQ : Hid (Fr1 gs w ((w.alloc (.cells #[.int .i64 a, .int .i64 v] 55)).drewN nq)) := fr1_below (im_drewN HB0.out nq)
  have hqs : C ≤ ((w.alloc (.cells #[.int .i64 a, .int .i64 v] 55)).drewN nq).heap.size := Nat.le_trans (by omega) (im_drewN HB0.out nq).size
  have hNm : Hid (N < maxLen) := by show N < maxLen; have := hNN.out; unfold maxLen; omega
  clear hD c0 c1 c2
  go_wp2_with (at_mapUpdate; go_loud (refine wpList_mapUpdate_own _ rfl _ _ _ 77 rfl 3 97 mapLaw Try.underlying77 _ gd N D rfl HD.out hNm.out _ _ _ rfl rfl HK.out _ [] unitElem_mk ?_; intro w6 hown1 hgrow1; have HI6 := Lib.hid (HI.out.turned hown1 hgrow1); have HB6 := Lib.hid (HBQ.out.grown hgrow1 hqs (fun k hk => by cases hk; exact hC2)); have HF6 := Lib.hid (HFQ.out.trans (fun b t cs hb hx => hx.grown hgrow1 (by have := blo_ne_map hx HD.out; simpa using this))); have f0 := HI6.out.frozen (i * 3); have f1 := HI6.out.frozen (i * 3 + 1); have f2 := HI6.out.frozen (i * 3 + 2); have hcell := HI6.out.cell hi; have c0 := hcell.1; have c1 := hcell.2.1; have c2 := hcell.2.2; have hx0 := hgrow1.cell (a := ⟨w.heap.size, 0, none⟩) (v := .int .i64 a) (by simp) (by simp; omega); have hx1 := hgrow1.cell (a := ⟨w.heap.size, 1, none⟩) (v := .int .i64 v) (by simp) (by simp; omega); clear hcell hown1 hgrow1))
  go_end0
  exact ⟨rfl, ⟨N + 1, Nat.le_refl _, put_fin HI6.out hi _ _ b⟩, below_fin HB6.out hC i _ _ b, fr1_fin HF6.out i _ _ b⟩
set_option maxRecDepth 100000 in
set_option maxHeartbeats 1000000 in
theorem put_otherV (v : Int) (b : Bool) (h : Im w bm gs gd n N A V B) (hi : i < n) (hn : n ≤ 200) (hC : C ≤ gs) (hC2 : C ≤ gd) (hN : N ≤ 1000000) (hne : V i ≠ v) :
    Calls Try.prog 38 #[.pointer (some ⟨bm, 0, none⟩), .int .i64 ((i : Int) + 1), .agg #[.int .i64 (A i), .int .i64 v], .bool b] w (PutO C w bm gs gd n N i A V B (A i) v b) := by
  have hgl := h.lt
  have hb0 : Below w.heap.size w (w.alloc (.cells #[.int .i64 (A i), .int .i64 v] 55)) := (Below.refl _ _).alloc (Nat.le_refl _) _
  have H1 := h.later hb0
  have HS := Lib.hid (slot_any H1 hi hn)
  have HB0 := Lib.hid hb0
  have H := Lib.hid H1
  have HX := Lib.hid (blo_laid w 55 #[.int .i64 (A i), .int .i64 v])
  obtain ⟨c0, c1, c2⟩ := H1.cell hi
  have hne2 : (V i == v) = false := by rw [beq_eq_false_iff_ne]; exact hne
  have hkey : keyOf Try.prog 3 (.int .i64 ((i : Int) / 8)) = some (.int .i64 ((i : Int) / 8)) := keyOf_int_mk Try.underlying3 (by have := wf_nat (i / 8) (by omega); simpa using this)
  have HK := Lib.hid hkey
  have i1 : (0 : Int) ≤ (i : Int) := by omega
  have i2 : (i : Int) < 200 := by omega
  have hNN := Lib.hid hN
  clear h hb0 H1 hkey hN
  go_enter Try.func38, Try.ntmps38
  go_wp2_with fail
  refine HS.out.mono ?_
  rintro e w' ⟨rfl, rfl⟩
  clear HS
  go_wp2_with fail
  go_quiet (fail)
  have HI : Hid (Im ((w.alloc (.cells #[.int .i64 (A i), .int .i64 v] 55)).drewN nq) bm gs gd n N A V B) := H.out.later (im_drewN (Below.refl _ _) nq)
  obtain ⟨D, hD⟩ := HI.out.dm
  have HD := Lib.hid hD
  have t1 := HI.out.top.cell 1
  simp at t1
  have HBQ : Hid (Below C w ((w.alloc (.cells #[.int .i64 (A i), .int .i64 v] 55)).drewN nq)) := im_drewN (HB0.out.mono (by omega)) nq
  have HFQ : Hid (Fr1 gs w ((w.alloc (.cells #[.int .i64 (A i), .int .i64 v] 55)).drewN nq)) := fr1_below (im_drewN HB0.out nq)
  have hqs : C ≤ ((w.alloc (.cells #[.int .i64 (A i), .int .i64 v] 55)).drewN nq).heap.size := Nat.le_trans (by omega) (im_drewN HB0.out nq).size
  have hNm : Hid (N < maxLen) := by show N < maxLen; have := hNN.out; unfold maxLen; omega
  clear hD c0 c1 c2
  go_wp2_with (at_mapUpdate; go_loud (refine wpList_mapUpdate_own _ rfl _ _ _ 77 rfl 3 97 mapLaw Try.underlying77 _ gd N D rfl HD.out hNm.out _ _ _ rfl rfl HK.out _ [] unitElem_mk ?_; intro w6 hown1 hgrow1; have HI6 := Lib.hid (HI.out.turned hown1 hgrow1); have HB6 := Lib.hid (HBQ.out.grown hgrow1 hqs (fun k hk => by cases hk; exact hC2)); have HF6 := Lib.hid (HFQ.out.trans (fun b t cs hb hx => hx.grown hgrow1 (by have := blo_ne_map hx HD.out; simpa using this))); have f0 := HI6.out.frozen (i * 3); have f1 := HI6.out.frozen (i * 3 + 1); have f2 := HI6.out.frozen (i * 3 + 2); have hcell := HI6.out.cell hi; have c0 := hcell.1; have c1 := hcell.2.1; have c2 := hcell.2.2; have hx0 := hgrow1.cell (a := ⟨w.heap.size, 0, none⟩) (v := .int .i64 (A i)) (by simp) (by simp; omega); have hx1 := hgrow1.cell (a := ⟨w.heap.size, 1, none⟩) (v := .int .i64 v) (by simp) (by simp; omega); clear hcell hown1 hgrow1))
  go_end0
  exact ⟨rfl, ⟨N + 1, Nat.le_refl _, put_fin HI6.out hi _ _ b⟩, below_fin HB6.out hC i _ _ b, fr1_fin HF6.out i _ _ b⟩
theorem put_any (a v : Int) (b : Bool) (h : Im w bm gs gd n N A V B) (hi : i < n) (hn : n ≤ 200) (hC : C ≤ gs) (hC2 : C ≤ gd) (hN : N ≤ 1000000) :
    Calls Try.prog 38 #[.pointer (some ⟨bm, 0, none⟩), .int .i64 ((i : Int) + 1), .agg #[.int .i64 a, .int .i64 v], .bool b] w (PutO C w bm gs gd n N i A V B a v b) := by
  by_cases h1 : A i = a
  · subst h1
    by_cases h2 : V i = v
    · subst h2
      exact put_same b h hi hn hC
    · exact put_otherV v b h hi hn hC hC2 hN h2
  · exact put_otherA a v b h hi hn hC hC2 hN h1
/-- What a call that answers an error leaves. -/
def CallO (C : Nat) (w : World) (bm gs gd n N : Nat) (A V : Nat → Int) (B : Nat → Bool) (code : Int) (e : Ending) (w' : World) : Prop :=
  e = .returned (.int .i64 code) ∧ (∃ N', N' ≤ N + 1 ∧ Im w' bm gs gd n N' A V B) ∧ Below C w w' ∧ Fr1 gs w w'
theorem CallO.stay {code : Int} (h : Im w bm gs gd n N A V B) : CallO C w bm gs gd n N A V B code (.returned (.int .i64 code)) w :=
  ⟨rfl, ⟨N, by omega, h⟩, Below.refl _ _, fun _ _ _ _ hx => hx⟩
set_option maxHeartbeats 1000000 in
theorem free_yes (h : Im w bm gs gd n N A V B) (hi : i < n) (h1 : 1 ≤ i) (hn : n ≤ 200) (hC : C ≤ gs) (hC2 : C ≤ gd) (hN : N ≤ 1000000) (hb : B i = true) (hv : 0 ≤ V i ∧ V i ≤ 65535) :
    Calls Try.prog 15 #[.pointer (some ⟨bm, 0, none⟩), .int .i64 ((i : Int) + 1)] w (CallO C w bm gs gd n N (upd A i 0) (upd V i (min (V i + 1) 65535)) (upd B i false) 0) := by
  have HK := Lib.hid (known_yes h hi h1 hn)
  have HB := Lib.hid (isBusy_any h hi hn)
  rw [hb] at HB
  have HS := Lib.hid (slot_any h hi hn)
  have c1 := (h.cell hi).2.1
  have HP := Lib.hid (put_any (C := C) 0 (min (V i + 1) 65535) false h hi hn hC hC2 hN)
  have i1 : (0 : Int) ≤ (i : Int) := by omega
  have i2 : (i : Int) < 200 := by omega
  obtain ⟨v1, v2⟩ := hv
  clear h hb
  generalize V i = v at *
  go_enter Try.func15, Try.ntmps15
  go_wp2_with fail
  refine HK.out.mono ?_
  rintro e w1 ⟨rfl, rfl⟩
  go_wp2_with fail
  refine HB.out.mono ?_
  rintro e w1 ⟨rfl, rfl⟩
  go_wp2_with fail
  refine HS.out.mono ?_
  rintro e w1 ⟨rfl, rfl⟩
  go_wp2_with fail
  refine HP.out.mono ?_
  rintro e w1 ⟨rfl, hI, hbl, hf⟩
  have HI := Lib.hid hI
  have HBl := Lib.hid hbl
  have HF := Lib.hid hf
  clear hI hbl hf HP c1
  go_wp2
  go_ret
  exact ⟨rfl, HI.out, HBl.out, HF.out⟩
set_option maxHeartbeats 1000000 in
theorem free_no (h : Im w bm gs gd n N A V B) (hi : i < n) (h1 : 1 ≤ i) (hn : n ≤ 200) (hb : B i = false) :
    Calls Try.prog 15 #[.pointer (some ⟨bm, 0, none⟩), .int .i64 ((i : Int) + 1)] w fun e w' => e = .returned (.int .i64 2) ∧ w = w' := by
  have HK := Lib.hid (known_yes h hi h1 hn)
  have HB := Lib.hid (isBusy_any h hi hn)
  rw [hb] at HB
  clear h hb
  go_enter Try.func15, Try.ntmps15
  go_wp2_with fail
  refine HK.out.mono ?_
  rintro e w1 ⟨rfl, rfl⟩
  go_wp2_with fail
  refine HB.out.mono ?_
  rintro e w1 ⟨rfl, rfl⟩
  go_wp2
  go_ret
  exact ⟨rfl, rfl⟩
end
end Go.Proofs.Ytbacfbdeeogkgaa
