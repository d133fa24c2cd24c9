/-
  Pop of a heap of candidates.
-/
import Derived.Test.YtblpfgjjiihjoaaPkDown
namespace Go.Proofs.Ytblpfgjjiihjoaa
open Go.RowKit
section
variable {w w' : World} {po gr m cap i j C n : Nat} {t : TypeId} {h : Nat → Rk}
def rkA (r : Rk) : Value := .agg #[.int .i64 r.c.seg, .int .i64 r.c.live, .int .i64 r.c.cap, .int .i64 r.c.age, .int .i64 r.at_]
theorem Od.mono (hO : Od w gr m h) (hn : n ≤ m) : Od w gr n h := by
  obtain ⟨⟨cs, h1, h2⟩, h3⟩ := hO
  exact ⟨⟨cs, h1, fun k hk => h2 k (by omega)⟩, fun k hk => h3 k (by omega)⟩
theorem pop_end (hH : Hp w po gr m cap t h) (hl : n + 1 = m) (hC : C ≤ po) (o : Obj) :
    Hp ((w.setCell ⟨po, 0, none⟩ (.slice (some ⟨gr, 0, none⟩) n cap)).alloc o) po gr n cap t h ∧ Below C w ((w.setCell ⟨po, 0, none⟩ (.slice (some ⟨gr, 0, none⟩) n cap)).alloc o) ∧ FrG po w ((w.setCell ⟨po, 0, none⟩ (.slice (some ⟨gr, 0, none⟩) n cap)).alloc o) := by
  have hlt := hH.var.lt
  have hf : FrG po w ((w.setCell ⟨po, 0, none⟩ (.slice (some ⟨gr, 0, none⟩) n cap)).alloc o) := fun b t cs hne hx => (hx.far (p := ⟨po, 0, none⟩) hne _).alloc o
  have hv := (hH.var.put 0 (.slice (some ⟨gr, 0, none⟩) n cap)).alloc o
  refine ⟨⟨?_, hv, hH.ne⟩, ((Below.refl _ _).setCell (p := ⟨po, 0, none⟩) hC _).alloc (by simp; omega) _, hf⟩
  obtain ⟨⟨cs, h1, h2⟩, h3⟩ := hH.row.mono (show n ≤ m by omega)
  exact ⟨⟨cs, hf _ _ _ hH.ne.symm h1, h2⟩, h3⟩
set_option maxHeartbeats 4000000 in
theorem popO_any (hH : Hp w po gr m cap t h) (hl : n + 1 = m) (hm : m ≤ 512) (hC : C ≤ po) (hcap : m ≤ cap) (hcap2 : cap ≤ 600) :
    Calls Try.prog 48 #[.pointer (some ⟨po, 0, none⟩)] w fun e w' => e = .returned (.iface 50 (rkA (h n))) ∧ Hp w' po gr n cap t h ∧ Below C w w' ∧ FrG po w w' := by
  obtain ⟨x0, x1, x2, x3, x4⟩ := hH.row.cells (show n < m by omega)
  have c0 := hH.cell
  have f0 := hH.var.frozen 0
  have hlt := hH.var.lt
  have HH := Lib.hid hH
  clear hH
  have i1 : (0 : Int) ≤ (n : Int) := by omega
  have i2 : (n : Int) < (m : Int) := by omega
  have e1 : (m : Int) - 1 = (n : Int) := by omega
  have i3 : ¬ (cap : Int) < (n : Int) := by omega
  go_enter Try.func48, Try.ntmps48
  go_wp2_with fail
  go_ret
  refine ⟨rfl, ?_⟩
  exact pop_end HH.out hl hC _
def Fr2 (g po : Nat) (w w' : World) : Prop := ∀ (b : Nat) (t : TypeId) (cs : Array Value), b ≠ g → b ≠ po → Blo w b t cs → Blo w' b t cs
theorem Dn.high {h0 h' : Nat → Rk} {i0 i' : Nat} (hD : Dn n h0 i0 h' i') : ∀ j, n ≤ j → h' j = h0 j := by
  induction hD with
  | here => intro j _; rfl
  | @step h i hD hlt hl ih =>
    intro j hj
    have hk : kid h n i < n := by unfold kid; split <;> omega
    show updR (updR h i (h (kid h n i))) (kid h n i) (h i) j = _
    rw [updR_ne _ _ _ (by omega), updR_ne _ _ _ (by omega)]
    exact ih j hj
set_option maxHeartbeats 4000000 in
theorem heapPop_any (hH : Hp w po gr m cap t h) (hl : n + 1 = m) (hm : m ≤ 512) (hC : C ≤ po) (hCg : C ≤ gr) (hcap : m ≤ cap) (hcap2 : cap ≤ 600) :
    Calls Try.prog 28 #[.iface 47 (.pointer (some ⟨po, 0, none⟩))] w fun e w' => ∃ h' i', e = .returned (.iface 50 (rkA (h 0))) ∧ Dn n (Go.Proofs.Ytblpfgjjiihjoaa.swp h 0 n) 0 h' i' ∧ Still n h' i' ∧ Hp w' po gr n cap t h' ∧ Below C w w' ∧ Fr2 gr po w w' := by
  have hln : (method 178 47 (.pointer (some ⟨po, 0, none⟩)) "Len").run Try.prog w = .ok (27, .slice (some ⟨gr, 0, none⟩) m cap) w := (method_len _ _).trans (load_order hH.cell)
  have hsw : (method 178 47 (.pointer (some ⟨po, 0, none⟩)) "Swap").run Try.prog w = .ok (49, .slice (some ⟨gr, 0, none⟩) m cap) w := (method_swap _ _).trans (load_order hH.cell)
  have HH := Lib.hid hH
  clear hH
  have e1 : (m : Int) - 1 = (n : Int) := by omega
  go_enter Try.func28, Try.ntmps28
  go_wp2_with fail
  refine (len_any _ _ _ _).mono ?_
  rintro e w1 ⟨rfl, rfl⟩
  go_wp2_with fail
  refine (swap_at (i := 0) (j := n) (C := C) HH.out (by omega) (by omega) hm hCg rfl rfl).mono ?_
  rintro e w2 ⟨rfl, hH2, hb2, hf2⟩
  have HH2 := Lib.hid hH2
  have HB2 := Lib.hid hb2
  have HF2 := Lib.hid hf2
  clear hH2 hb2 hf2
  go_wp2_with fail
  refine (down_any (i := 0) (n := n) (C := C) HH2.out (by omega) (by omega) hm hCg).mono ?_
  rintro e w3 ⟨h', i', rfl, hD, hS, hH3, hb3, hf3⟩
  have HH3 := Lib.hid hH3
  have HB3 := Lib.hid (HB2.out.trans hb3)
  have HF3 := Lib.hid hf3
  have HD := Lib.hid hD
  have HS := Lib.hid hS
  have htop : h' n = h 0 := by
    rw [hD.high n (Nat.le_refl _)]
    exact updR_at _ _ _
  have HT := Lib.hid htop
  clear hH3 hb3 hf3 hD hS htop
  have hpo := method_pop ⟨po, 0, none⟩ w3
  go_wp2_with fail
  refine (popO_any (C := C) HH3.out hl hm hC hcap hcap2).mono ?_
  rintro e w4 ⟨rfl, hH4, hb4, hf4⟩
  have HH4 := Lib.hid hH4
  have HB4 := Lib.hid (HB3.out.trans hb4)
  have HF4 : Hid (Fr2 gr po w w4) := fun b t cs h1 h2 hx => hf4 b t cs h2 (HF3.out b t cs h1 (HF2.out b t cs h1 hx))
  clear hH4 hb4 hf4
  go_wp2_with fail
  go_ret
  exact ⟨h', i', by rw [HT.out]; rfl, HD.out, HS.out, HH4.out, HB4.out, HF4.out⟩
end
end Go.Proofs.Ytblpfgjjiihjoaa
