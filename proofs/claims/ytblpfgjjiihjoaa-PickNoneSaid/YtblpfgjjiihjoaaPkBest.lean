/-
  Best and Until of the program.
-/
import Derived.Test.YtblpfgjjiihjoaaPkFirst
namespace Go.Proofs.Ytblpfgjjiihjoaa
open Go.RowKit

section
variable {w w' : World} {a : Option Addr} {l : List Cd} {n cap : Nat}
theorem own_mono {base base' : Nat} {e : TypeId} {size : Nat} {v : Value} {xs : List Value} (h : w.ownsRow base e size v n xs) (hb : base' ≤ base) : w.ownsRow base' e size v n xs :=
  ⟨h.1, h.2.imp id fun ⟨g, cap, cur, h1, h2, h3⟩ => ⟨g, cap, cur, h1, Nat.le_trans hb h2, h3⟩⟩
def OkL (l : List Cd) : Prop := l.length ≤ 512 ∧ GoodL l
def BestIs (l : List Cd) (k : Int) (L : List Cd) (z : Int) : Prop :=
  ((¬ OkL l ∨ k < 0) ∧ L = [] ∧ z = 22) ∨ (OkL l ∧ 0 ≤ k ∧ L = (ordC l).take k.toNat ∧ z = 0)
def UntilIs (l : List Cd) (r : Int) (L : List Cd) (z : Int) : Prop :=
  ((¬ OkL l ∨ r < 0) ∧ L = [] ∧ z = 22) ∨ (OkL l ∧ 0 ≤ r ∧ (∃ k, L = (ordC l).take k ∧ k ≤ l.length ∧ (∀ j, j < k → roomC ((ordC l).take j) < r) ∧ (k < l.length → r ≤ roomC ((ordC l).take k))) ∧ z = 0)
def ListOut (w : World) (R : List Cd → Int → Prop) (e : Ending) (w' : World) : Prop :=
  ∃ x m cp L z, R L z ∧ e = .returned (.tuple #[.slice x m cp, .int .i64 z]) ∧ m = L.length ∧ w'.ownsRow w.heap.size CD 4 (.slice x m cp) m (cellsI (flatC L)) ∧ Below w.heap.size w w'
theorem best_enter (args : Array Value) (W : World) : (callFunc 21 args).run Try.prog W = .ok (.enter 21 args) W := by kernel_rfl
theorem until_enter (args : Array Value) (W : World) : (callFunc 24 args).run Try.prog W = .ok (.enter 24 args) W := by kernel_rfl
set_option maxHeartbeats 4000000 in
theorem best_any (k : Int) (hC : Cds w a l) (hn : n = l.length) (hmx : n ≤ 9223372036854775807) :
    Calls Try.prog 10 #[.slice a n cap, .int .i64 k] w (ListOut w (BestIs l k)) := by
  have hb1 := sup_pk w (.cells #[.int .i64 k] 3)
  have HCk := Lib.hid (check_any (cap := cap) (hC.below hb1) hn hmx)
  have HX := Lib.hid (blo_laid w 3 #[.int .i64 k])
  have HC := Lib.hid (hC.below hb1)
  have HB1 := Lib.hid hb1
  have HN := Lib.hid hn
  clear hC hn hb1
  go_enter Try.func10, Try.ntmps10
  go_wp2_with fail
  generalize (w.alloc (.cells #[.int .i64 k] 3)) = w1 at *
  refine HCk.out.mono ?_
  rintro e w2 ⟨z, hz, rfl, hb2⟩
  have HC2 := Lib.hid (HC.out.below hb2)
  have HX2 := Lib.hid (HX.out.later hb2)
  have HB2 := Lib.hid (HB1.out.trans (hb2.mono HB1.out.size))
  have hx2 := HX2.out.cell 0
  simp at hx2
  clear hb2 HC HX HB1 HCk
  have hmf : ∀ (fn : Fn) (first cap : Array Value) (w : World), (Instr.makeFunc fn first cap).run Try.prog w = .ok (.func fn first cap) w := fun _ _ _ _ => rfl
  rcases hz with ⟨h1, h2, rfl⟩ | ⟨h1, rfl⟩
  · by_cases hk : k < 0
    · have HI : Hid (BestIs l k [] 22) := .inl ⟨.inr hk, rfl, rfl⟩
      clear h1 h2
      go_wp2_with fail
      go_ret2
      exact ⟨none, 0, 0, [], 22, HI.out, rfl, rfl, World.ownsRow_nil _ _ _ _, HB2.out⟩
    · have HOk : Hid (OkL l) := ⟨h1, h2⟩
      have hF := first_any (cap := cap) (fun xs => decide ((xs.length : Int) < k)) 21 ⟨w.heap.size, 0, none⟩ best_enter HC2.out HN.out (by rw [HN.out]; exact h1) h2
        (fun W x m c xs hb hm h512 hg hc => by
          have := more_any W x m c ⟨w.heap.size, 0, none⟩ k (by have := (HX2.out.later hb).cell 0; simpa using this)
          subst hm
          exact this.mono fun e w' ⟨he, hw⟩ => ⟨he, by subst hw; exact Below.refl _ _⟩)
      have HF := Lib.hid hF
      clear h1 h2 hF
      go_wp2_with fail
      refine HF.out.mono ?_
      rintro e w3 ⟨m, x, cp, rfl, hm, hall, hno, hown, hb3⟩
      have hlen := ordC_length l
      have HI : Hid (BestIs l k ((ordC l).take m) 0) := by
        refine .inr ⟨HOk.out, by omega, ?_, rfl⟩
        rcases Nat.lt_or_ge k.toNat (ordC l).length with q | q
        · rcases Nat.lt_trichotomy m k.toNat with r | r | r
          · have := hno (by omega)
            simp [List.length_take] at this
            omega
          · rw [r]
          · have := hall k.toNat r
            simp [List.length_take] at this
            omega
        · rw [List.take_of_length_le q]
          rcases Nat.lt_or_ge m (ordC l).length with r | r
          · have := hno r
            simp [List.length_take] at this
            omega
          · rw [List.take_of_length_le r]
      have HL : Hid (m = ((ordC l).take m).length) := by show _ = _; rw [List.length_take]; omega
      have HO := Lib.hid hown
      have HB3 := Lib.hid (HB2.out.trans (hb3.mono HB2.out.size))
      have HS2 := Lib.hid HB2.out.size
      clear hm hall hno hown hb3 hlen HF
      go_wp2_with fail
      go_ret2
      exact ⟨x, m, cp, _, 0, HI.out, rfl, HL.out, own_mono HO.out HS2.out, HB3.out⟩
  · have HI : Hid (BestIs l k [] 22) := .inl ⟨.inl h1, rfl, rfl⟩
    clear h1
    go_wp2_with fail
    go_ret2
    exact ⟨none, 0, 0, [], 22, HI.out, rfl, rfl, World.ownsRow_nil _ _ _ _, HB2.out⟩
set_option maxHeartbeats 4000000 in
theorem uptil_any (k : Int) (hC : Cds w a l) (hn : n = l.length) (hmx : n ≤ 9223372036854775807) :
    Calls Try.prog 16 #[.slice a n cap, .int .i64 k] w (ListOut w (UntilIs l k)) := by
  have hb1 := sup_pk w (.cells #[.int .i64 k] 3)
  have HCk := Lib.hid (check_any (cap := cap) (hC.below hb1) hn hmx)
  have HX := Lib.hid (blo_laid w 3 #[.int .i64 k])
  have HC := Lib.hid (hC.below hb1)
  have HB1 := Lib.hid hb1
  have HN := Lib.hid hn
  clear hC hn hb1
  go_enter Try.func16, Try.ntmps16
  go_wp2_with fail
  generalize (w.alloc (.cells #[.int .i64 k] 3)) = w1 at *
  refine HCk.out.mono ?_
  rintro e w2 ⟨z, hz, rfl, hb2⟩
  have HC2 := Lib.hid (HC.out.below hb2)
  have HX2 := Lib.hid (HX.out.later hb2)
  have HB2 := Lib.hid (HB1.out.trans (hb2.mono HB1.out.size))
  have hx2 := HX2.out.cell 0
  simp at hx2
  clear hb2 HC HX HB1 HCk
  have hmf : ∀ (fn : Fn) (first cap : Array Value) (w : World), (Instr.makeFunc fn first cap).run Try.prog w = .ok (.func fn first cap) w := fun _ _ _ _ => rfl
  rcases hz with ⟨h1, h2, rfl⟩ | ⟨h1, rfl⟩
  · by_cases hk : k < 0
    · have HI : Hid (UntilIs l k [] 22) := .inl ⟨.inr hk, rfl, rfl⟩
      clear h1 h2
      go_wp2_with fail
      go_ret2
      exact ⟨none, 0, 0, [], 22, HI.out, rfl, rfl, World.ownsRow_nil _ _ _ _, HB2.out⟩
    · have HOk : Hid (OkL l) := ⟨h1, h2⟩
      have hF := first_any (cap := cap) (fun xs => decide (roomC xs < k)) 24 ⟨w.heap.size, 0, none⟩ until_enter HC2.out HN.out (by rw [HN.out]; exact h1) h2
        (fun W x m c xs hb hm h512 hg hc => by
          exact until_any ⟨w.heap.size, 0, none⟩ k hc hm h512 hg (by have := (HX2.out.later hb).cell 0; simpa using this))
      have HF := Lib.hid hF
      clear h1 h2 hF
      go_wp2_with fail
      refine HF.out.mono ?_
      rintro e w3 ⟨m, x, cp, rfl, hm, hall, hno, hown, hb3⟩
      have hlen := ordC_length l
      have HI : Hid (UntilIs l k ((ordC l).take m) 0) := by
        refine .inr ⟨HOk.out, by omega, ⟨m, rfl, by omega, fun j hj => by have := hall j hj; simpa using this, fun hj => by have := hno (by omega); simpa using this⟩, rfl⟩
      have HL : Hid (m = ((ordC l).take m).length) := by show _ = _; rw [List.length_take]; omega
      have HO := Lib.hid hown
      have HB3 := Lib.hid (HB2.out.trans (hb3.mono HB2.out.size))
      have HS2 := Lib.hid HB2.out.size
      clear hm hall hno hown hb3 hlen HF
      go_wp2_with fail
      go_ret2
      exact ⟨x, m, cp, _, 0, HI.out, rfl, HL.out, own_mono HO.out HS2.out, HB3.out⟩
  · have HI : Hid (UntilIs l k [] 22) := .inl ⟨.inl h1, rfl, rfl⟩
    clear h1
    go_wp2_with fail
    go_ret2
    exact ⟨none, 0, 0, [], 22, HI.out, rfl, rfl, World.ownsRow_nil _ _ _ _, HB2.out⟩
end
end Go.Proofs.Ytblpfgjjiihjoaa
