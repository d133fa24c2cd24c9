/-
  A heap of candidates in memory; Less, Len.
-/
import Derived.Test.YtblpfgjjiihjoaaPkBetter
import Derived.Deep.CutRange
namespace Go.Proofs.Ytblpfgjjiihjoaa
open Go.RowKit

structure Rk where
  c : Cd
  at_ : Int
/-- Is a ahead of b? -/
def lessB (a b : Rk) : Bool := betB a.c b.c || (!betB b.c a.c && decide (a.at_ < b.at_))
structure Od (w : World) (gr m : Nat) (h : Nat → Rk) : Prop where
  row : ∃ cs, Blo w gr RK cs ∧ ∀ i, i < m → cs[i * 5]? = some (.int .i64 (h i).c.seg) ∧ cs[i * 5 + 1]? = some (.int .i64 (h i).c.live) ∧ cs[i * 5 + 2]? = some (.int .i64 (h i).c.cap) ∧ cs[i * 5 + 3]? = some (.int .i64 (h i).c.age) ∧ cs[i * 5 + 4]? = some (.int .i64 (h i).at_)
  good : ∀ i, i < m → GoodC (h i).c
def rkv (r : Rk) : Array Value := #[.int .i64 r.c.seg, .int .i64 r.c.live, .int .i64 r.c.cap, .int .i64 r.c.age, .int .i64 r.at_]
section
variable {w w' : World} {gr m cap i j : Nat} {h : Nat → Rk}
theorem Od.later (hO : Od w gr m h) (hb : Below w.heap.size w w') : Od w' gr m h := by
  obtain ⟨⟨cs, h1, h2⟩, h3⟩ := hO
  exact ⟨⟨cs, h1.later hb, h2⟩, h3⟩
theorem Od.cells (hO : Od w gr m h) (hi : i < m) : w.cell? ⟨gr, i * 5, none⟩ = some (.int .i64 (h i).c.seg) ∧ w.cell? ⟨gr, i * 5 + 1, none⟩ = some (.int .i64 (h i).c.live) ∧ w.cell? ⟨gr, i * 5 + 2, none⟩ = some (.int .i64 (h i).c.cap) ∧ w.cell? ⟨gr, i * 5 + 3, none⟩ = some (.int .i64 (h i).c.age) ∧ w.cell? ⟨gr, i * 5 + 4, none⟩ = some (.int .i64 (h i).at_) := by
  obtain ⟨⟨cs, h1, h2⟩, h3⟩ := hO
  obtain ⟨a, b, c, d, e⟩ := h2 i hi
  exact ⟨(h1.cell _).trans a, (h1.cell _).trans b, (h1.cell _).trans c, (h1.cell _).trans d, (h1.cell _).trans e⟩
theorem lay2 (w : World) (t1 t2 : TypeId) (c1 c2 : Array Value) :
    Blo ((w.alloc (.cells c1 t1)).alloc (.cells c2 t2)).drew w.heap.size t1 c1 ∧ Blo ((w.alloc (.cells c1 t1)).alloc (.cells c2 t2)).drew (w.heap.size + 1) t2 c2 ∧ Below w.heap.size w ((w.alloc (.cells c1 t1)).alloc (.cells c2 t2)).drew := by
  refine ⟨((blo_laid w _ _).alloc _).drew, ?_, (((Below.refl _ _).alloc (Nat.le_refl _) _).alloc (by simp) _).drew⟩
  have := blo_laid (w.alloc (.cells c1 t1)) t2 c2
  have e : (w.alloc (.cells c1 t1)).heap.size = w.heap.size + 1 := by simp
  rw [e] at this
  exact this.drew
def LessCut (w : World) (a b : Rk) (s7 s8 : Value) (wx : World) : Prop :=
  ∃ b7 b8, s7 = .pointer (some ⟨b7, 0, none⟩) ∧ s8 = .pointer (some ⟨b8, 0, none⟩) ∧ Blo wx b7 RK (rkv a) ∧ Blo wx b8 RK (rkv b) ∧ Below w.heap.size w wx
set_option maxHeartbeats 4000000 in
theorem less_any (hO : Od w gr m h) (hi : i < m) (hj : j < m) (hm : m ≤ 512) :
    Calls Try.prog 47 #[.slice (some ⟨gr, 0, none⟩) m cap, .int .i64 i, .int .i64 j] w fun e w' => e = .returned (.bool (lessB (h i) (h j))) ∧ Below w.heap.size w w' := by
  obtain ⟨x0, x1, x2, x3, x4⟩ := hO.cells hi
  obtain ⟨y0, y1, y2, y3, y4⟩ := hO.cells hj
  have hgr : gr < w.heap.size := by obtain ⟨cs, h1, _⟩ := hO.row; exact h1.lt
  have hgr1 : gr ≠ w.heap.size := by omega
  have hgr2 : gr ≠ w.heap.size + 1 := by omega
  have hgi := hO.good i hi
  have hgj := hO.good j hj
  have HB1 : Hid (∀ W : World, Calls Try.prog 18 #[.agg #[.int .i64 (h i).c.seg, .int .i64 (h i).c.live, .int .i64 (h i).c.cap, .int .i64 (h i).c.age], .agg #[.int .i64 (h j).c.seg, .int .i64 (h j).c.live, .int .i64 (h j).c.cap, .int .i64 (h j).c.age]] W fun e w' => e = .returned (.bool (betB (h i).c (h j).c)) ∧ Below W.heap.size W w') := fun W => better_any (h i).c (h j).c W hgi hgj
  have HB2 : Hid (∀ W : World, Calls Try.prog 18 #[.agg #[.int .i64 (h j).c.seg, .int .i64 (h j).c.live, .int .i64 (h j).c.cap, .int .i64 (h j).c.age], .agg #[.int .i64 (h i).c.seg, .int .i64 (h i).c.live, .int .i64 (h i).c.cap, .int .i64 (h i).c.age]] W fun e w' => e = .returned (.bool (betB (h j).c (h i).c)) ∧ Below W.heap.size W w') := fun W => better_any (h j).c (h i).c W hgj hgi
  have HL : Hid (lessB (h i) (h j) = (betB (h i).c (h j).c || (!betB (h j).c (h i).c && decide ((h i).at_ < (h j).at_)))) := rfl
  have i1 : (0 : Int) ≤ (i : Int) := by omega
  have i2 : (i : Int) < (m : Int) := by omega
  have j1 : (0 : Int) ≤ (j : Int) := by omega
  have j2 : (j : Int) < (m : Int) := by omega
  clear hgi hgj hO
  generalize lessB (h i) (h j) = LB at *
  generalize h i = a at *
  generalize h j = b at *
  go_enter Try.func47, Try.ntmps47
  go_wp2_with fail
  go_cut [7, 8] from 9 to 16 (fun s7 s8 wx => LessCut w a b s7 s8 wx)
  case first =>
    go_region
    all_goals (go_wp2_with fail; go_meet)
    case rel =>
      obtain ⟨q1, q2, q3⟩ := lay2 w RK RK (rkv a) (rkv b)
      exact ⟨_, _, rfl, rfl, q1, q2, q3⟩
    case rel =>
      obtain ⟨q1, q2, q3⟩ := lay2 w RK RK (rkv b) (rkv a)
      exact ⟨_, _, rfl, rfl, q2, q1, q3⟩
  case rest =>
    obtain ⟨b7, b8, rfl, rfl, hb7, hb8, hbl⟩ := hcut
    have HA := Lib.hid hb7
    have HB := Lib.hid hb8
    have HBl := Lib.hid hbl
    have c0 := hb7.cell 0
    have c1 := hb7.cell 1
    have c2 := hb7.cell 2
    have c3 := hb7.cell 3
    have c4 := hb7.cell 4
    have d0 := hb8.cell 0
    have d1 := hb8.cell 1
    have d2 := hb8.cell 2
    have d3 := hb8.cell 3
    have d4 := hb8.cell 4
    simp [rkv] at c0 c1 c2 c3 c4 d0 d1 d2 d3 d4
    clear hb7 hb8 hbl x0 x1 x2 x3 x4 y0 y1 y2 y3 y4
    cases hab : betB a.c b.c with
    | true =>
      rw [hab] at HB1 HL
      have HLt : Hid (LB = true) := by show _ = _; rw [HL.out]; rfl
      clear hab HL
      go_wp2_with fail
      refine (HB1.out _).mono ?_
      rintro e w5 ⟨rfl, hb⟩
      have HB5 := Lib.hid (HBl.out.trans (hb.mono HBl.out.size))
      clear hb
      go_wp2
      go_ret
      exact ⟨by rw [HLt.out]; rfl, HB5.out⟩
    | false =>
      rw [hab] at HB1 HL
      clear hab
      go_wp2_with fail
      refine (HB1.out _).mono ?_
      rintro e w5 ⟨rfl, hb⟩
      have HB5 := Lib.hid (HBl.out.trans (hb.mono HBl.out.size))
      have ha5 := HA.out.later hb
      have hb5 := HB.out.later hb
      clear hb c0 c1 c2 c3 c4 d0 d1 d2 d3 d4
      have HA5 := Lib.hid ha5
      have HBb5 := Lib.hid hb5
      have c0 := ha5.cell 0
      have c1 := ha5.cell 1
      have c2 := ha5.cell 2
      have c3 := ha5.cell 3
      have c4 := ha5.cell 4
      have d0 := hb5.cell 0
      have d1 := hb5.cell 1
      have d2 := hb5.cell 2
      have d3 := hb5.cell 3
      have d4 := hb5.cell 4
      simp [rkv] at c0 c1 c2 c3 c4 d0 d1 d2 d3 d4
      clear ha5 hb5
      cases hba : betB b.c a.c with
      | true =>
        rw [hba] at HB2 HL
        have HLt : Hid (LB = false) := by show _ = _; rw [HL.out]; rfl
        clear hba HL
        go_wp2_with fail
        refine (HB2.out _).mono ?_
        rintro e w6 ⟨rfl, hb⟩
        have HB6 := Lib.hid (HB5.out.trans (hb.mono HB5.out.size))
        clear hb
        go_wp2
        go_ret
        exact ⟨by rw [HLt.out]; rfl, HB6.out⟩
      | false =>
        rw [hba] at HB2 HL
        have HLt : Hid (LB = decide (a.at_ < b.at_)) := by show _ = _; rw [HL.out]; simp
        clear hba HL
        go_wp2_with fail
        refine (HB2.out _).mono ?_
        rintro e w6 ⟨rfl, hb⟩
        have HB6 := Lib.hid (HB5.out.trans (hb.mono HB5.out.size))
        have c4' := (HA5.out.later hb).cell 4
        have d4' := (HBb5.out.later hb).cell 4
        simp [rkv] at c4' d4'
        clear hb
        go_wp2
        go_ret
        exact ⟨by rw [HLt.out]; rfl, HB6.out⟩
end
end Go.Proofs.Ytblpfgjjiihjoaa
