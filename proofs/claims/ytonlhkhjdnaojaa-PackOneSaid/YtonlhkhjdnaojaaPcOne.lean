/-
  PackOne.
-/
import Derived.Test.YtonlhkhjdnaojaaPcCat
import Derived.Test.YtonlhkhjdnaojaaKit
import Derived.Deep.CutRange
namespace Go.Proofs.Ytonlhkhjdnaojaa
open Go.RowKit

def lbK (k : Nat) : List Int := (List.range k).map fun (i : Nat) => (i : Int)
def isK (k : Nat) : List Int := (List.range k).map fun (i : Nat) => ((i + 1 : Nat) : Int)
theorem lbK_succ (k : Nat) : lbK k ++ [(k : Int)] = lbK (k + 1) := by simp [lbK, List.range_succ]
theorem isK_succ (k : Nat) : isK k ++ [((k + 1 : Nat) : Int)] = isK (k + 1) := by simp [isK, List.range_succ]
theorem lbK_len (k : Nat) : (lbK k).length = k := by simp [lbK]
theorem isK_len (k : Nat) : (isK k).length = k := by simp [isK]
def fsOne (a : Nat) : List Fi := if 0 < a then [⟨9, 0, lbK a⟩] else []
theorem items_one (a b : Nat) : items (fsOne a) (isK b) = itsOne a b := by
  unfold items fsOne itsOne
  split
  · simp [itF, lbK, isK, List.map_map, Function.comp_def]
  · have : a = 0 := by omega
    subst this
    simp [itF, isK, List.map_map, Function.comp_def]
def nOne (a : Nat) : Nat := if 0 < a then 1 else 0
def wOne (a b : Nat) : Nat := 10 + (if 0 < a then 4 + 2 * a else 0) + b
/-- The list at hand. -/
def LbR (w : World) (bx a : Nat) (t : Value) (wr : World) : Prop := ∃ (k : Nat) (v : Value), k ≤ a ∧ t = .int .i64 k ∧ Blo wr bx FN #[.int .i64 9, .int .i64 0, v] ∧ wr.ownsRow (bx + 1) IT 1 v k (cellsI (lbK k)) ∧ Below w.heap.size w wr
def IsR (w : World) (fa : Option Addr) (a b base : Nat) (l t : Value) (wr : World) : Prop := ∃ k : Nat, k ≤ b ∧ t = .int .i64 k ∧ wr.ownsRow base IT 1 l k (cellsI (isK k)) ∧ Fis wr fa (fsOne a) ∧ Below w.heap.size w wr ∧ base ≤ wr.heap.size
theorem lb_step {w wr w7 : World} {bx a k g1 cap1 : Nat} {v : Value} (hk : k < a) (hX : Blo wr bx FN #[.int .i64 9, .int .i64 0, v]) (hO : wr.ownsRow (bx + 1) IT 1 v k (cellsI (lbK k))) (hB : Below w.heap.size w wr) (hbx : w.heap.size ≤ bx)
    (hown : w7.ownsRow (bx + 1) IT 1 (.slice (some ⟨g1, 0, none⟩) (k + 1) cap1) (k + 1) (cellsI (lbK k ++ [(k : Int)]))) (hgrow : (wr.alloc (.cells #[.int .i64 k] IT)).grownBy w7 v.ownBlock) :
    w7.cell? ⟨bx, 2, none⟩ = some v ∧ w7.frozen? ⟨bx, 2, none⟩ = false ∧ LbR w bx a (.int .i64 ((k + 1 : Nat) : Int)) (w7.setCell ⟨bx, 2, none⟩ (.slice (some ⟨g1, 0, none⟩) (k + 1) cap1)) := by
  have hb := sup_pc wr (.cells #[.int .i64 k] IT)
  have hO1 := own_later hO hb
  have hX1 := hX.later hb
  have hX7 := hX1.grown hgrow (hX1.row_apart hO1 (by decide))
  have hB1 := hB.trans (hb.mono hB.size)
  rw [lbK_succ] at hown
  refine ⟨hX7.cell 2, hX7.frozen 2, k + 1, _, hk, rfl, hX7.put 2 _, own_far hown (p := ⟨bx, 2, none⟩) (hX7.row_apart hown (by decide)) _, ?_⟩
  exact (hB1.grown hgrow hB1.size (fun q e => by have := (own_bd hO1 e).1; omega)).setCell (p := ⟨bx, 2, none⟩) hbx _
theorem is_step {w wr w7 : World} {fa : Option Addr} {a b base k g1 cap1 : Nat} {l : Value} (hk : k < b) (hO : wr.ownsRow base IT 1 l k (cellsI (isK k))) (hF : Fis wr fa (fsOne a)) (hB : Below w.heap.size w wr) (hlow : w.heap.size ≤ base) (hbs : base ≤ wr.heap.size) (hFl : ∀ W, Below base wr W → Fis W fa (fsOne a))
    (hown : w7.ownsRow base IT 1 (.slice (some ⟨g1, 0, none⟩) (k + 1) cap1) (k + 1) (cellsI (isK k ++ [((k + 1 : Nat) : Int)]))) (hgrow : (wr.alloc (.cells #[.int .i64 ((k + 1 : Nat) : Int)] IT)).grownBy w7 l.ownBlock) :
    IsR w fa a b base (.slice (some ⟨g1, 0, none⟩) (k + 1) cap1) (.int .i64 ((k + 1 : Nat) : Int)) w7 := by
  have hb := sup_pc wr (.cells #[.int .i64 ((k + 1 : Nat) : Int)] IT)
  have hO1 := own_later hO hb
  have hB1 := hB.trans (hb.mono hB.size)
  have hbase : Below base wr w7 := (hb.mono hbs).grown hgrow (by simp; omega) (fun q e => (own_bd hO1 e).1)
  rw [isK_succ] at hown
  exact ⟨k + 1, hk, rfl, hown, hFl _ hbase, hB1.grown hgrow hB1.size (fun q e => Nat.le_trans hlow (own_bd hO1 e).1), Nat.le_trans hbs hbase.size⟩
theorem one_cellP (w : World) (n : Int) : (w.alloc (.cells #[.int .i64 n] IT)).cell? ⟨w.heap.size, 0, none⟩ = some (.int .i64 n) := (blo_laid w IT #[.int .i64 n]).cell 0
set_option maxRecDepth 100000 in
set_option maxHeartbeats 8000000 in
theorem packOne_walk (x y z : Int) (w : World) (_ : (Lit.int .i64 x).wf = true) (_ : (Lit.int .i64 y).wf = true) (_ : (Lit.int .i64 z).wf = true) :
    Calls Try.prog 6 #[.int .i64 x, .int .i64 y, .int .i64 z] w fun e w' => e = .returned (.bool true) ∧ Below w.heap.size w w' := by
  have HAw := Lib.hid (awake_any w)
  obtain ⟨a, ha, hza⟩ := cut_mod x 30 (by decide)
  obtain ⟨b, hb, hzb⟩ := cut_mod y 19 (by decide)
  obtain ⟨c, hc, hzc⟩ := cut_mod z 56 (by decide)
  simp at hza hzb hzc
  go_enter Try.func6, Try.ntmps6
  go_wp2_with fail
  refine HAw.out.mono ?_
  rintro e w1 ⟨rfl, hb1⟩
  have HB1 := Lib.hid hb1
  clear hb1 HAw
  go_upto_if 33 with (fail)
  rw [hza, hzb]
  clear hza hzb hzc
  go_cut [7, 9] from 15 (fun f wd wx => ∃ fa fc, f = .slice fa (nOne a) fc ∧ wd = .int .i64 (wOne a b : Nat) ∧ Fis wx fa (fsOne a) ∧ Below w.heap.size w wx)
  case first =>
    by_cases ha0 : 0 < a
    · have k0 : (0 : Int) < (a : Int) := by omega
      have hst : LbR w w1.heap.size a (.int .i64 0) ((w1.alloc (.cells #[.int .i64 9, .int .i64 0, .slice none 0 0] FN))) := ⟨0, .slice none 0 0, Nat.zero_le _, rfl, blo_laid _ _ _, (show World.ownsRow _ _ IT 1 (.slice none 0 0) 0 [] from own_nil _ _ _ _), HB1.out.trans ((sup_pc w1 _).mono HB1.out.size)⟩
      have HSt := Lib.hid hst
      have hbx : w.heap.size ≤ w1.heap.size := HB1.out.size
      clear hst HB1
      rw [decide_eq_true ha0]
      go_wp2_with fail
      go_loopw [11] (fun t wr => LbR w w1.heap.size a t wr) (fun t _ => a - (intOf t).toNat)
      case atStart => exact HSt.out
      case round =>
        clear HSt
        obtain ⟨k, v, hk, rfl, hX, hO, hB⟩ := hrel
        by_cases hlt : k < a
        · have k1 : (k : Int) < (a : Int) := by omega
          have x2 := hX.cell 2
          simp at x2
          have HO := Lib.hid (own_later hO (sup_pc wr (.cells #[.int .i64 k] IT)))
          have HSt := Lib.hid (fun w7 g1 cap1 => lb_step (w := w) (w7 := w7) (g1 := g1) (cap1 := cap1) hlt hX hO hB hbx)
          have hsz : w1.heap.size + 1 ≤ wr.heap.size := hX.lt
          clear hX hO hB
          go_wp2_with (at_builtin; refine wp_append_int rfl (.tmp 41) (.tmp 43) 23 rfl (w1.heap.size + 1) IT Try.underlying23 info_it _ _ _ rfl HO.out wr.heap.size k rfl (one_cellP wr k) (by omega) (by simp; omega) ?_; intro g1 cap1 w7 hown hgrow hat hlt1; obtain ⟨y1, y2, y3⟩ := HSt.out w7 g1 cap1 hown hgrow; have HR := Lib.hid y3; clear hown hgrow hat y3)
          go_roundw
          case rel => exact (by simpa using HR.out)
          case measure => simp [intOf]; omega
        · have hka : k = a := by omega
          subst hka
          obtain ⟨gv, cv, rfl, hgv⟩ := own_some hO ha0
          have x0 := hX.cell 0
          have x1 := hX.cell 1
          have x2 := hX.cell 2
          simp at x0 x1 x2
          have k1 : ¬ (k : Int) < (k : Int) := by omega
          have hF := fis_lit wr gv 9 0 (lbK k) k cv (lbK_len k).symm (Ints.own hO) wr.heap.size rfl
          have HF := Lib.hid hF
          have HB := Lib.hid (hB.trans ((sup_pc wr (.cells #[.int .i64 9, .int .i64 0, .slice (some ⟨gv, 0, none⟩) k cv] FN)).mono hB.size))
          clear hX hO hB hF
          go_wp2_with fail
          go_meet
          refine ⟨some ⟨wr.heap.size, 0, none⟩, 1, ?_, ?_, ?_, HB.out⟩
          · unfold nOne; rw [if_pos ha0]
          · unfold wOne; rw [if_pos ha0]; congr 1; omega
          · unfold fsOne; rw [if_pos ha0]; exact HF.out
    · have k0 : ¬ (0 : Int) < (a : Int) := by omega
      go_wp2_with fail
      go_meet
      refine ⟨none, 0, ?_, ?_, ?_, HB1.out⟩
      · unfold nOne; rw [if_neg ha0]
      · unfold wOne; rw [if_neg ha0]; congr 1
      · unfold fsOne; rw [if_neg ha0]; exact Fis.nil _ _
  case rest =>
    clear HB1
    obtain ⟨fa, fc, rfl, rfl, hF, hB⟩ := hcut
    have HSt : Hid (IsR w fa a b wc.heap.size (.slice none 0 0) (.int .i64 0) wc) := ⟨0, Nat.zero_le _, rfl, (show World.ownsRow _ _ IT 1 (.slice none 0 0) 0 [] from own_nil _ _ _ _), hF, hB, Nat.le_refl _⟩
    have HF := Lib.hid hF
    have hlow : w.heap.size ≤ wc.heap.size := hB.size
    clear hF hB
    go_wp2_with fail
    go_loopw [8, 12] (fun l t wr => IsR w fa a b wc.heap.size l t wr ∧ Below wc.heap.size wc wr) (fun _ t _ => b - (intOf t).toNat)
    case atStart => exact ⟨HSt.out, Below.refl _ _⟩
    case round =>
      clear HSt
      obtain ⟨⟨k, hk, rfl, hO, hFr, hB, hbs⟩, hBc⟩ := hrel
      by_cases hlt : k < b
      · have k1 : (k : Int) < (b : Int) := by omega
        have HO := Lib.hid (own_later hO (sup_pc wr (.cells #[.int .i64 ((k : Int) + 1)] IT)))
        have HSt := Lib.hid (fun w7 g1 cap1 => is_step (w := w) (w7 := w7) (g1 := g1) (cap1 := cap1) hlt hO hFr hB hlow hbs (fun W hW => HF.out.later (hBc.trans hW)))
        have HBc := Lib.hid (fun (w7 : World) (hg : (wr.alloc (.cells #[.int .i64 ((k : Int) + 1)] IT)).grownBy w7 u8.ownBlock) => (hBc.trans ((sup_pc wr (.cells #[.int .i64 ((k : Int) + 1)] IT)).mono hbs)).grown hg (by simp; omega) (fun q e => (own_bd hO e).1))
        clear hO hFr hB hBc
        go_wp2_with (at_builtin; refine wp_append_int rfl (.tmp 58) (.tmp 61) 23 rfl wc.heap.size IT Try.underlying23 info_it _ _ _ rfl HO.out wr.heap.size ((k : Int) + 1) rfl (one_cellP wr _) (by omega) (by simp; omega) ?_; intro g1 cap1 w7 hown hgrow hat hlt1; have HR := Lib.hid (HSt.out w7 g1 cap1 hown hgrow); have HB7 := Lib.hid (HBc.out w7 hgrow); clear hown hgrow hat)
        go_roundw
        case rel => exact ⟨by simpa using HR.out, HB7.out⟩
        case measure => simp [intOf]; omega
      · have hkb : k = b := by omega
        subst hkb
        have k1 : ¬ (k : Int) < (k : Int) := by omega
        obtain ⟨al, cl, rfl, _⟩ := own_slice hO
        have hbad : ¬ badP ((c : Int) + 8) ((c : Int) + 8) := by unfold badP; omega
        have hP := plan_res (fc := fc) (ic := cl) fa (nOne a) al k ((c : Int) + 8) ((c : Int) + 8) hbad hFr (by unfold nOne fsOne; split <;> rfl) (by unfold nOne; split <;> decide) (fun x hx => by
          unfold fsOne at hx
          split at hx
          · rw [List.mem_singleton.1 hx, lbK_len]; omega
          · cases hx) (Ints.own hO) (isK_len k).symm (by omega)
        rw [items_one] at hP
        have hN64 := resN_le hbad (itsOne a k)
        obtain ⟨q1, q2, q3⟩ := one_answer a k ((c : Int) + 8) ha hb (by omega) (by omega)
        unfold PlanR at hP
        rw [q1] at hP
        generalize resN (runP ((c : Int) + 8) (p0 ((c : Int) + 8)) (itsOne a k)) = N at *
        have HP := Lib.hid hP
        have HB := Lib.hid hB
        clear hP hO hFr hB hBc hbs q1
        have q3' : N ≤ 1 ↔ (((2 + a + k : Nat) : Int) ≤ (c : Int) + 8 ∧ wOne a k ≤ 88) ∨ a + k = 0 := q3
        generalize wOne a k = W at *
        have Q2 := Lib.hid q2
        have Q3 := Lib.hid q3'
        clear q2 q3 q3'
        go_wp2_with fail
        refine HP.out.mono ?_
        rintro e w3 ⟨pa, pc, rfl, hno, hp, hb3⟩
        have HB3 := Lib.hid (HB.out.trans (hb3.mono HB.out.size))
        clear hno hp hb3 HP HB
        by_cases h0 : a + k = 0
        · obtain rfl : a = 0 := by omega
          obtain rfl : k = 0 := by omega
          obtain rfl : N = 0 := Q2.out.2 rfl
          clear Q2 Q3 k1 h0
          go_wp2
          all_goals
            go_ret
            exact ⟨by simp <;> omega, HB3.out⟩
        · have hN : N ≠ 0 := fun e => h0 (Q2.out.1 e)
          have eN : ((N : Int) == 0) = false := beq_false_of_ne (by omega)
          have eA : ((a : Int) + (k : Int) == 0) = false := beq_false_of_ne (by omega)
          have hq := Q3.out
          clear Q2 Q3 k1
          by_cases f2 : 2 + (a : Int) + (k : Int) ≤ (c : Int) + 8
          · by_cases f3 : (W : Int) ≤ 88
            · have f1 : (N : Int) ≤ 1 := by
                have := hq.2 (.inl ⟨by omega, by omega⟩)
                omega
              clear hq h0 hN
              go_wp2
              all_goals
                go_ret
                exact ⟨by simp <;> omega, HB3.out⟩
            · have f1 : ¬ (N : Int) ≤ 1 := fun h => by
                rcases hq.1 (by omega) with h | h
                · omega
                · exact h0 h
              clear hq h0 hN
              go_wp2
              all_goals
                go_ret
                exact ⟨by simp <;> omega, HB3.out⟩
          · have f1 : ¬ (N : Int) ≤ 1 := fun h => by
              rcases hq.1 (by omega) with h | h
              · omega
              · exact h0 h
            clear hq h0 hN
            go_wp2
            all_goals
              go_ret
              exact ⟨by simp <;> omega, HB3.out⟩
end Go.Proofs.Ytonlhkhjdnaojaa
