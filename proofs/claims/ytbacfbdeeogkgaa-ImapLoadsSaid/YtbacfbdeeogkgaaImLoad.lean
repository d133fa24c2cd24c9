/-
  The inode map loaded from blocks.
-/
import Derived.Test.YtbacfbdeeogkgaaImLoadP
import Derived.Test.YtbacfbdeeogkgaaLists
import Derived.Test.YtbacfbdeeogkgaaImStored
namespace Go.Proofs.Ytbacfbdeeogkgaa
open Go.RowKit Go.Maps

noncomputable def pA (L : List (List Nat)) (p : Nat) : Int := mA (nthL L (p / 8)) (p % 8)
noncomputable def pV (L : List (List Nat)) (p : Nat) : Int := mV (nthL L (p / 8)) (p % 8)
noncomputable def ldA (L : List (List Nat)) (n m p : Nat) : Int := if 1 ≤ p ∧ p < n ∧ p < m then pA L p else 0
noncomputable def ldV (L : List (List Nat)) (n m p : Nat) : Int := if 1 ≤ p ∧ p < n ∧ p < m then pV L p else 0
noncomputable def ldB (L : List (List Nat)) (n m p : Nat) : Bool := ldA L n m p != 0
/-- May this entry stand here? -/
def okQ (L : List (List Nat)) (n p : Nat) : Prop := mC (nthL L (p / 8)) = 0 ∧ ((1 ≤ p ∧ p < n) ∨ (pA L p = 0 ∧ pV L p = 0))
theorem ldA_in (L : List (List Nat)) (n m : Nat) (h : 1 ≤ m ∧ m < n) : upd (ldA L n m) m (pA L m) = ldA L n (m + 1) := by
  funext p
  by_cases e : p = m
  · subst e; rw [upd_at]; unfold ldA; rw [if_pos (by omega)]
  · rw [upd_ne _ _ _ e]; unfold ldA
    by_cases hp : 1 ≤ p ∧ p < n ∧ p < m
    · rw [if_pos hp, if_pos (by omega)]
    · rw [if_neg hp, if_neg (by omega)]
theorem ldV_in (L : List (List Nat)) (n m : Nat) (h : 1 ≤ m ∧ m < n) : upd (ldV L n m) m (pV L m) = ldV L n (m + 1) := by
  funext p
  by_cases e : p = m
  · subst e; rw [upd_at]; unfold ldV; rw [if_pos (by omega)]
  · rw [upd_ne _ _ _ e]; unfold ldV
    by_cases hp : 1 ≤ p ∧ p < n ∧ p < m
    · rw [if_pos hp, if_pos (by omega)]
    · rw [if_neg hp, if_neg (by omega)]
theorem ldB_in (L : List (List Nat)) (n m : Nat) (h : 1 ≤ m ∧ m < n) : upd (ldB L n m) m (pA L m != 0) = ldB L n (m + 1) := by
  funext p
  have ha := congrFun (ldA_in L n m h) p
  unfold ldB
  rw [← ha]
  by_cases e : p = m
  · subst e; rw [upd_at, upd_at]
  · rw [upd_ne _ _ _ e, upd_ne _ _ _ e]
theorem ldA_out (L : List (List Nat)) (n m : Nat) (h : m < 1 ∨ n ≤ m) : ldA L n (m + 1) = ldA L n m := by
  funext p
  unfold ldA
  by_cases hp : 1 ≤ p ∧ p < n ∧ p < m
  · rw [if_pos hp, if_pos (by omega)]
  · rw [if_neg hp, if_neg (by omega)]
theorem ldV_out (L : List (List Nat)) (n m : Nat) (h : m < 1 ∨ n ≤ m) : ldV L n (m + 1) = ldV L n m := by
  funext p
  unfold ldV
  by_cases hp : 1 ≤ p ∧ p < n ∧ p < m
  · rw [if_pos hp, if_pos (by omega)]
  · rw [if_neg hp, if_neg (by omega)]
theorem ldB_out (L : List (List Nat)) (n m : Nat) (h : m < 1 ∨ n ≤ m) : ldB L n (m + 1) = ldB L n m := by
  funext p
  unfold ldB
  rw [ldA_out L n m h]
theorem ld_zero (L : List (List Nat)) (n : Nat) : ldA L n 0 = (fun _ => 0) ∧ ldV L n 0 = (fun _ => 0) ∧ ldB L n 0 = (fun _ => false) := by
  refine ⟨?_, ?_, ?_⟩
  · funext p; unfold ldA; rw [if_neg (by omega)]
  · funext p; unfold ldV; rw [if_neg (by omega)]
  · funext p; unfold ldB ldA; rw [if_neg (by omega)]; rfl
structure LkS (w : World) (bm gs gd n : Nat) (L : List (List Nat)) (m : Nat) (W : World) : Prop where
  im : Im W bm gs gd n 0 (ldA L n m) (ldV L n m) (ldB L n m)
  b : Below w.heap.size w W
  ok : ∀ p, p < m → okQ L n p
def LkR (w : World) (bm gs gd n : Nat) (L : List (List Nat)) (t : Value) (W : World) : Prop := ∃ k : Nat, k ≤ L.length ∧ t = .int .i64 k ∧ LkS w bm gs gd n L (8 * k) W
def LiR (w : World) (bm gs gd n : Nat) (L : List (List Nat)) (k : Nat) (t : Value) (W : World) : Prop := ∃ i : Nat, i ≤ 8 ∧ t = .int .i64 i ∧ LkS w bm gs gd n L (8 * k + i) W
theorem LkS.later {w W W' : World} {bm gs gd n m : Nat} {L : List (List Nat)} (h : LkS w bm gs gd n L m W) (hb : Below W.heap.size W W') : LkS w bm gs gd n L m W' :=
  ⟨h.im.later hb, h.b.trans (hb.mono h.b.size), h.ok⟩
def LoadO (w : World) (n : Nat) (L : List (List Nat)) (e : Ending) (w' : World) : Prop :=
  (((∀ p, p < 8 * L.length → okQ L n p) ∧ ∃ bm gs gd, e = .returned (.tuple #[.pointer (some ⟨bm, 0, none⟩), .int .i64 0]) ∧ Im w' bm gs gd n 0 (ldA L n (8 * L.length)) (ldV L n (8 * L.length)) (ldB L n (8 * L.length)) ∧ (w.heap.size ≤ bm ∧ w.heap.size ≤ gs ∧ w.heap.size ≤ gd)) ∨
    (¬ (∀ p, p < 8 * L.length → okQ L n p) ∧ e = .returned (.tuple #[.pointer none, .int .i64 100]))) ∧ Below w.heap.size w w'
theorem index8_0 (A V : Nat → Int) : ∀ W : World, (Instr.index A8T (.agg (cells16 A V)) (.int .i64 0)).run Try.prog W = .ok (.agg #[.int .i64 (A 0), .int .i64 (V 0)]) W := fun _ => by kernel_rfl
theorem index8_1 (A V : Nat → Int) : ∀ W : World, (Instr.index A8T (.agg (cells16 A V)) (.int .i64 1)).run Try.prog W = .ok (.agg #[.int .i64 (A 1), .int .i64 (V 1)]) W := fun _ => by kernel_rfl
theorem index8_2 (A V : Nat → Int) : ∀ W : World, (Instr.index A8T (.agg (cells16 A V)) (.int .i64 2)).run Try.prog W = .ok (.agg #[.int .i64 (A 2), .int .i64 (V 2)]) W := fun _ => by kernel_rfl
theorem index8_3 (A V : Nat → Int) : ∀ W : World, (Instr.index A8T (.agg (cells16 A V)) (.int .i64 3)).run Try.prog W = .ok (.agg #[.int .i64 (A 3), .int .i64 (V 3)]) W := fun _ => by kernel_rfl
theorem index8_4 (A V : Nat → Int) : ∀ W : World, (Instr.index A8T (.agg (cells16 A V)) (.int .i64 4)).run Try.prog W = .ok (.agg #[.int .i64 (A 4), .int .i64 (V 4)]) W := fun _ => by kernel_rfl
theorem index8_5 (A V : Nat → Int) : ∀ W : World, (Instr.index A8T (.agg (cells16 A V)) (.int .i64 5)).run Try.prog W = .ok (.agg #[.int .i64 (A 5), .int .i64 (V 5)]) W := fun _ => by kernel_rfl
theorem index8_6 (A V : Nat → Int) : ∀ W : World, (Instr.index A8T (.agg (cells16 A V)) (.int .i64 6)).run Try.prog W = .ok (.agg #[.int .i64 (A 6), .int .i64 (V 6)]) W := fun _ => by kernel_rfl
theorem index8_7 (A V : Nat → Int) : ∀ W : World, (Instr.index A8T (.agg (cells16 A V)) (.int .i64 7)).run Try.prog W = .ok (.agg #[.int .i64 (A 7), .int .i64 (V 7)]) W := fun _ => by kernel_rfl
theorem index8 (A V : Nat → Int) (i : Nat) (hi : i < 8) (W : World) : (Instr.index A8T (.agg (cells16 A V)) (.int .i64 (i : Int))).run Try.prog W = .ok (.agg #[.int .i64 (A i), .int .i64 (V i)]) W := by
  have : i = 0 ∨ i = 1 ∨ i = 2 ∨ i = 3 ∨ i = 4 ∨ i = 5 ∨ i = 6 ∨ i = 7 := by omega
  rcases this with rfl | rfl | rfl | rfl | rfl | rfl | rfl | rfl
  · exact index8_0 A V W
  · exact index8_1 A V W
  · exact index8_2 A V W
  · exact index8_3 A V W
  · exact index8_4 A V W
  · exact index8_5 A V W
  · exact index8_6 A V W
  · exact index8_7 A V W
set_option maxHeartbeats 400000 in
theorem bad_yes (n : Int) (w : World) (h : n < 4 ∨ 200 < n) :
    Calls Try.prog 31 #[.int .i64 n] w fun e w' => e = .returned (.bool true) ∧ w = w' := by
  by_cases h1 : n < 4
  · clear h
    go_enter Try.func31, Try.ntmps31
    go_wp2
    go_ret
    exact ⟨rfl, rfl⟩
  · have h2 : 200 < n := by omega
    clear h
    go_enter Try.func31, Try.ntmps31
    go_wp2
    go_ret
    exact ⟨by first | (simp; done) | (simp; omega), rfl⟩
set_option maxHeartbeats 400000 in
theorem newI_bad (n : Int) (w : World) (h : n < 4 ∨ 200 < n) :
    Calls Try.prog 11 #[.int .i64 n] w fun e w' => e = .returned (.tuple #[.pointer none, .int .i64 22]) ∧ w = w' := by
  have HB := Lib.hid (bad_yes n w h)
  clear h
  go_enter Try.func11, Try.ntmps11
  go_wp2_with fail
  refine HB.out.mono ?_
  rintro e w1 ⟨rfl, rfl⟩
  go_wp2
  go_ret2
  exact ⟨rfl, rfl⟩
set_option maxHeartbeats 400000 in
theorem blocksOf_any (n : Nat) (w : World) (h : n ≤ 200) :
    Calls Try.prog 18 #[.int .i64 n] w fun e w' => e = .returned (.int .i64 ((n + 7) / 8 : Nat)) ∧ w = w' := by
  have i1 : (0 : Int) ≤ (n : Int) := by omega
  have i2 : (n : Int) ≤ 200 := by omega
  go_enter Try.func18, Try.ntmps18
  go_wp2
  go_ret
  refine ⟨?_, rfl⟩
  simp
  omega
set_option maxHeartbeats 400000 in
theorem load_bad (n : Int) (a : Option Addr) (m cap : Nat) (w : World) (h : n < 4 ∨ 200 < n) :
    Calls Try.prog 8 #[.int .i64 n, .slice a m cap] w fun e w' => e = .returned (.tuple #[.pointer none, .int .i64 22]) ∧ w = w' := by
  have HB := Lib.hid (newI_bad n w h)
  clear h
  go_enter Try.func8, Try.ntmps8
  go_wp2_with fail
  refine HB.out.mono ?_
  rintro e w1 ⟨rfl, rfl⟩
  go_wp2
  go_ret2
  exact ⟨rfl, rfl⟩
set_option maxRecDepth 100000 in
set_option maxHeartbeats 2000000 in
theorem load_len (n : Nat) (a : Option Addr) (m cap : Nat) (w : World) (h4 : 4 ≤ n) (hn : n ≤ 200) (hm : m ≠ (n + 7) / 8) :
    Calls Try.prog 8 #[.int .i64 n, .slice a m cap] w fun e w' => e = .returned (.tuple #[.pointer none, .int .i64 100]) ∧ Below w.heap.size w w' := by
  have HB := Lib.hid (newI_any n w h4 hn)
  have HO := Lib.hid (fun W => blocksOf_any n W hn)
  have hne : ((m : Int) == (((n + 7) / 8 : Nat) : Int)) = false := by rw [beq_eq_false_iff_ne]; omega
  generalize (n + 7) / 8 = q at *
  clear h4 hm
  go_enter Try.func8, Try.ntmps8
  go_wp2_with fail
  refine HB.out.mono ?_
  rintro e w1 ⟨bm, gs, gd, rfl, -, -, hb⟩
  have HB1 := Lib.hid hb
  clear hb
  go_wp2_with fail
  refine (HO.out _).mono ?_
  rintro e w2 ⟨rfl, rfl⟩
  have hne2 : ¬ (m : Int) = (q : Int) := by rw [beq_eq_false_iff_ne] at hne; exact hne
  go_wp2
  go_ret2
  exact ⟨rfl, HB1.out⟩
end Go.Proofs.Ytbacfbdeeogkgaa
