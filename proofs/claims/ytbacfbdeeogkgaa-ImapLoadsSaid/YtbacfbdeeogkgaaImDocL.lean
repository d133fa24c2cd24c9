/-
  The document's inode map loaded from blocks.
-/
import Derived.Test.YtbacfbdeeogkgaaImDocB
namespace Go.Proofs.Ytbacfbdeeogkgaa
open Go.RowKit Go.Maps

theorem ldA_z (L : List (List Nat)) (n : Nat) (h : pA L 0 = 0) : upd (ldA L n 0) 0 (pA L 0) = ldA L n (0 + 1) := by
  funext p
  by_cases e : p = 0
  · subst e; rw [upd_at]; unfold ldA; rw [if_neg (by omega)]; exact h
  · rw [upd_ne _ _ _ e]; unfold ldA
    rw [if_neg (by omega), if_neg (by omega)]
theorem ldV_z (L : List (List Nat)) (n : Nat) (h : pV L 0 = 0) : upd (ldV L n 0) 0 (pV L 0) = ldV L n (0 + 1) := by
  funext p
  by_cases e : p = 0
  · subst e; rw [upd_at]; unfold ldV; rw [if_neg (by omega)]; exact h
  · rw [upd_ne _ _ _ e]; unfold ldV
    rw [if_neg (by omega), if_neg (by omega)]
theorem ldB_z (L : List (List Nat)) (n : Nat) (h : pA L 0 = 0) : upd (ldB L n 0) 0 (pA L 0 != 0) = ldB L n (0 + 1) := by
  funext p
  have ha := congrFun (ldA_z L n h) p
  unfold ldB
  rw [← ha]
  by_cases e : p = 0
  · subst e; rw [upd_at, upd_at]
  · rw [upd_ne _ _ _ e, upd_ne _ _ _ e]
theorem upd_self {α : Type} (i : Nat) (x : α) : upd (fun _ => x) i x = fun _ => x := by
  funext j
  by_cases e : j = i
  · subst e; rw [upd_at]
  · rw [upd_ne _ _ _ e]
structure RkS (w : World) (g g6 n : Nat) (L : List (List Nat)) (m : Nat) (W : World) : Prop where
  rm : Rm W g n (ldA L n m) (ldV L n m) (ldB L n m) (fun _ => false)
  rc : Blo W w.heap.size RMP #[.slice none 0 0]
  bx : Blo W g6 RMP #[.slice (some ⟨g, 0, none⟩) n n]
  b : Below w.heap.size w W
  ok : ∀ p, p < m → okQ L n p
theorem RkS.later {w W W' : World} {g g6 n m : Nat} {L : List (List Nat)} (h : RkS w g g6 n L m W) (hb : Below W.heap.size W W') : RkS w g g6 n L m W' :=
  ⟨h.rm.later hb, h.rc.later hb, h.bx.later hb, h.b.trans (hb.mono h.b.size), h.ok⟩
def RkR (w : World) (g g6 n : Nat) (L : List (List Nat)) (t : Value) (W : World) : Prop := ∃ k : Nat, k ≤ L.length ∧ t = .int .i64 k ∧ RkS w g g6 n L (8 * k) W
def RiR (w : World) (g g6 n : Nat) (L : List (List Nat)) (k g9 : Nat) (CM : Array Value) (t : Value) (W : World) : Prop := ∃ i : Nat, i ≤ 8 ∧ t = .int .i64 i ∧ Blo W g9 R8T CM ∧ RkS w g g6 n L (8 * k + i) W
def RLoadO (w : World) (n : Nat) (L : List (List Nat)) (e : Ending) (w' : World) : Prop :=
  (((∀ p, p < 8 * L.length → okQ L n p) ∧ ∃ g, e = .returned (.tuple #[rmv g n, .int .i64 0]) ∧ w.heap.size ≤ g ∧ Rm w' g n (ldA L n (8 * L.length)) (ldV L n (8 * L.length)) (ldB L n (8 * L.length)) (fun _ => false)) ∨
    (¬ (∀ p, p < 8 * L.length → okQ L n p) ∧ e = .returned (.tuple #[.agg #[.slice none 0 0], .int .i64 100]))) ∧ Below w.heap.size w w'
theorem goodZ (n : Nat) : ∀ i, i < n → GoodM ((fun _ : Nat => (0 : Int)) i) ((fun _ : Nat => (0 : Int)) i) := fun _ _ => (by unfold GoodM; decide : GoodM 0 0)
set_option maxRecDepth 100000 in
set_option maxHeartbeats 2000000 in
theorem rload_bad (n : Int) (a : Option Addr) (m cap : Nat) (w : World) (h : n < 4 ∨ 200 < n) :
    Calls Try.prog 9 #[.int .i64 n, .slice a m cap] w fun e w' => e = .returned (.tuple #[.agg #[.slice none 0 0], .int .i64 22]) ∧ Below w.heap.size w w' := by
  have HB := Lib.hid (fun W => rnew_bad n W h)
  have HB0 := Lib.hid (sup_im w (.cells #[.slice none 0 0] RMP))
  have HC0 := Lib.hid (blo_laid w RMP #[.slice none 0 0])
  clear h
  go_enter Try.func9, Try.ntmps9
  go_wp2_with fail
  refine (HB.out _).mono ?_
  rintro e w1 ⟨rfl, hb⟩
  have HB1 := Lib.hid ((HB0.out.trans (hb.mono HB0.out.size)).trans ((sup_im w1 (.cells #[.slice none 0 0] RMP)).mono (Nat.le_trans HB0.out.size hb.size)))
  have HC2 := Lib.hid ((HC0.out.later hb).later (sup_im w1 (.cells #[.slice none 0 0] RMP)))
  clear hb
  have r0 : World.cell? _ ⟨w.heap.size, 0, none⟩ = some (.slice none 0 0) := (HC2.out.cell 0).trans rfl
  have fr := HC2.out.frozen 0
  have r3 : World.cell? _ ⟨w.heap.size, 0, none⟩ = some (.slice none 0 0) := ((HC2.out.put 0 (.slice none 0 0)).cell 0).trans rfl
  go_wp2_with fail
  refine bodyPost_ret (v := .tuple #[.agg #[.slice none 0 0], .int .i64 22]) (by simp [results, Try.results9, go_sem, r3]) rfl ⟨rfl, ?_⟩
  exact HB1.out.setCell (p := ⟨w.heap.size, 0, none⟩) (Nat.le_refl _) _
end Go.Proofs.Ytbacfbdeeogkgaa
