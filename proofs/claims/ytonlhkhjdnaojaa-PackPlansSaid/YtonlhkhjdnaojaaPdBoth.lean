/-
  The program's Plan and the document's, side by side.
-/
import Derived.Test.YtonlhkhjdnaojaaPdPieces
import Derived.Test.YtonlhkhjdnaojaaPdBad
import Derived.Test.YtonlhkhjdnaojaaPdBump
import Derived.Test.YtonlhkhjdnaojaaOwnAny
namespace Go.Proofs.Ytonlhkhjdnaojaa
open Go.RowKit

theorem FisN.later {w w' : World} {a : Option Addr} {l : List Fi} (h : FisN w a l) (hF : Fis w a l) (hb : Below w.heap.size w w') : FisN w' a l := fun b o i n c hi ha hc => by
  obtain ⟨b', o', c', cp', ha', -, -, q3, -⟩ := hF.at hi
  rw [ha] at ha'
  cases ha'
  have := cell_later hb q3
  rw [hc] at this
  cases this
  exact h b o i _ _ hi ha q3
def PlC (fs : List Fi) (is : List Int) (left size : Int) (r : Option Pl) (code : Int) : Prop :=
  ∀ (w : World) (fa : Option Addr) (fn fc : Nat) (ia : Option Addr) (inn ic : Nat), Fis w fa fs → fn = fs.length → fn ≤ 300 → (∀ x ∈ fs, x.lb.length ≤ 300) → Ints w ia is → inn = is.length → inn ≤ 300 →
    Calls Try.prog 11 #[.slice fa fn fc, .slice ia inn ic, .int .i64 left, .int .i64 size] w fun e w' => ∃ pv fv av, e = .returned (.tuple #[pv, .int .i64 code]) ∧ Pm w' w.heap.size pv fv av (inoOf fs) (verOf fs) (resN r) (resW r) (fun i => (bs (resT r i)).z) ∧ Below w.heap.size w w'
def RlC (fs : List Fi) (is : List Int) (left size : Int) (r : Option Pl) (code : Int) : Prop :=
  ∀ (w : World) (fa : Option Addr) (fn fc : Nat) (ia : Option Addr) (inn ic : Nat), Fis w fa fs → fn = fs.length → fn ≤ 300 → blF fs ≤ 300 → Ints w ia is → inn = is.length → inn ≤ 300 →
    Calls Try.prog 12 #[.slice fa fn fc, .slice ia inn ic, .int .i64 left, .int .i64 size] w fun e w' => ∃ pv sv, e = .returned (.tuple #[pv, .int .i64 code]) ∧ Rm w' w.heap.size pv sv (resN r) (resW r) (resT r) ∧ Below w.heap.size w w'
theorem both_plans (fs : List Fi) (is : List Int) (left size : Int) : ∃ r code, (∀ s, r = some s → PlK fs is left size s) ∧ PlC fs is left size r code ∧ RlC fs is left size r code := by
  by_cases hb : badP left size
  · refine ⟨none, 22, (fun s h => by cases h), (fun w fa fn fc ia inn ic _ _ _ _ _ _ _ => ?_), (fun w fa fn fc ia inn ic _ _ _ _ _ _ _ => ?_)⟩
    · exact (plan_bad fa fn fc ia inn ic left size hb).mono fun e w' ⟨he, hw⟩ => ⟨_, _, _, he, pm_nil _ _ _ _ _ _, hw ▸ Below.refl _ _⟩
    · exact (rplan_bad fa fn fc ia inn ic left size hb).mono fun e w' ⟨he, hw⟩ => ⟨_, _, he, rm_nil _ _ _ _, hw ▸ Below.refl _ _⟩
  · refine ⟨runP size (p0 left) (items fs is), resC (runP size (p0 left) (items fs is)), (fun s h => plK hb h), (fun w fa fn fc ia inn ic h1 h2 h3 h4 h5 h6 h7 => ?_), (fun w fa fn fc ia inn ic h1 h2 h3 h4 h5 h6 h7 => ?_)⟩
    · refine (plan_any fa fn fc ia inn ic left size hb h1 h2 (by omega) (fun x hx => Nat.le_trans (h4 x hx) (by decide)) h5 h6 (by omega)).mono fun e w' ⟨hm, hw⟩ => ?_
      cases hr : runP size (p0 left) (items fs is) with
      | none => rw [hr] at hm; exact ⟨_, _, _, hm, pm_nil _ _ _ _ _ _, hw⟩
      | some s =>
        rw [hr] at hm
        obtain ⟨pv, fv, av, he, hp⟩ := hm
        exact ⟨pv, fv, av, he, hp, hw⟩
    · refine (rplan_any fa fn fc ia inn ic left size hb h1 h5 h2 h6 h3 h7 h4).mono fun e w' ⟨hm, hw⟩ => ?_
      cases hr : runP size (p0 left) (items fs is) with
      | none => rw [hr] at hm; exact ⟨_, _, hm, rm_nil _ _ _ _, hw⟩
      | some s =>
        rw [hr] at hm
        obtain ⟨pv, sv, he, hp⟩ := hm
        exact ⟨pv, sv, he, hp, hw⟩
end Go.Proofs.Ytonlhkhjdnaojaa
