/-
  Pack: Plan's answer as what is read.
-/
import Derived.Test.YtonlhkhjdnaojaaPcSame
namespace Go.Proofs.Ytonlhkhjdnaojaa
open Go.RowKit

/-- A slice of pieces that is read. -/
def Pcs (w : World) (a : Option Addr) (N : Nat) (nw : Nat → Bool) (F : Nat → List Fi) (J : Nat → List Int) : Prop := ∀ i, i < N → ∃ b o fa fc ia ic, a = some ⟨b, o, none⟩ ∧ w.cell? ⟨b, o + i * 3, none⟩ = some (.bool (nw i)) ∧
  w.cell? ⟨b, o + i * 3 + 1, none⟩ = some (.slice fa (F i).length fc) ∧ w.cell? ⟨b, o + i * 3 + 2, none⟩ = some (.slice ia (J i).length ic) ∧ Fis w fa (F i) ∧ Ints w ia (J i) ∧ (J i = [] → True) ∧ (ia = none → (J i).length = 0 ∧ ic = 0)
theorem Pcs.later {w w' : World} {a : Option Addr} {N : Nat} {nw : Nat → Bool} {F : Nat → List Fi} {J : Nat → List Int} (h : Pcs w a N nw F J) (hb : Below w.heap.size w w') : Pcs w' a N nw F J := fun i hi => by
  obtain ⟨b, o, fa, fc, ia, ic, h1, h2, h3, h4, h5, h6, h7, h8⟩ := h i hi
  exact ⟨b, o, fa, fc, ia, ic, h1, cell_later hb h2, cell_later hb h3, cell_later hb h4, h5.later hb, h6.below hb, h7, h8⟩
theorem own_none {w : World} {base : Nat} {e : TypeId} {size n c : Nat} {a : Option Addr} {xs : List Value} (h : w.ownsRow base e size (.slice a n c) n xs) : a = none → n = 0 ∧ c = 0 := fun e => by
  subst e
  rcases h.2 with ⟨h1, h2⟩ | ⟨g, cap, cur, h1, _⟩
  · cases h1; exact ⟨h2, rfl⟩
  · cases h1
theorem Pm.pcs {w : World} {base N : Nat} {pv : Value} {fv : Nat → Value} {av : Nat → Nat → Value} {I V : Nat → Int} {nw : Nat → Bool} {Z : Nat → Pz} (h : Pm w base pv fv av I V N nw Z) :
    ∃ a c, pv = .slice a N c ∧ (a = none → N = 0 ∧ c = 0) ∧ Pcs w a N nw (fun i => fsZ I V (Z i)) (fun i => (Z i).li 0) := by
  obtain ⟨a, c, e, _⟩ := own_slice h.row
  refine ⟨a, c, e, own_none (e ▸ h.row), fun i hi => ?_⟩
  obtain ⟨g, cap, e2, -, -, -, q1, q2, q3⟩ := h.piece hi
  rw [e] at e2
  cases e2
  obtain ⟨fa, fc, ia, ic, e3, e4, h3, h4⟩ := h.reads hi
  have hno := own_none (e4 ▸ h.ints i hi 0 (Nat.zero_le _))
  refine ⟨g, 0, fa, fc, ia, ic, rfl, by rw [Nat.zero_add]; exact q1, ?_, ?_, h3, h4, fun _ => trivial, hno⟩
  · rw [Nat.zero_add, q2, e3]
    show some (Value.slice fa (Z i).nf fc) = some (.slice fa (fsZ I V (Z i)).length fc)
    rw [fsZ_len]
  · rw [Nat.zero_add, q3, e4]
def resN : Option Pl → Nat
  | none => 0
  | some s => s.N
def resC : Option Pl → Int
  | none => 27
  | some _ => 0
def resW : Option Pl → Nat → Bool
  | none => fun _ => false
  | some s => s.nw
def resT : Option Pl → Nat → List It
  | none => fun _ => []
  | some s => s.it
abbrev resF (fs : List Fi) (r : Option Pl) (i : Nat) : List Fi := fsZ (inoOf fs) (verOf fs) (bs (resT r i)).z
abbrev resJ (r : Option Pl) (i : Nat) : List Int := (bs (resT r i)).z.li 0
def PlanR (w : World) (fs : List Fi) (r : Option Pl) (e : Ending) (w' : World) : Prop :=
  ∃ a c, e = .returned (.tuple #[.slice a (resN r) c, .int .i64 (resC r)]) ∧ (a = none → resN r = 0 ∧ c = 0) ∧ Pcs w' a (resN r) (resW r) (resF fs r) (resJ r) ∧ Below w.heap.size w w'
section
variable {w : World} {fs : List Fi} {is : List Int} (fa : Option Addr) (fn fc : Nat) (ia : Option Addr) (inn ic : Nat) (left size : Int)
theorem plan_res (h : ¬ badP left size) (hF : Fis w fa fs) (hn : fn = fs.length) (hfn : fn ≤ 1000000) (hfl : ∀ x ∈ fs, x.lb.length ≤ 1000000) (hI : Ints w ia is) (hin : inn = is.length) (hi9 : inn ≤ 1000000) :
    Calls Try.prog 11 #[.slice fa fn fc, .slice ia inn ic, .int .i64 left, .int .i64 size] w (PlanR w fs (runP size (p0 left) (items fs is))) := by
  refine (plan_any fa fn fc ia inn ic left size h hF hn hfn hfl hI hin hi9).mono fun e w' ⟨hm, hb⟩ => ?_
  cases hr : runP size (p0 left) (items fs is) with
  | none =>
    rw [hr] at hm
    exact ⟨none, 0, hm, fun _ => ⟨rfl, rfl⟩, fun i hi => absurd hi (Nat.not_lt_zero _), hb⟩
  | some s =>
    rw [hr] at hm
    obtain ⟨pv, fv, av, rfl, hp⟩ := hm
    obtain ⟨a, c, rfl, hno, hq⟩ := hp.pcs
    exact ⟨a, c, rfl, hno, hq, hb⟩
end
/-! What holds of each piece. -/
theorem runP_all {sz : Int} (Q : List It → Prop) : ∀ (L : List It) {s s' : Pl}, runP sz s L = some s' → (∀ x ∈ L, Q [x]) → (∀ l x left, x ∈ L → Q l → fitsB (bs l) x left = true → left ≤ sz → Q (l ++ [x])) → PlOk sz s → (∀ i, i < s.N → Q (s.it i)) → ∀ i, i < s'.N → Q (s'.it i)
  | [], s, s', e, _, _, _, h => by cases e; exact h
  | x :: L, s, s', e, h1, h2, hO, h => by
    rw [runP] at e
    split at e
    · next hn =>
      refine runP_all Q L e (fun y hy => h1 y (List.mem_cons_of_mem _ hy)) (fun l y left hy => h2 l y left (List.mem_cons_of_mem _ hy)) (pstep_ok hO x hn) (fun i hi => ?_)
      unfold pstep at hi ⊢
      split
      · next hf =>
        unfold fitsP at hf
        simp only [Bool.and_eq_true, decide_eq_true_eq] at hf
        rw [if_pos (by unfold fitsP; simp [hf])] at hi
        show Q (upd s.it (s.N - 1) (s.it (s.N - 1) ++ [x]) i)
        by_cases e : i = s.N - 1
        · subst e; rw [upd_at]; exact h2 _ x s.left List.mem_cons_self (h _ hi) hf.2 hO.lf2
        · rw [upd_ne _ _ _ e]; exact h i hi
      · next hf =>
        rw [if_neg hf] at hi
        show Q (upd s.it s.N [x] i)
        by_cases e : i = s.N
        · subst e; rw [upd_at]; exact h1 x List.mem_cons_self
        · rw [upd_ne _ _ _ e]
          have : i < s.N + 1 := hi
          exact h i (by omega)
    · cases e
theorem runP_nw {sz : Int} : ∀ (L : List It) {s s' : Pl}, runP sz s L = some s' → ∀ i, i < s.N → i < s'.N ∧ s'.nw i = s.nw i
  | [], s, s', e, i, hi => by cases e; exact ⟨hi, rfl⟩
  | x :: L, s, s', e, i, hi => by
    rw [runP] at e
    split at e
    · have hs : i < (pstep sz s x).N ∧ (pstep sz s x).nw i = s.nw i := by
        unfold pstep
        split
        · exact ⟨hi, rfl⟩
        · exact ⟨Nat.lt_succ_of_lt hi, upd_ne _ _ _ (by omega)⟩
      obtain ⟨h1, h2⟩ := runP_nw L e i hs.1
      exact ⟨h1, h2.trans hs.2⟩
    · cases e
theorem fits_wd {l : List It} {x : It} {left : Int} (h : fitsB (bs l) x left = true) : (bs (l ++ [x])).wd ≤ 88 := by
  unfold fitsB at h
  simp only [Bool.and_eq_true] at h
  have hw := h.2
  rw [bs_snoc]
  unfold bstep
  split
  · next hx => rw [if_pos hx] at hw; simpa using hw
  · next hx =>
    rw [if_neg hx] at hw
    split
    · next hl => rw [if_pos hl] at hw; simp only [Bool.and_eq_true, decide_eq_true_eq] at hw; exact hw.2
    · next hl => rw [if_neg hl] at hw; simpa using hw
theorem run_wd {left sz : Int} (h : ¬ badP left sz) {L : List It} {s : Pl} (hr : runP sz (p0 left) L = some s) : ∀ i, i < s.N → (bs (s.it i)).wd ≤ 88 :=
  runP_all (fun l => (bs l).wd ≤ 88) L hr (fun x _ => Nat.le_trans (one_wd x) (by decide)) (fun l x left _ _ hf _ => fits_wd hf) (p0_ok left sz h) (fun i hi => absurd hi (Nat.not_lt_zero i))
theorem res_few {left sz : Int} (h : ¬ badP left sz) {L : List It} (fs : List Fi) (i : Nat) (hi : i < resN (runP sz (p0 left) L)) :
    (resF fs (runP sz (p0 left) L) i).length ≤ 78 ∧ (∀ x ∈ resF fs (runP sz (p0 left) L) i, x.lb.length ≤ 78) ∧ (resJ (runP sz (p0 left) L) i).length ≤ 78 ∧ resN (runP sz (p0 left) L) ≤ 64 := by
  cases hr : runP sz (p0 left) L with
  | none => rw [hr] at hi; exact absurd hi (Nat.not_lt_zero _)
  | some s =>
    rw [hr] at hi
    have h1 := run_wd h hr i hi
    have h2 := bs_ok (s.it i)
    have h3 := h2.wd
    have h4 := h2.nf
    refine ⟨by rw [fsZ_len]; show (bs (s.it i)).z.nf ≤ 78; omega, fun x hx => ?_, ?_, (runP_ok _ (p0_ok left sz h) hr).n⟩
    · unfold resF fsZ at hx
      obtain ⟨k, _, rfl⟩ := List.mem_map.1 hx
      have := h2.li (k + 1)
      show ((bs (s.it i)).z.li (k + 1)).length ≤ 78
      omega
    · have := h2.li 0
      show ((bs (s.it i)).z.li 0).length ≤ 78
      omega
theorem resN_le {left sz : Int} (h : ¬ badP left sz) (L : List It) : resN (runP sz (p0 left) L) ≤ 64 := by
  cases hr : runP sz (p0 left) L with
  | none => exact Nat.zero_le _
  | some s => exact (runP_ok _ (p0_ok left sz h) hr).n
end Go.Proofs.Ytonlhkhjdnaojaa
