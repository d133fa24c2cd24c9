/-
  The walk of PickTurned.
-/
import Derived.Test.YtblpfgjjiihjoaaPkUntil
import Derived.Deep.RegionLaw
import Derived.Deep.DeepCutAuto
namespace Go.Proofs.Ytblpfgjjiihjoaa
open Go.RowKit

theorem trod_cap {H : Type} {enc : TypeId × Value → H} {P : Program} {w : World} {base : Nat} {spare : Nat → Bool} {held : Bool} {t e : TypeId} {fuel : Nat} {cs : List Value} {x : DataW H × List MemPlace}
    (ht : P.underlying t = some (.slice e)) (h : DataW.trod enc P w base spare held fuel t cs = some x) : ∃ a len cap, cs = [.slice a len cap] ∧ ((a = none → len = 0 ∧ cap = 0) ∧ len ≤ cap) := by
  rcases Go.Deep.open_slice ht h with ⟨rfl, _⟩ | ⟨a, len, cap, m, n, D, Pl, rfl, _, hl, _⟩
  · exact ⟨none, 0, 0, rfl, fun _ => ⟨rfl, rfl⟩, Nat.le_refl _⟩
  · exact ⟨some a, len, cap, rfl, (fun h => by cases h), hl⟩
section
variable {w w' : World} {a : Option Addr} {l : List Cd} {n cap : Nat}
theorem sort_uniq : ∀ {L M : List Cd}, L.Pairwise (fun a b => betB a b = true) → M.Pairwise (fun a b => betB a b = true) → (∀ c, c ∈ L ↔ c ∈ M) → L = M := by
  intro L
  induction L with
  | nil =>
    intro M _ _ hm
    cases M with
    | nil => rfl
    | cons b M => exact absurd ((hm b).2 (List.mem_cons_self ..)) (by simp)
  | cons a L ih =>
    intro M hL hM hm
    cases M with
    | nil => exact absurd ((hm a).1 (List.mem_cons_self ..)) (by simp)
    | cons b M =>
      obtain ⟨a1, a2⟩ := List.pairwise_cons.1 hL
      obtain ⟨b1, b2⟩ := List.pairwise_cons.1 hM
      have hab : a = b := by
        rcases List.mem_cons.1 ((hm a).1 (List.mem_cons_self ..)) with e | e
        · exact e
        · rcases List.mem_cons.1 ((hm b).2 (List.mem_cons_self ..)) with f | f
          · exact f.symm
          · have := bet_asym _ _ (b1 a e)
            rw [a1 b f] at this
            cases this
      subst hab
      rw [ih a2 b2 (fun c => ?_)]
      constructor
      · intro hc
        rcases List.mem_cons.1 ((hm c).1 (List.mem_cons_of_mem _ hc)) with e | e
        · subst e
          have := a1 c hc
          rw [bet_self] at this; cases this
        · exact e
      · intro hc
        rcases List.mem_cons.1 ((hm c).2 (List.mem_cons_of_mem _ hc)) with e | e
        · subst e
          have := b1 c hc
          rw [bet_self] at this; cases this
        · exact e
theorem bet_total {c d : Cd} (h : c.seg ≠ d.seg) (h2 : betB d c = false) : betB c d = true := by
  unfold betB at *
  by_cases h1 : prodC d c = prodC c d
  · rw [if_pos h1] at h2
    rw [if_pos h1.symm]
    by_cases h3 : d.live = c.live
    · rw [if_pos h3] at h2
      rw [if_pos h3.symm]
      simp at h2 ⊢; omega
    · rw [if_neg h3] at h2
      rw [if_neg (fun e => h3 e.symm)]
      simp at h2 ⊢; omega
  · rw [if_neg h1] at h2
    rw [if_neg (fun e => h1 e.symm)]
    simp at h2 ⊢; omega
def DistS (l : List Cd) : Prop := l.Pairwise fun a b => a.seg ≠ b.seg
theorem ordC_strict (hg : GoodL l) (hd : DistS l) : (ordC l).Pairwise (fun a b => betB a b = true) := by
  have h1 : ordC l = (ordR (rks l)).map Rk.c := by rw [ordR_map, rks_map]
  rw [h1, List.pairwise_map]
  have hs := ordR_sort l hg
  refine (List.Pairwise.and_mem.1 hs).imp ?_
  rintro x y ⟨hx, hy, h2, h3⟩
  rw [ordR_mem, rks_mem] at hx hy
  obtain ⟨i, hi, rfl⟩ := hx
  obtain ⟨j, hj, rfl⟩ := hy
  have hij : i ≠ j := fun e => h3 (by rw [e])
  have e1 : l.getD i c0 = l[i] := by rw [List.getD_eq_getElem?_getD, List.getElem?_eq_getElem hi]; rfl
  have e2 : l.getD j c0 = l[j] := by rw [List.getD_eq_getElem?_getD, List.getElem?_eq_getElem hj]; rfl
  have hne : (l.getD i c0).seg ≠ (l.getD j c0).seg := by
    rw [e1, e2]
    rcases Nat.lt_or_gt_of_ne hij with q | q
    · exact (List.pairwise_iff_getElem.1 hd) i j hi hj q
    · exact ((List.pairwise_iff_getElem.1 hd) j i hj hi q).symm
  exact bet_total hne ((less_not _ _).1 h2).1
def turnL (l : List Cd) (m : Nat) : List Cd := l.drop m ++ l.take m
theorem turn_mem (l : List Cd) (m : Nat) (c : Cd) : c ∈ turnL l m ↔ c ∈ l := by
  unfold turnL
  rw [List.mem_append]
  have : c ∈ l ↔ c ∈ l.take m ∨ c ∈ l.drop m := by rw [← List.mem_append, List.take_append_drop]
  rw [this]
  exact Or.comm
theorem turn_length (l : List Cd) (m : Nat) : (turnL l m).length = l.length := by
  unfold turnL; simp; omega
theorem turn_dist (hd : DistS l) (m : Nat) : DistS (turnL l m) := by
  have h1 : DistS (l.take m ++ l.drop m) := by rw [List.take_append_drop]; exact hd
  obtain ⟨a, b, c⟩ := List.pairwise_append.1 h1
  exact List.pairwise_append.2 ⟨b, a, fun x hx y hy => (c y hy x hx).symm⟩
theorem turn_good (m : Nat) : GoodL (turnL l m) ↔ GoodL l := ⟨fun h c hc => h c ((turn_mem l m c).2 hc), fun h c hc => h c ((turn_mem l m c).1 hc)⟩
theorem turn_ok (m : Nat) : OkL (turnL l m) ↔ OkL l := by
  unfold OkL; rw [turn_length, turn_good]
theorem turn_ord (hd : DistS l) (hg : GoodL l) (m : Nat) : ordC (turnL l m) = ordC l :=
  sort_uniq (ordC_strict ((turn_good m).2 hg) (turn_dist hd m)) (ordC_strict hg hd) (fun c => by rw [ordC_mem, ordC_mem, turn_mem])
theorem BestIs.turn {k : Int} {L : List Cd} {z : Int} {m : Nat} (h : BestIs (turnL l m) k L z) (hd : DistS l) : BestIs l k L z := by
  rcases h with ⟨q, h1, h2⟩ | ⟨q1, q2, q3, q4⟩
  · exact .inl ⟨by rw [turn_ok] at q; exact q, h1, h2⟩
  · rw [turn_ok] at q1
    rw [turn_ord hd q1.2] at q3
    exact .inr ⟨q1, q2, q3, q4⟩
theorem UntilIs.turn {r : Int} {L : List Cd} {z : Int} {m : Nat} (h : UntilIs (turnL l m) r L z) (hd : DistS l) : UntilIs l r L z := by
  rcases h with ⟨q, h1, h2⟩ | ⟨q1, q2, q3, q4⟩
  · exact .inl ⟨by rw [turn_ok] at q; exact q, h1, h2⟩
  · rw [turn_ok] at q1
    rw [turn_ord hd q1.2, turn_length] at q3
    exact .inr ⟨q1, q2, q3, q4⟩
theorem size_cd (W : World) : (sizeOf CD).run Try.prog W = .ok 4 W := by kernel_rfl
theorem cutP_from {x : Option Addr} {k cp p : Nat} {L : List Cd} (hL : L.length = k) (hk : k ≤ cp) (hp : p ≤ k) (hmx : k ≤ 1000000) (hC : Cds w x L) (hn : x = none → cp = 0) :
    ∃ y, (∀ W : World, (Instr.slice SC (.slice x k cp) (some (.int .i64 p)) none none).run Try.prog W = .ok (.slice y (k - p) (cp - p)) W) ∧ Cds w y (L.drop p) ∧ (y = none → L.drop p = [] ∧ cp - p = 0) := by
  have ht' : Try.prog.underlying SC = some (.slice (Try.prog.elem SC)) := by simp [Program.elem, Try.underlying22]
  have he : Try.prog.elem SC = CD := by simp [Program.elem, Try.underlying22]
  refine ⟨if cp = p then x else x.map (·.add (p * 4)), fun W => ?_, ?_, fun h => ?_⟩
  · rw [run_slice_l W SC _ _ _ ht' .i64 _ (by omega) (by omega), he, size_cd]
    simp [Result.andThen, sliced]
  · by_cases e : cp = p
    · have : L.drop p = [] := List.drop_eq_nil_of_le (by omega)
      rw [this]; exact Cds.nil _ _
    · rw [if_neg e]
      cases x with
      | none =>
        have : L.drop p = [] := List.drop_eq_nil_of_le (by have := hn rfl; omega)
        rw [this]; exact Cds.nil _ _
      | some y => exact hC.drop p
  · by_cases e : cp = p
    · exact ⟨List.drop_eq_nil_of_le (by omega), by omega⟩
    · rw [if_neg e] at h
      cases x with
      | none => exact absurd (hn rfl) (by omega)
      | some y => cases h
theorem cutP_upto {x : Option Addr} {k cp p : Nat} (hk : k ≤ cp) (hp : p ≤ k) (hmx : k ≤ 1000000) (hlit : ∀ y, x = some y → ∃ b o, y = ⟨b, o, none⟩) (W : World) :
    (Instr.slice SC (.slice x k cp) none (some (.int .i64 p)) none).run Try.prog W = .ok (.slice x p cp) W := by
  have ht' : Try.prog.underlying SC = some (.slice (Try.prog.elem SC)) := by simp [Program.elem, Try.underlying22]
  have he : Try.prog.elem SC = CD := by simp [Program.elem, Try.underlying22]
  rw [run_slice_h W SC _ _ _ ht' .i64 _ (by omega) (by omega), he, size_cd]
  cases x with
  | none => simp [Result.andThen, sliced]
  | some y =>
    obtain ⟨b, o, rfl⟩ := hlit y rfl
    simp [Result.andThen, sliced, Addr.add_lit]
theorem step_append_cds {P : Program} {ops : Array Oper} {o : Oper} {act : Act} {K : Act → World → Prop} {Q : Exit → Act → World → Prop} {E : Prop} (hgd : o.guard = none) (s x : Operand) (t : TypeId)
    (ho : o.op = .call { callee := .builtin .append, args := #[s, x], argTypes := #[t, t] })
    (base : Nat) (e : TypeId) (ht : P.underlying t = some (.slice e)) (hi : (P.info? e).map (fun i => (i.zero, i.size, i.bytes)) = some (some (.agg #[.int .i64 0, .int .i64 0, .int .i64 0, .int .i64 0]), 4, 32))
    (v : Value) (n : Nat) (xs : List Cd) (hs : act.eval s = v) (hown : w.ownsRow base e 4 v n (cellsI (flatC xs)))
    (ao : Option Addr) (m c : Nat) (ys : List Cd) (hx : act.eval x = .slice ao m c) (hm : m = ys.length) (hy : Cds w ao ys) (hnone : ao = none → ys = [] ∧ c = 0)
    (hroom : n + m ≤ 1000000) (hbase : base ≤ w.heap.size)
    (h : ∀ a' cap' w', w'.ownsRow base e 4 (.slice a' (n + m) cap') (n + m) (cellsI (flatC (xs ++ ys))) → w.grownBy w' v.ownBlock → K (act.put o.dst (.slice a' (n + m) cap')) w') : if Region.wanted o (yielded ops act.tmps) = true then Oper.wp P o act w K Q else E := by
  have hw : Region.wanted o (yielded ops act.tmps) = true := by simp [Region.wanted, hgd]
  rw [if_pos hw]
  obtain ⟨i, hi0, hz, hs1, hb1⟩ := info_parts hi
  have fin : ∀ v' w', w'.ownsRow base e 4 v' (n + m) (cellsI (flatC (xs ++ ys))) → w.grownBy w' v.ownBlock → K (act.put o.dst v') w' := by
    intro v' w' h1 h2
    obtain ⟨a', cap', rfl, _⟩ := own_slice h1
    exact h a' cap' w' h1 h2
  cases ao with
  | none =>
    obtain ⟨rfl, rfl⟩ := hnone rfl
    have hm0 : m = 0 := hm
    subst hm0
    have hrun := run_append_owned_none (P := P) (w := w) base t o.type e i 4 ht hi0 v n (cellsI (flatC xs)) hown
    unfold Oper.wp
    simp [execOp, ho, resolve, invoke, builtin, hs, hx, hrun, Result.andThen]
    exact fin v w (by simpa using hown) ⟨rfl, rfl, rfl, Nat.le_refl _, fun _ _ _ => rfl⟩
  | some ad =>
    refine wp_append_own w s x t ho base e i _ 4 32 ht hi0 hz hs1 hb1 rfl (by decide) v n (cellsI (flatC xs)) hs hown ad m c (cellsI (flatC ys)) hx (by rw [cellsI_length, flatC_length, hm]) hy.flat ?_ (by unfold maxLen; omega) (by omega) hbase ?_
    · intro u hu
      simp only [cellsI, List.mem_map] at hu
      obtain ⟨_, _, rfl⟩ := hu
      rfl
    · intro v' w' h1 h2 _
      rw [cellsI_append, flatC_append] at h1
      exact fin v' w' h1 h2
theorem turn_num (x : Int) (hn : 1 ≤ n) (h1 : n ≤ 100) : ∃ m : Nat, m < n ∧ wrap64 ((IntKind.u64.wrap x).tmod (n : Int)) = (m : Int) := by
  have h0 : 0 ≤ IntKind.u64.wrap x := by
    simp [IntKind.wrap, IntKind.signed, IntKind.bits]
    omega
  rw [Int.tmod_eq_emod_of_nonneg h0]
  have a1 := Int.emod_nonneg (IntKind.u64.wrap x) (show (n : Int) ≠ 0 by omega)
  have a2 := Int.emod_lt_of_pos (IntKind.u64.wrap x) (show (0 : Int) < (n : Int) by omega)
  refine ⟨(IntKind.u64.wrap x % (n : Int)).toNat, by omega, ?_⟩
  rw [IntWalk.wrap64_in _ (by omega)]
  omega
def Tn1 (w : World) (a : Option Addr) (l : List Cd) (n : Nat) (i : Value) (wr : World) : Prop :=
  ∃ p : Nat, p ≤ n ∧ i = .int .i64 p ∧ DistS (l.take p) ∧ CkR w a l wr
def Tn2 (w : World) (a : Option Addr) (l : List Cd) (p : Nat) (i : Value) (wr : World) : Prop :=
  ∃ q : Nat, q ≤ p ∧ i = .int .i64 q ∧ (∀ j, j < q → (l.getD p c0).seg ≠ (l.getD j c0).seg) ∧ CkR w a l wr
theorem dist_snoc {p : Nat} (hp : p < l.length) (h : DistS (l.take p)) (h2 : ∀ j, j < p → (l.getD p c0).seg ≠ (l.getD j c0).seg) : DistS (l.take (p + 1)) := by
  rw [take_snocC l p hp]
  refine List.pairwise_append.2 ⟨h, List.pairwise_singleton _ _, fun x hx y hy => ?_⟩
  have : y = l.getD p c0 := by simpa using hy
  subst this
  obtain ⟨j, hj, rfl⟩ := List.mem_iff_getElem.1 hx
  rw [List.length_take] at hj
  have := h2 j (by omega)
  rw [List.getElem_take]
  rw [List.getD_eq_getElem?_getD (i := j), List.getElem?_eq_getElem (by omega)] at this
  exact this.symm
set_option maxRecDepth 100000 in
set_option maxHeartbeats 4000000 in
theorem pickTurned_walk (a : Option Addr) (n cap : Nat) (z : List Int) (by_ k : Int) (W : World) (hq : Quads W a n z) (hnil : (a = none → n = 0 ∧ cap = 0) ∧ n ≤ cap) (hby : (Lit.int .i64 by_).wf = true) (hr : (Lit.int .i64 k).wf = true) :
    Calls Try.prog 8 #[.slice a n cap, .int .i64 by_, .int .i64 k] W fun e w' => e = .returned (.bool true) ∧ Below W.heap.size W w' := by
  obtain ⟨l, hC, hn, hf, hmx⟩ := quads_list hq
  have HC := Lib.hid hC
  have HN := Lib.hid hn
  have HF := Lib.hid hf
  have HNil := Lib.hid hnil.1
  have HCap := Lib.hid hnil.2
  have HBy := Lib.hid (wf_bounds hby)
  clear hq hC hn hf hr hnil hby
  go_enter Try.func8, Try.ntmps8
  go_wp2_with fail
  refine (awake_any _).mono ?_
  rintro e w1 ⟨rfl, hb1⟩
  have HB1 := Lib.hid hb1
  clear hb1
  by_cases h0 : n = 0
  · have t0 : ((n : Int) == 0) = true := by simp; omega
    have HN0 := Lib.hid h0
    clear h0
    go_wp2_with fail
    refine (awake_any _).mono ?_
    rintro e w2 ⟨rfl, hb2⟩
    have HB2 := Lib.hid (HB1.out.trans (hb2.mono HB1.out.size))
    clear hb2
    go_wp2
    go_ret
    exact ⟨rfl, HB2.out⟩
  · have t00 : ((n : Int) == 0) = false := by simp; omega
    have h1 : 1 ≤ n := by omega
    clear h0
    by_cases h600 : n ≤ 100
    · have t0 : ¬ (100 : Int) < (n : Int) := by omega
      have HS0 : Hid (CkR W a l w1) := ⟨HC.out.below HB1.out, HB1.out⟩
      obtain ⟨b, o, rfl, _⟩ := HC.out.at (i := 0) (by rw [← HN.out]; omega)
      go_wp2_with fail
      go_loopw [34] (fun i wr => Tn1 W (some ⟨b, o, none⟩) l n i wr) (fun i _ => n - (intOf i).toNat)
      case atStart => exact ⟨0, Nat.zero_le _, rfl, List.Pairwise.nil, HS0.out⟩
      case round =>
        clear HS0
        obtain ⟨p, hp, rfl, hd, hR⟩ := hrel
        have HR := Lib.hid hR
        have HD := Lib.hid hd
        clear hR hd
        by_cases hlt : p < n
        · have hcu := cutP_upto (x := some ⟨b, o, none⟩) (p := p) HCap.out hp (by omega) (fun y hy => by cases hy; exact ⟨b, o, rfl⟩)
          go_wp2_with fail
          go_loopw [41] (fun i wr => Tn2 W (some ⟨b, o, none⟩) l p i wr) (fun i _ => p - (intOf i).toNat)
          case atStart => exact ⟨0, Nat.zero_le _, rfl, fun j hj => by omega, HR.out⟩
          case round =>
            clear HR
            obtain ⟨q, hq, rfl, hne, hR⟩ := hrel
            have HR := Lib.hid hR
            have HNe := Lib.hid hne
            clear hR hne
            have hpl : p < l.length := by rw [← HN.out]; exact hlt
            by_cases hlt2 : q < p
            · obtain ⟨x1, _⟩ := HR.out.list.cells hpl
              obtain ⟨y1, _⟩ := HR.out.list.cells (i := q) (by omega)
              obtain ⟨s, hs⟩ : ∃ s, (l.getD p c0).seg = s := ⟨_, rfl⟩
              obtain ⟨u, hu⟩ : ∃ u, (l.getD q c0).seg = u := ⟨_, rfl⟩
              rw [hs] at x1
              rw [hu] at y1
              have HSU : Hid ((l.getD p c0).seg = s ∧ (l.getD q c0).seg = u) := ⟨hs, hu⟩
              have j1 : (0 : Int) ≤ (p : Int) := by omega
              have j2 : (p : Int) < (n : Int) := by omega
              have j3 : (0 : Int) ≤ (q : Int) := by omega
              have j4 : (q : Int) < (n : Int) := by omega
              clear hs hu hpl
              by_cases hsu : s = u
              · have ts : (s == u) = true := by simp [hsu]
                clear hsu
                go_wp2_with fail
                go_quiet (fail)
                have HB9 : Hid (Below W.heap.size W (wr.drewN nq)) := below_drewN HR.out.below nq
                clear x1 y1 HR
                generalize wr.drewN nq = wy at *
                go_wp2
                go_ret
                exact ⟨rfl, HB9.out⟩
              · have ts : (s == u) = false := by simp [hsu]
                have HNe2 : Hid (∀ j, j < q + 1 → (l.getD p c0).seg ≠ (l.getD j c0).seg) := fun j hj => by
                  by_cases e : j = q
                  · subst e; rw [HSU.out.1, HSU.out.2]; exact hsu
                  · exact HNe.out j (by omega)
                clear hsu
                go_wp2_with fail
                go_quiet (fail)
                have HR9 : Hid (CkR W (some ⟨b, o, none⟩) l (wr.drewN nq)) := HR.out.later (below_drewN (Below.refl _ _) nq)
                clear x1 y1 HR
                generalize wr.drewN nq = wy at *
                go_wp2_with fail
                go_roundw
                case rel => exact ⟨q + 1, by omega, by simp, HNe2.out, HR9.out⟩
                case measure => simp [intOf]; omega
            · have hqp : q = p := by omega
              have HD2 : Hid (DistS (l.take (p + 1))) := dist_snoc hpl HD.out (fun j hj => HNe.out j (by omega))
              clear hqp hpl
              go_wp2_with fail
              go_roundw
              case rel => exact ⟨p + 1, by omega, by simp, HD2.out, HR.out⟩
              case measure => simp [intOf]; omega
        · have HDl : Hid (DistS l) := by
            have := HD.out
            rwa [List.take_of_length_le (by have := HN.out; omega)] at this
          have HRz := Lib.hid HR.out
          clear HR HD
          go_wp2_with fail
          obtain ⟨m, hm, hmw⟩ := turn_num by_ h1 h600
          rw [hmw]
          have hcu := cutP_upto (x := some ⟨b, o, none⟩) (p := m) HCap.out (by omega) (by omega) (fun y hy => by cases hy; exact ⟨b, o, rfl⟩)
          obtain ⟨y, hcy, hyC, hyn⟩ := cutP_from (p := m) HN.out.symm HCap.out (by omega) (by omega) HRz.out.list (fun h => by cases h)
          have HYC := Lib.hid hyC
          have HYN := Lib.hid hyn
          have p0 : (0 : Int) ≤ (m : Int) := by omega
          have p1 : (m : Int) ≤ (n : Int) := by omega
          clear hyC hyn hmw
          go_region_law (first
            | (refine step_append_cds (by rfl) (.tmp 64) (.tmp 67) SC (by rfl) wr.heap.size CD Try.underlying22 info_cd _ 0 [] (by rfl) (World.ownsRow_lit _ #[] 0 (Nat.le_refl _) (by unfold maxLen; omega) rfl) y (n - m) (cap - m) (l.drop m) (by rfl) (by rw [List.length_drop, ← HN.out]) (HYC.out.below (((Below.refl _ _).drew).alloc (Nat.le_refl _) _)) HYN.out (by omega) (by simp) ?_; intro a1 cp1 w4 hown hgrow; rw [Nat.zero_add, List.nil_append] at hown; rw [Nat.zero_add]; have HO4 := Lib.hid hown; have HB4 := Lib.hid ((((Below.refl wr.heap.size wr).drew).alloc (Nat.le_refl _) _).grown hgrow (by simp) (fun q hq => by cases hq; exact Nat.le_refl _)); clear hown hgrow)
            | (refine step_append_cds (by rfl) (.tmp 68) (.tmp 71) SC (by rfl) wr.heap.size CD Try.underlying22 info_cd _ (n - m) (l.drop m) (by rfl) HO4.out (some ⟨b, o, none⟩) m cap (l.take m) (by rfl) (by rw [List.length_take, ← HN.out]; omega) ((HRz.out.list.below HB4.out).take m) (fun h => by cases h) (by omega) HB4.out.size ?_; intro a2 cp2 w5 hown hgrow; rw [show n - m + m = n by omega] at hown; rw [show n - m + m = n by omega]; have HO5 := Lib.hid hown; have HB5 := Lib.hid (HB4.out.grown hgrow HB4.out.size (fun q hq => own_ge HO4.out hq)); clear hown hgrow))
          have hrl := HRz.out.below
          have HBw5 := Lib.hid (hrl.trans (HB5.out.mono hrl.size))
          have HT5 : Hid (Cds w5 a2 (turnL l m)) := Cds.own HO5.out
          have HTn : Hid (n = (turnL l m).length) := by show _ = _; rw [turn_length]; exact HN.out
          clear hrl HO4 HB4 HB5 HRz hcu hcy HYC HYN
          go_wp2_with fail
          refine (best_any k (HC.out.below HBw5.out) HN.out hmx).mono ?_
          rintro e w6 ⟨x6, m6, cp6, L6, z6, hI6, rfl, hm6, hO6, hb6⟩
          have HI6 := Lib.hid hI6
          have HL6 := Lib.hid (Cds.own hO6)
          have HM6 := Lib.hid hm6
          have HB6 := Lib.hid (HBw5.out.trans (hb6.mono HBw5.out.size))
          have HT6 := Lib.hid (HT5.out.below hb6)
          clear hI6 hm6 hO6 hb6 HBw5 HT5 HO5
          go_wp2_with fail
          refine (best_any k HT6.out HTn.out hmx).mono ?_
          rintro e w7 ⟨x7, m7, cp7, L7, z7, hI7, rfl, hm7, hO7, hb7⟩
          obtain ⟨rfl, rfl⟩ := HI6.out.fun_ (hI7.turn HDl.out)
          have HL7 := Lib.hid (Cds.own hO7)
          have HM7 := Lib.hid hm7
          have HB7 := Lib.hid (HB6.out.trans (hb7.mono HB6.out.size))
          have HT7 := Lib.hid (HT6.out.below hb7)
          have HL67 := Lib.hid (HL6.out.below hb7)
          clear hI7 hm7 hO7 hb7 HB6 HT6 HL6
          go_wp2_with fail
          refine (uptil_any k (HC.out.below HB7.out) HN.out hmx).mono ?_
          rintro e w8 ⟨x8, m8, cp8, L8, z8, hI8, rfl, hm8, hO8, hb8⟩
          have HI8 := Lib.hid hI8
          have HL8 := Lib.hid (Cds.own hO8)
          have HM8 := Lib.hid hm8
          have HB8 := Lib.hid (HB7.out.trans (hb8.mono HB7.out.size))
          have HT8 := Lib.hid (HT7.out.below hb8)
          have HL68 := Lib.hid (HL67.out.below hb8)
          have HL78 := Lib.hid (HL7.out.below hb8)
          clear hI8 hm8 hO8 hb8 HB7 HT7 HL67 HL7
          go_wp2_with fail
          refine (uptil_any k HT8.out HTn.out hmx).mono ?_
          rintro e w9 ⟨x9, m9, cp9, L9, z9, hI9, rfl, hm9, hO9, hb9⟩
          obtain ⟨rfl, rfl⟩ := HI8.out.fun_ (hI9.turn HDl.out)
          have HL9 := Lib.hid (Cds.own hO9)
          have HM9 := Lib.hid hm9
          have HB9 := Lib.hid (HB8.out.trans (hb9.mono HB8.out.size))
          have HL69 := Lib.hid (HL68.out.below hb9)
          have HL79 := Lib.hid (HL78.out.below hb9)
          have HL89 := Lib.hid (HL8.out.below hb9)
          clear hI9 hm9 hO9 hb9 HB8 HT8 HL68 HL78 HL8
          have hfit6 := HI6.out.fit HF.out
          have hfit8 := HI8.out.fit HF.out
          have HF6 := Lib.hid hfit6.1
          have HF8 := Lib.hid hfit8.1
          have l6 : m6 ≤ 100 := by rw [HM6.out]; have := hfit6.2; have := HN.out; omega
          have l7 : m7 ≤ 100 := by rw [HM7.out]; have := hfit6.2; have := HN.out; omega
          have l8 : m8 ≤ 100 := by rw [HM8.out]; have := hfit8.2; have := HN.out; omega
          have l9 : m9 ≤ 100 := by rw [HM9.out]; have := hfit8.2; have := HN.out; omega
          clear hfit6 hfit8
          go_wp2_with fail
          refine (ref_any HL79.out HM7.out (by omega)).mono ?_
          rintro e wa ⟨xa, cpa, rfl, hOa, hba⟩
          have HBa := Lib.hid (HB9.out.trans (hba.mono HB9.out.size))
          have HSm := Lib.hid (same_any (cap := cp6) (cb := cpa) (HL69.out.below hba) HM6.out (by omega) (Cds.own hOa) HM7.out (by omega) HF6.out HF6.out)
          have HL9a := Lib.hid (HL9.out.below hba)
          have HL8a := Lib.hid (HL89.out.below hba)
          clear hOa hba HB9 HL9 HL89 HL69 HL79
          go_wp2_with fail
          refine HSm.out.mono ?_
          rintro e wb ⟨rr, hrr, rfl, hbb⟩
          have hrt : rr = true := hrr.2 rfl
          subst hrt
          have HBb := Lib.hid (HBa.out.trans (hbb.mono HBa.out.size))
          have HL9b := Lib.hid (HL9a.out.below hbb)
          have HL8b := Lib.hid (HL8a.out.below hbb)
          clear hrr hbb HSm HBa HL9a HL8a
          go_wp2_with fail
          refine (ref_any HL9b.out HM9.out (by omega)).mono ?_
          rintro e wc ⟨xc, cpc, rfl, hOc, hbc⟩
          have HBc := Lib.hid (HBb.out.trans (hbc.mono HBb.out.size))
          have HSm := Lib.hid (same_any (cap := cp8) (cb := cpc) (HL8b.out.below hbc) HM8.out (by omega) (Cds.own hOc) HM9.out (by omega) HF8.out HF8.out)
          clear hOc hbc HBb HL9b HL8b
          go_wp2_with fail
          refine HSm.out.mono ?_
          rintro e wd ⟨rr, hrr, rfl, hbd⟩
          have hrt : rr = true := hrr.2 rfl
          subst hrt
          have HBd := Lib.hid (HBc.out.trans (hbd.mono HBc.out.size))
          clear hrr hbd HSm HBc
          go_wp2
          go_ret
          exact ⟨rfl, HBd.out⟩
    · have t0 : (100 : Int) < (n : Int) := by omega
      go_wp2_with fail
      refine (awake_any _).mono ?_
      rintro e w2 ⟨rfl, hb2⟩
      have HB2 := Lib.hid (HB1.out.trans (hb2.mono HB1.out.size))
      clear hb2
      go_wp2
      go_ret
      exact ⟨rfl, HB2.out⟩
end
end Go.Proofs.Ytblpfgjjiihjoaa
