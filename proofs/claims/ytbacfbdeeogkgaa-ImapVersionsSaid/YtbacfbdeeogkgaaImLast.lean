/-
  The walk of ImapLast: an inode whose version is the last one is given no more.
-/
import Derived.Test.YtbacfbdeeogkgaaImFull
import Derived.Deep.LoopGhost
import Derived.Deep.DeepCutAuto
namespace Go.Proofs.Ytbacfbdeeogkgaa
open Go.RowKit Go.Maps

section
variable {w w' : World} {bm gs gd n N i C : Nat} {A V : Nat → Int} {B : Nat → Bool}
set_option maxHeartbeats 400000 in
theorem badAddr_no (a : Int) (W : World) (h0 : 0 ≤ a) (h1 : a < 4096) :
    Calls Try.prog 36 #[.int .i64 a] W fun e w' => e = .returned (.bool false) ∧ W = w' := by
  go_enter Try.func36, Try.ntmps36
  go_wp2
  go_ret
  exact ⟨by simp; omega, rfl⟩
set_option maxHeartbeats 1000000 in
theorem force_zero (v : Int) (h : Im w bm gs gd n N A V B) (hi : i < n) (h1 : 1 ≤ i) (hn : n ≤ 200) (hC : C ≤ gs) (hC2 : C ≤ gd) (hN : N ≤ 1000000) (hv : 0 ≤ v ∧ v ≤ 65535) :
    Calls Try.prog 16 #[.pointer (some ⟨bm, 0, none⟩), .int .i64 ((i : Int) + 1), .int .i64 v, .int .i64 0] w (CallO C w bm gs gd n N (upd A i 0) (upd V i v) (upd B i false) 0) := by
  have HK := Lib.hid (known_yes h hi h1 hn)
  have HB := Lib.hid (fun W => badAddr_no 0 W (by decide) (by decide))
  have HP := Lib.hid (put_any (C := C) 0 v false h hi hn hC hC2 hN)
  obtain ⟨v1, v2⟩ := hv
  clear h
  go_enter Try.func16, Try.ntmps16
  go_wp2_with fail
  refine HK.out.mono ?_
  rintro e w1 ⟨rfl, rfl⟩
  go_wp2_with fail
  refine (HB.out _).mono ?_
  rintro e w1 ⟨rfl, rfl⟩
  go_wp2_with fail
  refine HP.out.mono ?_
  rintro e w1 ⟨rfl, hI, hbl, hf⟩
  have HI := Lib.hid hI
  have HBl := Lib.hid hbl
  have HF := Lib.hid hf
  clear hI hbl hf HP
  go_wp2
  go_ret
  exact ⟨rfl, HI.out, HBl.out, HF.out⟩
end
theorem lst_but (p : Nat → Bool) (i : Nat) (hp : p i = false) (h1 : 1 ≤ i) : ∀ k, i < k → (∀ j, 1 ≤ j → j < k → j ≠ i → p j = true) → (lstI p k).length = k - 2
  | 0, h, _ => by omega
  | k + 1, hk, h => by
    show (if 1 ≤ k ∧ p k = true then lstI p k ++ [(k : Int) + 1] else lstI p k : List Int).length = k + 1 - 2
    rcases Nat.lt_or_ge i k with q | q
    · rw [if_pos ⟨by omega, h k (by omega) (by omega) (by omega)⟩, List.length_append, lst_but p i hp h1 k q fun j a b c => h j a (by omega) c]
      simp
      omega
    · obtain rfl : i = k := by omega
      rw [if_neg (fun z => by rw [hp] at z; exact absurd z.2 (by decide)), lst_all p i h1 fun j a b => h j a (by omega) (by omega)]
      omega
/-- The busy ones where just the first places are. -/
theorem lst_first (p : Nat → Bool) (i : Nat) (h1 : 1 ≤ i) (hp : ∀ j, 1 ≤ j → j < i → p j = true) : ∀ k, i ≤ k → (∀ j, i ≤ j → j < k → p j = false) → (lstI p k).length = i - 1 ∧ ∀ q, q < i - 1 → (lstI p k).getD q 0 = (q : Int) + 2
  | 0, h, _ => by omega
  | k + 1, hk, h => by
    rcases Nat.lt_or_ge k i with q | q
    · obtain rfl : i = k + 1 := by omega
      clear h
      have key : ∀ m, m ≤ k + 1 → 1 ≤ m → (lstI p m).length = m - 1 ∧ ∀ q, q < m - 1 → (lstI p m).getD q 0 = (q : Int) + 2 := by
        intro m
        induction m with
        | zero => intro _ h; omega
        | succ m ih =>
          intro hm h0
          by_cases hm1 : 1 ≤ m
          · obtain ⟨e1, e2⟩ := ih (by omega) hm1
            have e : lstI p (m + 1) = lstI p m ++ [(m : Int) + 1] := by show (if _ then _ else _) = _; rw [if_pos ⟨hm1, hp m hm1 (by omega)⟩]
            rw [e]
            refine ⟨by rw [List.length_append, e1]; simp; omega, fun q hq => ?_⟩
            by_cases hqm : q < m - 1
            · rw [List.getD_eq_getElem?_getD, List.getElem?_append_left (by omega), ← List.getD_eq_getElem?_getD]
              exact e2 q hqm
            · obtain rfl : q = m - 1 := by omega
              rw [List.getD_eq_getElem?_getD, List.getElem?_append_right (by omega), e1, Nat.sub_self]
              simp
              omega
          · obtain rfl : m = 0 := by omega
            exact ⟨rfl, fun q hq => by omega⟩
      exact key (k + 1) (Nat.le_refl _) (by omega)
    · have e : lstI p (k + 1) = lstI p k := by show (if _ then _ else _) = _; rw [if_neg (fun z => by rw [h k q (by omega)] at z; exact absurd z.2 (by decide))]
      rw [e]
      exact lst_first p i h1 hp k q fun j a b => h j a (by omega)
theorem cut20 (x : Int) : ∃ k : Nat, k < 20 ∧ wrap64 ((IntKind.u64.wrap x).tmod 20) = (k : Int) := by
  obtain ⟨k, hk, e⟩ := cut_mod x 19 (by decide)
  exact ⟨k, by omega, e⟩
theorem cut4 (x : Int) : ∃ k : Nat, k < 4 ∧ wrap64 ((IntKind.u64.wrap x).tmod 4) = (k : Int) := by
  obtain ⟨k, hk, e⟩ := cut_mod x 3 (by decide)
  exact ⟨k, by omega, e⟩
def LO (w : World) (bm gs gd n r bk : Nat) (t : Value) (wr : World) : Prop :=
  ∃ (k N : Nat) (A V : Nat → Int) (B : Nat → Bool), t = .int .i64 k ∧ k ≤ bk ∧ N ≤ 1 + 30 * k ∧ Im wr bm gs gd n N A V B ∧ (∀ j, 1 ≤ j → j < n → B j = false) ∧ V (r + 1) = 65535 - (bk : Int) + (k : Int) ∧ (∀ j, 1 ≤ j → j < n → j ≠ r + 1 → 0 ≤ V j ∧ V j ≤ k) ∧ Below w.heap.size w wr
def LI (w : World) (bm gs gd n r N : Nat) (A V : Nat → Int) (g : Nat) (wr : World) : Prop :=
  ∃ (p : Nat) (B : Nat → Bool), 1 ≤ p ∧ p ≤ r + 1 ∧ g = r + 1 - p ∧ Im wr bm gs gd n N A V B ∧ (∀ j, 1 ≤ j → j < n → B j = decide (j < p)) ∧ Below w.heap.size w wr
def LF (w : World) (bm gs gd n r bk k : Nat) (a : Option Addr) (t : Value) (wr : World) : Prop :=
  ∃ (q N : Nat) (A V : Nat → Int) (B : Nat → Bool), t = .int .i64 q ∧ q ≤ r ∧ N ≤ 2 + 30 * k + q ∧ Im wr bm gs gd n N A V B ∧ (∀ j, 1 ≤ j → j < n → B j = decide (q < j ∧ j < r + 1)) ∧ V (r + 1) = 65535 - (bk : Int) + (k : Int) + 1 ∧
    (∀ j, 1 ≤ j → j < n → j ≠ r + 1 → 0 ≤ V j ∧ V j ≤ k + 1 ∧ (q < j → V j ≤ k)) ∧ (r ≠ 0 → ∃ b cur, a = some ⟨b, 0, none⟩ ∧ Blo wr b 3 cur ∧ ∀ s, s < r → cur[s]? = some (.int .i64 ((s : Int) + 2))) ∧ Below w.heap.size w wr
def LE (w : World) (bm gs gd n r : Nat) (t : Value) (wr : World) : Prop :=
  ∃ (p k N : Nat) (A V : Nat → Int) (B : Nat → Bool), t = .int .i64 k ∧ 1 ≤ p ∧ p ≤ n ∧ ((p < r + 1 ∧ k + 1 = p) ∨ (r + 1 < p ∧ k + 2 = p)) ∧ Im wr bm gs gd n N A V B ∧ (∀ j, 1 ≤ j → j < n → j ≠ r + 1 → B j = decide (j < p) ∧ V j < 65535) ∧ V (r + 1) = 65535 ∧ Below w.heap.size w wr
set_option maxRecDepth 100000 in
set_option maxHeartbeats 4000000 in
theorem imapLast_any (a a1 a2 : Int) (w : World) :
    Calls Try.prog 5 #[.int .i64 a, .int .i64 a1, .int .i64 a2] w fun e w' => e = .returned (.bool true) ∧ Below w.heap.size w w' := by
  obtain ⟨m, hm, hme⟩ := cut20 a
  obtain ⟨bk, hbk, hbe⟩ := cut4 a2
  have HAw := Lib.hid (awake_any w)
  have HNew := Lib.hid (fun W => newI_any (m + 4) W (by omega) (by omega))
  have hn1 : 4 ≤ m + 4 := by omega
  have hn2 : m + 4 ≤ 23 := by omega
  have e2 : Hid ((m : Int) + 4 = ((m + 4 : Nat) : Int)) := by show _ = _; omega
  go_enter Try.func5, Try.ntmps5
  go_wp2_with fail
  refine HAw.out.mono ?_
  rintro e w1 ⟨rfl, hb1⟩
  have HB1 := Lib.hid hb1
  clear hb1 HAw
  go_upto_region 4 with fail
  rw [e2.out]
  clear e2 hme
  generalize m + 4 = n at *
  obtain ⟨r, hr, hre⟩ := cut_less a1 n (by omega) (by omega)
  have hnw : IntKind.u64.wrap ((n : Int) - 1) = (n : Int) - 1 := by rw [IntKind.wrap_u64]; omega
  have hn0 : ((n : Int) - 1 == 0) = false := by rw [beq_eq_false_iff_ne]; omega
  go_wp2_with fail
  rw [hbe]
  clear hnw hn0 hre hbe
  refine (HNew.out _).mono ?_
  rintro e w2 ⟨bm, gs, gd, rfl, hI, ⟨l1, l2, l3⟩, hb⟩
  have HI2 := Lib.hid hI
  have HB2 := Lib.hid (HB1.out.trans (hb.mono HB1.out.size))
  have l2' : w.heap.size ≤ gs := Nat.le_trans HB1.out.size l2
  have l3' : w.heap.size ≤ gd := Nat.le_trans HB1.out.size l3
  clear hI hb HNew l1 l2 l3
  have hfo := force_zero (C := w.heap.size) (i := r + 1) (65535 - (bk : Int)) HI2.out (by omega) (by omega) (by omega) l2' l3' (by decide) (by omega)
  rw [show ((r + 1 : Nat) : Int) + 1 = (r : Int) + 2 by omega] at hfo
  have HFo := Lib.hid hfo
  clear hfo
  go_wp2_with fail
  refine HFo.out.mono ?_
  rintro e w3 ⟨rfl, ⟨N3, hN3, hI⟩, hb, _⟩
  have HS0 : Hid (LO w bm gs gd n r bk (.int .i64 0) w3) := ⟨0, N3, _, _, _, rfl, Nat.zero_le _, by omega, hI, fun j a b => by unfold upd; split <;> rfl, by rw [upd_at]; simp, fun j a b c => by rw [upd_ne _ _ _ c]; exact ⟨Int.le_refl _, Int.le_refl _⟩, HB2.out.trans hb⟩
  clear hI hb HFo HI2 HB2
  go_wp2_with fail
  go_loopw [9] (fun t wr => LO w bm gs gd n r bk t wr) (fun t _ => bk - (intOf t).toNat)
  case atStart => exact HS0.out
  case round =>
    clear HS0
    obtain ⟨k, N, A, V, B, rfl, hk, hN, hI, hB, hV, hO, hb⟩ := hrel
    have HI := Lib.hid hI
    have HBf := Lib.hid hB
    have HV := Lib.hid hV
    have HO := Lib.hid hO
    have HB := Lib.hid hb
    clear hI hB hV hO hb
    by_cases hlt : k < bk
    · obtain ⟨wo, rfl⟩ : ∃ wo : World, wo = wr := ⟨_, rfl⟩
      go_wp2_with fail
      go_loopg [10] r (fun g _ wr => LI w bm gs gd n r N A V g wr)
      case atStart => exact ⟨1, B, Nat.le_refl _, by omega, by omega, HI.out, fun j a b => by rw [HBf.out j a b, eq_comm, decide_eq_false_iff_not]; omega, HB.out⟩
      case round =>
        clear HI HBf HB
        obtain ⟨p, B1, hp1, hp2, hg, hI, hB1, hb⟩ := hrel
        have HI := Lib.hid hI
        have HB1 := Lib.hid hB1
        have HBl := Lib.hid hb
        have hcan : canB V B1 p = true := by
          unfold canB
          rw [hB1 p hp1 (by omega), decide_eq_false (show ¬ p < p by omega)]
          by_cases e : p = r + 1
          · subst e
            have := HV.out
            simp
            omega
          · have := HO.out p hp1 (by omega) e
            simp
            omega
        have HA := Lib.hid (alloc_yes (C := w.heap.size) (i := p) HI.out (by omega) hp1 (by omega) l2' hcan fun j a b => full_not (by rw [hB1 j a (by omega)]; exact decide_eq_true b))
        clear hI hB1 hb hcan
        by_cases hpr : p < r + 1
        · have hne : ((p : Int) + 1 == (r : Int) + 2) = false := by rw [beq_eq_false_iff_ne]; omega
          generalize V p = vp at *
          go_wp2_with fail
          refine HA.out.mono ?_
          rintro e w5 ⟨rfl, hI, hb, _⟩
          have HI5 := Lib.hid hI
          have HB5 := Lib.hid (HBl.out.trans hb)
          have HBB : Hid (∀ j, 1 ≤ j → j < n → upd B1 p true j = decide (j < p + 1)) := fun j a b => by
            by_cases e : j = p
            · subst e; rw [upd_at, eq_comm, decide_eq_true_iff]; omega
            · rw [upd_ne _ _ _ e, HB1.out j a b]; congr 1; apply propext; omega
          clear hI hb HA HI HBl
          go_wp2_with fail
          go_roundg (r + 1 - (p + 1))
          case measure => omega
          case rel => exact ⟨p + 1, _, by omega, by omega, rfl, HI5.out, HBB.out, HB5.out⟩
        · obtain rfl : p = r + 1 := by omega
          have hcast : ((r + 1 : Nat) : Int) + 1 = (r : Int) + 2 := by omega
          have HCs := Lib.hid hcast
          clear hpr hcast
          go_wp2_with fail
          refine HA.out.mono ?_
          rintro e w5 ⟨rfl, hI, hb, _⟩
          rw [HCs.out, HV.out]
          have hfr := free_yes (C := w.heap.size) (i := r + 1) hI (by omega) (by omega) (by omega) l2' l3' (by omega) (by rw [upd_at]) (by rw [HV.out]; omega)
          rw [HCs.out, HV.out, show min (65535 - (bk : Int) + (k : Int) + 1) 65535 = 65535 - (bk : Int) + (k : Int) + 1 by omega] at hfr
          have HFr := Lib.hid hfr
          have HBB : Hid (∀ j, 1 ≤ j → j < n → upd (upd B1 (r + 1) true) (r + 1) false j = decide (j < r + 1)) := fun j a b => by
            by_cases e : j = r + 1
            · subst e; rw [upd_at, eq_comm, decide_eq_false_iff_not]; omega
            · rw [upd_ne _ _ _ e, upd_ne _ _ _ e, HB1.out j a b]
          have HB5 := Lib.hid (HBl.out.trans hb)
          clear hI hb HA HI HBl hfr HB1
          have hq1 : (65535 : Int) - (bk : Int) + (k : Int) ≤ 65535 := by omega
          go_wp2_with fail
          refine HFr.out.mono ?_
          rintro e w6 ⟨rfl, ⟨N6, hN6, hI⟩, hb, _⟩
          have HI6 := Lib.hid hI
          have HB6 := Lib.hid (HB5.out.trans hb)
          clear hI hb HFr HB5
          have hlt6 := HI6.out.lt
          have HV6 : Hid (upd V (r + 1) (65535 - (bk : Int) + (k : Int) + 1) (r + 1) = 65535 - (bk : Int) + (k : Int) + 1) := upd_at _ _ _
          have HO6 : Hid (∀ j, 1 ≤ j → j < n → j ≠ r + 1 → 0 ≤ upd V (r + 1) (65535 - (bk : Int) + (k : Int) + 1) j ∧ upd V (r + 1) (65535 - (bk : Int) + (k : Int) + 1) j ≤ k) := fun j a b c => by rw [upd_ne _ _ _ c]; exact HO.out j a b c
          generalize upd V (r + 1) (65535 - (bk : Int) + (k : Int) + 1) = V6 at *
          generalize upd A (r + 1) 0 = A6 at *
          generalize upd (upd B1 (r + 1) true) (r + 1) false = B6 at *
          clear HV HO
          go_wp2_with fail
          refine (busy_any HI6.out (by omega) (by omega)).mono ?_
          rintro e w7 ⟨a7, c7, rfl, hown, hb⟩
          obtain ⟨hL1, hL2⟩ := lst_first B6 (r + 1) (by omega) (fun j a b => by rw [HBB.out j a (by omega)]; exact decide_eq_true b) n (by omega) (fun j a b => by rw [HBB.out j (by omega) b]; exact decide_eq_false (by omega))
          have HRow : Hid (r ≠ 0 → ∃ b cur, a7 = some ⟨b, 0, none⟩ ∧ Blo w7 b 3 cur ∧ ∀ s, s < r → cur[s]? = some (.int .i64 ((s : Int) + 2))) := fun hr0 => by
            rcases hown.2 with ⟨_, h0⟩ | ⟨b, c, cur, h1', hb', hh, _, _, _, ht⟩
            · omega
            · cases h1'
              refine ⟨b, cur, rfl, hh, fun s hs => ?_⟩
              have := cellsI_get (lstI B6 n) s (by omega)
              rw [hL2 s (by omega), ← ht, List.getElem?_take_of_lt (by omega), Array.getElem?_toList] at this
              exact this
          rw [hL1, show r + 1 - 1 = r by omega]
          have HI7 := Lib.hid (HI6.out.later hb)
          have HB7 := Lib.hid (HB6.out.trans (hb.mono HB6.out.size))
          clear hown hb hL1 hL2 HI6 HB6
          go_wp2_with fail
          obtain ⟨wo2, rfl⟩ : ∃ wo2 : World, wo2 = wr := ⟨_, rfl⟩
          go_loopw [86] (fun t wr => LF w bm gs gd n r bk k a7 t wr) (fun t _ => r - (intOf t).toNat)
          case atStart => exact ⟨0, N6, A6, V6, B6, rfl, Nat.zero_le _, by omega, HI7.out, fun j a b => by rw [HBB.out j a b]; congr 1; apply propext; omega, HV6.out, fun j a b c => by have := HO6.out j a b c; omega, HRow.out, HB7.out⟩
          case round =>
            clear HI7 HBB HV6 HO6 HRow HB7
            obtain ⟨q, N8, A8, V8, B8, rfl, hq, hN8, hI, hB8, hV8, hO8, hrow, hb⟩ := hrel
            have HI8 := Lib.hid hI
            have HB8 := Lib.hid hB8
            have HV8 := Lib.hid hV8
            have HO8 := Lib.hid hO8
            have HRow := Lib.hid hrow
            have HBl8 := Lib.hid hb
            clear hI hB8 hV8 hO8 hrow hb
            by_cases hqr : q < r
            · obtain ⟨b9, cur9, ha9, hb9, hc9⟩ := HRow.out (by omega)
              have d9 := (hb9.cell q).trans (hc9 q hqr)
              have hfr := free_yes (C := w.heap.size) (i := q + 1) HI8.out (by omega) (by omega) (by omega) l2' l3' (by omega) (by rw [HB8.out (q + 1) (by omega) (by omega)]; exact decide_eq_true (by omega)) (by have := HO8.out (q + 1) (by omega) (by omega) (by omega); omega)
              rw [show ((q + 1 : Nat) : Int) + 1 = (q : Int) + 2 by omega] at hfr
              have HFr := Lib.hid hfr
              have hgb : b9 ≠ gs := by
                obtain ⟨_, ⟨cs, q2, _⟩, _, _⟩ := HI8.out
                exact Blo.apart hb9 q2 (by decide)
              have HBlo := Lib.hid hb9
              have HCur := Lib.hid hc9
              have j1 : (0 : Int) ≤ (q : Int) := by omega
              have j2 : (q : Int) < (r : Int) := by omega
              subst ha9
              clear hfr hb9 hc9
              go_wp2_with fail
              refine HFr.out.mono ?_
              rintro e w9 ⟨rfl, ⟨N9, hN9, hI⟩, hb, hf⟩
              have hx := HO8.out (q + 1) (by omega) (by omega) (by omega)
              have HNew : Hid (LF w bm gs gd n r bk k (some ⟨b9, 0, none⟩) (.int .i64 ((q : Int) + 1)) w9) := by
                refine ⟨q + 1, N9, _, _, _, by simp, by omega, by omega, hI, fun j a b => ?_, ?_, fun j a b c => ?_, fun _ => ⟨b9, cur9, rfl, hf _ _ _ hgb HBlo.out, HCur.out⟩, HBl8.out.trans hb⟩
                · by_cases e : j = q + 1
                  · subst e; rw [upd_at, eq_comm, decide_eq_false_iff_not]; omega
                  · rw [upd_ne _ _ _ e, HB8.out j a b]; congr 1; apply propext; omega
                · rw [upd_ne _ _ _ (by omega)]; exact HV8.out
                · by_cases e : j = q + 1
                  · subst e; rw [upd_at]; omega
                  · rw [upd_ne _ _ _ e]; have := HO8.out j a b c; omega
              clear hI hb hf hx HFr HI8 HB8 HV8 HO8 HRow HBl8 HBlo HCur d9
              go_wp2_with fail
              go_roundw
              case rel => exact HNew.out
              case measure => simp [intOf]; omega
            · obtain rfl : q = r := by omega
              clear hqr
              go_wp2_with fail
              go_roundw
              case rel => exact ⟨k + 1, N8, A8, V8, B8, by simp, by omega, by omega, HI8.out, fun j a b => by rw [HB8.out j a b]; exact decide_eq_false (by omega), by rw [HV8.out]; omega, fun j a b c => by have := HO8.out j a b c; omega, HBl8.out⟩
              case measure => simp [intOf]; omega
    · obtain rfl : k = bk := by omega
      have hV2 := HV.out
      rw [show (65535 : Int) - (k : Int) + (k : Int) = 65535 by omega] at hV2
      have HV2 := Lib.hid hV2
      have hcf : canB V B (r + 1) = false := by unfold canB; rw [hV2]; simp
      have HL : Hid ((lstI (canB V B) n).length = n - 2) := lst_but _ (r + 1) hcf (by omega) n (by omega) fun j a b c => by
        unfold canB
        rw [HBf.out j a b]
        have := HO.out j a b c
        simp
        omega
      have hcast : ((n - 2 : Nat) : Int) = (n : Int) - 2 := by omega
      have hself : (((n : Int) - 2) != ((n : Int) - 2)) = false := by simp
      have HO2 : Hid (∀ j, 1 ≤ j → j < n → j ≠ r + 1 → V j < 65535) := fun j a b c => by have := HO.out j a b c; omega
      clear hV2 hcf hlt HV HO
      go_wp2_with fail
      refine (room_any HI.out (by omega) (by omega)).mono ?_
      rintro e w5 ⟨rfl, hb⟩
      rw [HL.out, hcast]
      have HI5 := Lib.hid (HI.out.later hb)
      have HB5 := Lib.hid (HB.out.trans (hb.mono HB.out.size))
      clear hb HI HB HL hcast
      go_wp2_with fail
      obtain ⟨wo, rfl⟩ : ∃ wo : World, wo = wr := ⟨_, rfl⟩
      go_loopw [15] (fun t wr => LE w bm gs gd n r t wr) (fun t _ => n - 2 - (intOf t).toNat)
      case atStart =>
        by_cases hr0 : r = 0
        · subst hr0
          exact ⟨2, 0, N, A, V, B, rfl, by omega, by omega, .inr ⟨by omega, rfl⟩, HI5.out, fun j a b c => ⟨by rw [HBf.out j a b, eq_comm, decide_eq_false_iff_not]; omega, HO2.out j a b c⟩, HV2.out, HB5.out⟩
        · exact ⟨1, 0, N, A, V, B, rfl, by omega, by omega, .inl ⟨by omega, rfl⟩, HI5.out, fun j a b c => ⟨by rw [HBf.out j a b, eq_comm, decide_eq_false_iff_not]; omega, HO2.out j a b c⟩, HV2.out, HB5.out⟩
      case round =>
        clear HI5 HBf HO2 HV2 HB5
        obtain ⟨p, k4, N4, A4, V4, B4, rfl, hp1, hp2, hpc, hI, hB4, hV4, hb⟩ := hrel
        have HI4 := Lib.hid hI
        have HB4 := Lib.hid hB4
        have HV4 := Lib.hid hV4
        have HBl4 := Lib.hid hb
        have hlast : canB V4 B4 (r + 1) = false := by unfold canB; rw [hV4]; simp
        clear hI hB4 hV4 hb
        by_cases hlt : k4 < n - 2
        · have hpn : p < n := by omega
          have hpr : p ≠ r + 1 := by omega
          have hcan : canB V4 B4 p = true := by
            unfold canB
            rw [(HB4.out p hp1 hpn hpr).1, decide_eq_false (show ¬ p < p by omega)]
            have := (HB4.out p hp1 hpn hpr).2
            simp
            omega
          have HA := Lib.hid (alloc_yes (C := w.heap.size) (i := p) HI4.out hpn hp1 (by omega) l2' hcan fun j a b => by
            by_cases e : j = r + 1
            · subst e; exact hlast
            · exact full_not (by rw [(HB4.out j a (by omega) e).1]; exact decide_eq_true b))
          have hne : ((p : Int) + 1 == (r : Int) + 2) = false := by rw [beq_eq_false_iff_ne]; omega
          have HCan : Hid (∀ j, 1 ≤ j → j < n → j ≠ r + 1 → upd B4 p true j = decide (j < p + 1) ∧ V4 j < 65535) := fun j a b c => by
            refine ⟨?_, (HB4.out j a b c).2⟩
            by_cases e : j = p
            · subst e; rw [upd_at, eq_comm, decide_eq_true_iff]; omega
            · rw [upd_ne _ _ _ e, (HB4.out j a b c).1]; congr 1; apply propext; omega
          have i1 : (k4 : Int) < (n : Int) - 2 := by omega
          have hk0 : (0 : Int) ≤ (k4 : Int) := by omega
          clear hlast hcan
          generalize V4 p = vp at *
          go_wp2_with fail
          refine HA.out.mono ?_
          rintro e w6 ⟨rfl, hI, hb, _⟩
          have HI6 := Lib.hid hI
          have HB6 := Lib.hid (HBl4.out.trans hb)
          clear hI hb HA HI4 HBl4 HB4
          go_wp2_with fail
          go_roundw
          case rel =>
            by_cases e : p + 1 = r + 1
            · exact ⟨p + 2, k4 + 1, N4, A4, V4, _, by simp, by omega, by omega, .inr ⟨by omega, by omega⟩, HI6.out, fun j a b c => ⟨by rw [(HCan.out j a b c).1]; congr 1; apply propext; omega, (HCan.out j a b c).2⟩, HV4.out, HB6.out⟩
            · exact ⟨p + 1, k4 + 1, N4, A4, V4, _, by simp, by omega, by omega, by omega, HI6.out, HCan.out, HV4.out, HB6.out⟩
          case measure => simp [intOf]; omega
        · have hpn : p = n := by omega
          subst hpn
          have HA := Lib.hid (alloc_no HI4.out (by omega) (by omega) fun j a b => by
            by_cases e : j = r + 1
            · subst e; exact hlast
            · exact full_not (by rw [(HB4.out j a b e).1]; exact decide_eq_true b))
          have i1 : ¬ (k4 : Int) < (p : Int) - 2 := by omega
          clear hlast hlt
          go_wp2_with fail
          refine HA.out.mono ?_
          rintro e w6 ⟨rfl, rfl⟩
          clear HA
          go_wp2
          go_ret
          exact ⟨by first | rfl | simp, HBl4.out⟩
theorem imapLast_walk (a a1 a2 : Int) (w : World) (_ : (Lit.int .i64 a).wf = true) (_ : (Lit.int .i64 a1).wf = true) (_ : (Lit.int .i64 a2).wf = true) :
    Calls Try.prog 5 #[.int .i64 a, .int .i64 a1, .int .i64 a2] w fun e w' => e = .returned (.bool true) ∧ Below w.heap.size w w' := imapLast_any a a1 a2 w
end Go.Proofs.Ytbacfbdeeogkgaa
