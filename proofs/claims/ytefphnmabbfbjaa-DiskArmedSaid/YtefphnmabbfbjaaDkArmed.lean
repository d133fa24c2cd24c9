/-
  The walk of DiskArmed.
-/
import Derived.Test.YtefphnmabbfbjaaDkAwake
import Derived.Test.YtefphnmabbfbjaaBools
namespace Go.Proofs.Ytefphnmabbfbjaa
open Go.RowKit

theorem cut50 (x : Int) : ∃ k : Nat, k < 50 ∧ wrap64 ((IntKind.u64.wrap x).tmod 50) = (k : Int) := by
  obtain ⟨k, hk, e⟩ := cut_mod x 49 (by decide)
  exact ⟨k, by omega, e⟩
structure ArD (C : Nat) (W wr : World) (n k : Nat) (L : Dl) (d : Dm) : Prop where
  dk : Dk C wr L d
  dn : d.n = 60
  ar : d.armed = true
  st : d.steps = (min k n : Nat)
  lf : d.left = (n - min k n : Nat)
  ql : d.Q.length ≤ k
  bl : Below W.heap.size W wr
def ArR (W : World) (n bd : Nat) (i e : Value) (wr : World) : Prop :=
  ∃ k : Nat, k ≤ n + 3 ∧ i = .int .i64 k ∧ ∃ (L : Dl) (d : Dm), L.bd = bd ∧ ArD W.heap.size W wr n k L d
section
variable {W wr w' : World} {n k : Nat} {L L' : Dl} {d : Dm}
theorem ArD.alive (h : ArD W.heap.size W wr n k L d) (hk : k < n) : deadB d = false := by
  unfold deadB
  rw [h.ar, h.lf, Nat.min_eq_left (by omega)]
  simp; omega
theorem ArD.dead (h : ArD W.heap.size W wr n k L d) (hk : n ≤ k) : deadB d = true := by
  unfold deadB
  rw [h.ar, h.lf, Nat.min_eq_right (by omega)]
  simp
theorem ArD.put {i : Nat} {l : List Nat} (h : ArD W.heap.size W wr n k L d) (hk : k < n) (hD : Dk W.heap.size w' L' (putD d i l)) (hb : Below W.heap.size W w') : ArD W.heap.size W w' n (k + 1) L' (putD d i l) := by
  refine ⟨hD, h.dn, h.ar, ?_, ?_, ?_, hb⟩
  · show d.steps + 1 = _
    rw [h.st]; omega
  · show (if d.armed then d.left - 1 else d.left) = _
    rw [h.ar, h.lf, if_pos rfl]; omega
  · show (d.Q ++ [(i, l)]).length ≤ _
    rw [List.length_append]; have := h.ql; simp; omega
theorem ArD.bar (h : ArD W.heap.size W wr n k L d) (hk : k < n) (hD : Dk W.heap.size w' L' (barD d)) (hb : Below W.heap.size W w') : ArD W.heap.size W w' n (k + 1) L' (barD d) := by
  refine ⟨hD, h.dn, h.ar, ?_, ?_, ?_, hb⟩
  · show d.steps + 1 = _
    rw [h.st]; omega
  · show (if d.armed then d.left - 1 else d.left) = _
    rw [h.ar, h.lf, if_pos rfl]; omega
  · show ([] : List (Nat × List Nat)).length ≤ _
    simp
theorem ArD.none (h : ArD W.heap.size W wr n k L d) (hk : n ≤ k) (hD : Dk W.heap.size w' L' d) (hb : Below W.heap.size W w') : ArD W.heap.size W w' n (k + 1) L' d :=
  ⟨hD, h.dn, h.ar, by rw [h.st]; omega, by rw [h.lf]; omega, by have := h.ql; omega, hb⟩
theorem ArD.later (h : ArD W.heap.size W wr n k L d) (hb : Below wr.heap.size wr w') : ArD W.heap.size W w' n k L d :=
  ⟨h.dk.later hb, h.dn, h.ar, h.st, h.lf, h.ql, h.bl.trans (hb.mono h.bl.size)⟩
theorem ArD.nums (h : ArD W.heap.size W wr n k L d) (hn : n < 50) : 0 ≤ d.left ∧ d.steps < 1000000 := by
  rw [h.lf, h.st]; omega
end
set_option maxRecDepth 100000 in
set_option maxHeartbeats 4000000 in
theorem diskArmed_walk (x : Int) (a : Option Addr) (bn cap : Nat) (bs : List Bool) (W : World) (_ : (Lit.int .i64 x).wf = true) (hbs : IsBools W a bn bs) :
    Calls Try.prog 5 #[.int .i64 x, .slice a bn cap] W fun e w' => e = .returned (.bool true) ∧ Below W.heap.size W w' := by
  obtain ⟨n, hn, hx⟩ := cut50 x
  obtain ⟨h1, h2, h3⟩ := hbs
  have HLen := Lib.hid h1
  have HBs := Lib.hid h3
  clear h1 h3
  go_enter Try.func5, Try.ntmps5
  go_wp2_with fail
  refine (awake_any _).mono ?_
  rintro e w1 ⟨rfl, hb1⟩
  have HB1 := Lib.hid hb1
  clear hb1
  go_wp2_with fail
  refine (new_any 60 w1 (by decide) (by decide)).mono ?_
  rintro e w2 ⟨L, rfl, hD, hb⟩
  have HD := Lib.hid (hD.deeper HB1.out.size)
  have HB := Lib.hid (HB1.out.trans (hb.mono HB1.out.size))
  clear hD hb HB1
  go_wp2_with fail
  refine (arm_yes (n : Int) (by omega) (by omega) HD.out rfl).mono ?_
  intro e w3 hO
  obtain ⟨rfl, L3, e3, hD3, hb3⟩ := hO.use HD.out HB.out (Nat.le_refl _) (Nat.le_refl _)
  have HSt : Hid (ArR W n L.bd (.int .i64 0) undef w3) := ⟨0, by omega, rfl, L3, _, e3, hD3, rfl, rfl, by simp [armD, newD], by simp [armD], by simp [armD, newD], hb3⟩
  clear hO hD3 hb3 HD HB e3 hx
  generalize L.bd = bd at *
  go_wp2_with fail
  go_loopw [7, 6] (fun i e wr => ArR W n bd i e wr) (fun i _ _ => n + 3 - (intOf i).toNat)
  case atStart => obtain ⟨k, h1, h2, h3⟩ := HSt.out; exact ⟨k, h1, h2, h3⟩
  case round =>
    clear HSt
    obtain ⟨k, hk, rfl, L5, d, hbd, hA⟩ := hrel
    have HBd := Lib.hid hbd
    have HA := Lib.hid hA
    clear hbd hA
    by_cases hlt : k < n + 3
    · have k0 : (0 : Int) ≤ (k : Int) := by omega
      have kl : (k : Int) < (n : Int) + 3 := by omega
      have hkc : k < bs.length → ∃ kb ko, a = some ⟨kb, ko, none⟩ ∧ wr.cell? ⟨kb, ko + k, none⟩ = some (.bool (bs.getD k false)) := fun hkk => by
        obtain ⟨kb, ko, ha, hc⟩ := (HBs.out.below HA.out.bl) (fun e => by rw [e] at hkk; cases hkk)
        exact ⟨kb, ko, ha, hc k hkk⟩
      have HNum := Lib.hid (HA.out.nums hn)
      by_cases hkn : k < n
      · have kn1 : (k : Int) < (n : Int) := by omega
        by_cases hkk : k < bn
        · cases hbt : bs.getD k false with
          | true =>
            obtain ⟨kb, ko, ha, hkd⟩ := hkc (by rw [← HLen.out]; exact hkk)
            clear hkc
            subst ha
            rw [hbt] at hkd
            have kb1 : (k : Int) < (bn : Int) := by omega
            have HC := Lib.hid (bar_yes HA.out.dk (HA.out.alive hkn) HNum.out.1 HNum.out.2)
            rw [HBd.out] at HC
            clear hbt
            go_wp2_with fail
            clear hkd
            refine HC.out.mono ?_
            intro e w5 hO
            obtain ⟨rfl, L6, e6, hD6, hb6⟩ := hO.use HA.out.dk HA.out.bl (Nat.le_refl _) (Nat.le_refl _)
            have HA6 := Lib.hid (HA.out.bar hkn hD6 hb6)
            have HBd6 : Hid (L6.bd = bd) := e6.trans HBd.out
            clear hO hD6 hb6 e6 HC HNum
            clear HA HBd
            go_wp2_with fail
            go_roundw
            case rel => exact ⟨k + 1, by omega, by simp, L6, _, HBd6.out, HA6.out⟩
            case measure => simp [intOf]; omega
          | false =>
            obtain ⟨kb, ko, ha, hkd⟩ := hkc (by rw [← HLen.out]; exact hkk)
            clear hkc
            subst ha
            rw [hbt] at hkd
            have kb1 : (k : Int) < (bn : Int) := by omega
            clear hbt
            go_wp2_with fail
            clear hkd
            refine (bytes_any _ 1 1 [9] _ rfl (by decide) (bytes_one wr 9 (by decide))).mono ?_
            rintro e w4 ⟨g1, rfl, hk1, hg1, hb4⟩
            have hs1 : Below wr.heap.size wr w4 := ((Below.refl _ _).alloc (Nat.le_refl _) _).trans (hb4.mono (by simp))
            have HA4 := Lib.hid (HA.out.later hs1)
            have HC := Lib.hid (write_yes k g1 64 (byt [9]) (by rw [HA4.out.dn]; omega) (HA4.out.alive hkn) HNum.out.1 HNum.out.2 (by have := HA4.out.ql; omega) hk1 HA4.out.dk)
            rw [HBd.out] at HC
            clear hk1 hg1 hb4 hs1
            go_wp2_with fail
            refine HC.out.mono ?_
            intro e w5 hO
            obtain ⟨rfl, L6, e6, hD6, hb6⟩ := hO.use HA4.out.dk HA4.out.bl (Nat.le_refl _) (Nat.le_refl _)
            have HA6 := Lib.hid (HA4.out.put hkn hD6 hb6)
            have HBd6 : Hid (L6.bd = bd) := e6.trans HBd.out
            clear hO hD6 hb6 e6 HC HNum HA4
            clear HA HBd
            go_wp2_with fail
            go_roundw
            case rel => exact ⟨k + 1, by omega, by simp, L6, _, HBd6.out, HA6.out⟩
            case measure => simp [intOf]; omega
        · clear hkc
          have kb1 : ¬ (k : Int) < (bn : Int) := by omega
          go_wp2_with fail
          refine (bytes_any _ 1 1 [9] _ rfl (by decide) (bytes_one wr 9 (by decide))).mono ?_
          rintro e w4 ⟨g1, rfl, hk1, hg1, hb4⟩
          have hs1 : Below wr.heap.size wr w4 := ((Below.refl _ _).alloc (Nat.le_refl _) _).trans (hb4.mono (by simp))
          have HA4 := Lib.hid (HA.out.later hs1)
          have HC := Lib.hid (write_yes k g1 64 (byt [9]) (by rw [HA4.out.dn]; omega) (HA4.out.alive hkn) HNum.out.1 HNum.out.2 (by have := HA4.out.ql; omega) hk1 HA4.out.dk)
          rw [HBd.out] at HC
          clear hk1 hg1 hb4 hs1
          go_wp2_with fail
          refine HC.out.mono ?_
          intro e w5 hO
          obtain ⟨rfl, L6, e6, hD6, hb6⟩ := hO.use HA4.out.dk HA4.out.bl (Nat.le_refl _) (Nat.le_refl _)
          have HA6 := Lib.hid (HA4.out.put hkn hD6 hb6)
          have HBd6 : Hid (L6.bd = bd) := e6.trans HBd.out
          clear hO hD6 hb6 e6 HC HNum HA4
          clear HA HBd
          go_wp2_with fail
          go_roundw
          case rel => exact ⟨k + 1, by omega, by simp, L6, _, HBd6.out, HA6.out⟩
          case measure => simp [intOf]; omega
      · have kn1 : ¬ (k : Int) < (n : Int) := by omega
        by_cases hkk : k < bn
        · cases hbt : bs.getD k false with
          | true =>
            obtain ⟨kb, ko, ha, hkd⟩ := hkc (by rw [← HLen.out]; exact hkk)
            clear hkc
            subst ha
            rw [hbt] at hkd
            have kb1 : (k : Int) < (bn : Int) := by omega
            have HC := Lib.hid (bar_dead HA.out.dk (HA.out.dead (by omega)))
            rw [HBd.out] at HC
            clear hbt
            go_wp2_with fail
            clear hkd
            refine HC.out.mono ?_
            intro e w5 hO
            obtain ⟨rfl, L6, e6, hD6, hb6⟩ := hO.use HA.out.dk HA.out.bl (Nat.le_refl _) (Nat.le_refl _)
            have HA6 := Lib.hid (HA.out.none (by omega) hD6 hb6)
            have HBd6 : Hid (L6.bd = bd) := e6.trans HBd.out
            clear hO hD6 hb6 e6 HC HNum
            clear HA HBd
            go_wp2_with fail
            go_roundw
            case rel => exact ⟨k + 1, by omega, by simp, L6, _, HBd6.out, HA6.out⟩
            case measure => simp [intOf]; omega
          | false =>
            obtain ⟨kb, ko, ha, hkd⟩ := hkc (by rw [← HLen.out]; exact hkk)
            clear hkc
            subst ha
            rw [hbt] at hkd
            have kb1 : (k : Int) < (bn : Int) := by omega
            clear hbt
            go_wp2_with fail
            clear hkd
            refine (bytes_any _ 1 1 [9] _ rfl (by decide) (bytes_one wr 9 (by decide))).mono ?_
            rintro e w4 ⟨g1, rfl, hk1, hg1, hb4⟩
            have hs1 : Below wr.heap.size wr w4 := ((Below.refl _ _).alloc (Nat.le_refl _) _).trans (hb4.mono (by simp))
            have HA4 := Lib.hid (HA.out.later hs1)
            have HC := Lib.hid (write_dead k (some ⟨g1, 0, none⟩) 64 (by rw [HA4.out.dn]; omega) (HA4.out.dead (by omega)) HA4.out.dk)
            rw [HBd.out] at HC
            clear hk1 hg1 hb4 hs1
            go_wp2_with fail
            refine HC.out.mono ?_
            intro e w5 hO
            obtain ⟨rfl, L6, e6, hD6, hb6⟩ := hO.use HA4.out.dk HA4.out.bl (Nat.le_refl _) (Nat.le_refl _)
            have HA6 := Lib.hid (HA4.out.none (by omega) hD6 hb6)
            have HBd6 : Hid (L6.bd = bd) := e6.trans HBd.out
            clear hO hD6 hb6 e6 HC HNum HA4
            clear HA HBd
            go_wp2_with fail
            go_roundw
            case rel => exact ⟨k + 1, by omega, by simp, L6, _, HBd6.out, HA6.out⟩
            case measure => simp [intOf]; omega
        · clear hkc
          have kb1 : ¬ (k : Int) < (bn : Int) := by omega
          go_wp2_with fail
          refine (bytes_any _ 1 1 [9] _ rfl (by decide) (bytes_one wr 9 (by decide))).mono ?_
          rintro e w4 ⟨g1, rfl, hk1, hg1, hb4⟩
          have hs1 : Below wr.heap.size wr w4 := ((Below.refl _ _).alloc (Nat.le_refl _) _).trans (hb4.mono (by simp))
          have HA4 := Lib.hid (HA.out.later hs1)
          have HC := Lib.hid (write_dead k (some ⟨g1, 0, none⟩) 64 (by rw [HA4.out.dn]; omega) (HA4.out.dead (by omega)) HA4.out.dk)
          rw [HBd.out] at HC
          clear hk1 hg1 hb4 hs1
          go_wp2_with fail
          refine HC.out.mono ?_
          intro e w5 hO
          obtain ⟨rfl, L6, e6, hD6, hb6⟩ := hO.use HA4.out.dk HA4.out.bl (Nat.le_refl _) (Nat.le_refl _)
          have HA6 := Lib.hid (HA4.out.none (by omega) hD6 hb6)
          have HBd6 : Hid (L6.bd = bd) := e6.trans HBd.out
          clear hO hD6 hb6 e6 HC HNum HA4
          clear HA HBd
          go_wp2_with fail
          go_roundw
          case rel => exact ⟨k + 1, by omega, by simp, L6, _, HBd6.out, HA6.out⟩
          case measure => simp [intOf]; omega
    · have hke : k = n + 3 := by omega
      have kl : ¬ (k : Int) < (n : Int) + 3 := by omega
      have HDd := Lib.hid (HA.out.dead (by omega))
      have HRd := Lib.hid (read_yes 59 (by rw [HA.out.dn]; decide) HA.out.dk)
      rw [HBd.out] at HRd
      go_wp2_with fail
      refine HRd.out.mono ?_
      rintro e w6 ⟨g, rfl, hr, hg, hb⟩
      have HA6 := Lib.hid (HA.out.later hb)
      have HSp := Lib.hid (steps_any HA6.out.dk)
      rw [HBd.out, HA6.out.st, Nat.min_eq_right (by omega)] at HSp
      have HAr := Lib.hid (arm_dead 5 (by decide) HA6.out.dk HDd.out)
      rw [HBd.out] at HAr
      clear hr hg hb HRd
      go_wp2_with fail
      refine HSp.out.mono ?_
      rintro e w6 ⟨rfl, rfl⟩
      go_wp2_with fail
      refine HAr.out.mono ?_
      intro e w7 hO
      obtain ⟨rfl, L7, e7, hD7, hb7⟩ := hO.use HA6.out.dk HA6.out.bl (Nat.le_refl _) (Nat.le_refl _)
      have HD7 := Lib.hid hD7
      have HB7 := Lib.hid hb7
      have HAl := Lib.hid (arm_low (-1) (by decide) HD7.out)
      rw [e7, HBd.out] at HAl
      clear hO hD7 hb7 e7 HSp HAr
      go_wp2_with fail
      refine HAl.out.mono ?_
      intro e w8 hO
      obtain ⟨rfl, L8, e8, hD8, hb8⟩ := hO.use HD7.out HB7.out (Nat.le_refl _) (Nat.le_refl _)
      have HB8 := Lib.hid hb8
      clear hO hD8 hb8 e8 HAl
      go_wp2
      go_ret
      exact ⟨rfl, HB8.out⟩
end Go.Proofs.Ytefphnmabbfbjaa
