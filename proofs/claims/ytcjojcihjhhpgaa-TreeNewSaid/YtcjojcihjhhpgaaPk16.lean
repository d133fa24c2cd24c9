/-
  The statement TreeNew.
-/
import Derived.Test.YtcjojcihjhhpgaaPk14
import Derived.Test.YtcjojcihjhhpgaaPk13
import Derived.Test.YtcjojcihjhhpgaaPk15
namespace Go.Proofs.Ytcjojcihjhhpgaa
open Go.RowKit

def no0 : Nat → Prop := fun _ => False
def NwR1 (w : World) (bt n : Nat) (v : Value) (wr : World) : Prop := ∃ (m cnt : Nat) (T : Tr), v = .int .i64 (m : Int) ∧ 3 ≤ m ∧ m ≤ n + 1 ∧ cnt ≤ m ∧ Lx w wr cnt T bt no0 ∧ RT T n (KN m) L1 (FN m)
def NwR2 (w : World) (bt n : Nat) (v : Value) (wr : World) : Prop := ∃ (i cnt : Nat) (T : Tr), v = .int .i64 (i : Int) ∧ i ≤ 40 ∧ cnt ≤ 100 + 5 * i ∧ Lx w wr cnt T bt no0 ∧ RT T n (KN (n + 1)) L1 (FN (n + 1))
set_option maxRecDepth 100000 in
set_option maxHeartbeats 4000000 in
theorem treeNew_walk (a : Int) (ga : Option Addr) (len cap : Nat) (L : List Int) (w : World) (_ : (Lit.int .i64 a).wf = true) (hp : IntsIn w ga len cap L) :
    Calls Try.prog 8 #[.int .i64 a, .slice ga len cap] w fun e w' => e = .returned (.bool true) ∧ Below w.heap.size w w' := by
  obtain ⟨q, hq, hqe⟩ := cut_mod a 59 (by decide)
  have hqe : wrap64 ((IntKind.u64.wrap a).tmod 60) = (q : Int) := hqe
  obtain ⟨n, hn⟩ : ∃ n : Nat, n = q + 4 := ⟨_, rfl⟩
  have hqn : (q : Int) + 4 = (n : Int) := by omega
  have n4 : (4 : Int) ≤ (n : Int) := by omega
  have n64 : (n : Int) < 64 := by omega
  have HP := Lib.hid hp
  have HLn := Lib.hid hp.leq
  have HLm := Lib.hid hp.lenm
  clear hn hq hp
  go_enter Try.func8, Try.ntmps8
  go_wp2_with fail
  refine (awake_any w).mono ?_
  rintro e w1 ⟨rfl, hb1⟩
  have HB1 := Lib.hid hb1
  clear hb1
  go_wp2_with fail
  refine (new_lx HB1.out n4 (by omega)).mono ?_
  rintro e w2 ⟨bt, rfl, h2, -⟩
  have HS2 : Hid (NwR1 w bt n (.int .i64 3) w2) := ⟨3, 0, _, rfl, Nat.le_refl _, by omega, by omega, h2, new_start n⟩
  clear h2
  go_wp2_with fail
  go_loopw [8] (fun v wr => NwR1 w bt n v wr) (fun v _ => n + 1 - (intOf v).toNat)
  case atStart => exact HS2.out
  case round =>
    clear HS2
    obtain ⟨m, cnt, T, rfl, h3, hm, hc, hx, hr⟩ := hrel
    have HX := Lib.hid hx
    have HR := Lib.hid hr
    have HC : Hid (cnt ≤ m ∧ 3 ≤ m ∧ m ≤ n + 1) := ⟨hc, h3, hm⟩
    clear hx hr hc
    by_cases hle : m ≤ n
    · have m1 : (m : Int) ≤ (n : Int) := by omega
      have m0 : (0 : Int) ≤ (m : Int) := by omega
      obtain ⟨T', e1, e2⟩ := new_step HR.out h3 hle (by omega)
      have HCr := Lib.hid e1
      have HR2 := Lib.hid e2
      clear e1 e2
      go_wp2_with fail
      refine (name_new m (by omega) wr).mono ?_
      rintro e w4 ⟨rfl, hb4⟩
      have HX4 := Lib.hid (HX.out.quiet hb4)
      clear hb4
      go_wp2_with fail
      refine (HX4.out.create (by have := HC.out; omega) HCr.out).mono ?_
      rintro e w5 ⟨rfl, hx5, -⟩
      have HX5 := Lib.hid hx5
      clear hx5
      go_wp2_with fail
      exact ⟨⟨m + 1, cnt + 1, T', by go_num, by omega, by omega, by have := HC.out; omega, HX5.out, HR2.out⟩, by simp [intOf]; omega⟩
    · obtain rfl : m = n + 1 := by have := HC.out; omega
      have m1 : ¬ (n : Int) + 1 ≤ (n : Int) := by omega
      have e1 : ((n + 1 : Nat) : Int) = (n : Int) + 1 := by omega
      rw [e1]
      have HS3 : Hid (NwR2 w bt n (.int .i64 0) wr) := ⟨0, cnt, T, rfl, by omega, by have := HC.out; omega, HX.out, HR.out⟩
      clear HX HR HC h3 hm hle
      go_wp2_with fail
      go_loopw [11] (fun v wr => NwR2 w bt n v wr) (fun v _ => 40 - (intOf v).toNat)
      case atStart => exact HS3.out
      case round =>
        clear HS3
        obtain ⟨i, cnt, T, rfl, hi, hc, hx, hr⟩ := hrel
        have HX := Lib.hid hx
        have HR := Lib.hid hr
        have HC : Hid (cnt ≤ 100 + 5 * i ∧ i ≤ 40) := ⟨hc, hi⟩
        clear hx hr hc
        by_cases hlt : i < len ∧ i < 40
        · obtain ⟨hl1, hl2⟩ := hlt
          have hne : L ≠ [] := fun e => by have := HLn.out; rw [e] at this; simp at this; omega
          obtain ⟨ba, oa, rfl, hcs⟩ := HP.out.ints hne
          have cJ := cell_later HX.out.b (hcs i (by have := HLn.out; omega))
          generalize L.getD i 0 = z at *
          obtain ⟨kk, hkk, hke⟩ : ∃ kk : Nat, kk ≤ n - 3 ∧ wrap64 ((IntKind.u64.wrap z).tmod ((n : Int) - 2)) = (kk : Int) := by
            obtain ⟨k, hk, e⟩ := cut_mod z (n - 3) (by omega)
            exact ⟨k, hk, by rw [← e]; congr 2; omega⟩
          have hwn : IntKind.u64.wrap ((n : Int) - 2) = (n : Int) - 2 := by rw [IntKind.wrap_u64]; omega
          have e9 : ((n : Int) - 2 == 0) = false := beq_eq_false_iff_ne.2 (by omega)
          obtain ⟨k, hk⟩ : ∃ k : Nat, k = kk + 3 := ⟨_, rfl⟩
          have hk3 : (kk : Int) + 3 = (k : Int) := by omega
          have HK : Hid (3 ≤ k ∧ k ≤ n ∧ k < 100) := ⟨by omega, by omega, by omega⟩
          obtain ⟨a0, T1, T2, T3, T4, a1, a2, a3, a4, a5⟩ := new_round HR.out HK.out.1 HK.out.2.1 (by omega)
          have HA := Lib.hid (And.intro a0 (And.intro a1 (And.intro a2 (And.intro a3 a4))))
          have HR4 := Lib.hid a5
          have hi1 : (i : Int) < (len : Int) := by omega
          have hi2 : (i : Int) < 40 := by omega
          have kk0 : (0 : Int) ≤ (kk : Int) := by omega
          have kk1 : (kk : Int) < 100 := by omega
          clear hcs hne a0 a1 a2 a3 a4 a5 hk hkk hl1 hl2
          go_wp2_with fail
          refine (HX.out.mkdir (s := ⟨#[47, 109, 111, 114, 101]⟩) (by have := HC.out; omega) HA.out.1).mono ?_
          rintro e w4 ⟨rfl, hx4, -⟩
          have HX4 := Lib.hid hx4
          clear hx4 HX cJ hke hwn e9 hk3
          go_wp2_with fail
          refine (name_new k HK.out.2.2 w4).mono ?_
          rintro e w5 ⟨rfl, hb5⟩
          have HX5 := Lib.hid (HX4.out.quiet hb5)
          clear hb5 HX4
          go_wp2_with fail
          refine (HX5.out.unlink HA.out.2.1).mono ?_
          rintro e w6 ⟨rfl, hx6, -⟩
          have HX6 := Lib.hid hx6
          clear hx6 HX5
          go_wp2_with fail
          refine (HX6.out.mkdir (s := ⟨#[47, 109, 111, 114, 101]⟩) (by have := HC.out; omega) HA.out.2.2.1).mono ?_
          rintro e w7 ⟨rfl, hx7, -⟩
          have HX7 := Lib.hid hx7
          clear hx7 HX6
          go_wp2_with fail
          refine (HX7.out.rmdir (s := ⟨#[47, 109, 111, 114, 101]⟩) HA.out.2.2.2.1).mono ?_
          rintro e w8 ⟨rfl, hx8, -⟩
          have HX8 := Lib.hid hx8
          clear hx8 HX7
          go_wp2_with fail
          refine (name_new k HK.out.2.2 w8).mono ?_
          rintro e w9 ⟨rfl, hb9⟩
          have HX9 := Lib.hid (HX8.out.quiet hb9)
          clear hb9 HX8
          go_wp2_with fail
          refine (HX9.out.create (by have := HC.out; omega) HA.out.2.2.2.2).mono ?_
          rintro e w10 ⟨rfl, hx10, -⟩
          have HX10 := Lib.hid hx10
          clear hx10 HX9
          go_wp2_with fail
          exact ⟨⟨i + 1, cnt + 1 + 1 + 1 + 1 + 1, T4, by go_num, by omega, by have := HC.out; omega, HX10.out, HR4.out⟩, by simp [intOf]; omega⟩
        · have hsp : ¬ (i : Int) < (len : Int) ∨ ((i : Int) < (len : Int) ∧ ¬ (i : Int) < 40) := by omega
          have HWk : Hid (∀ L, WalkL T L → (L.length : Int) = (n : Int) - 2) := fun L hL => new_walk HR.out (by omega) (by omega) hL
          clear hlt
          have HG : Hid (∀ (e : Ending) (w4 : World), WfO wr T e w4 → ∃ v c, e = .returned (.slice v (n - 2) c) ∧ Below wr.heap.size wr w4) := fun e w4 ⟨v, L, he, hL, ho, hb⟩ => by
            obtain ⟨a8, c8, rfl, -⟩ := own_slice ho
            have := HWk.out L hL
            exact ⟨a8, c8, by rw [he, show L.length = n - 2 by omega], hb⟩
          have e7 : ((n - 2 : Nat) : Int) = (n : Int) - 2 := by omega
          rcases hsp with h1 | ⟨h1, h2⟩
          · go_wp2_with fail
            refine HX.out.walk.mono ?_
            intro e w4 hw4
            obtain ⟨v, c, rfl, hb4⟩ := HG.out e w4 hw4
            have HB4 := Lib.hid (HX.out.quiet hb4).b
            clear hw4 hb4
            go_wp2_with fail
            go_ret
            exact ⟨rfl, HB4.out⟩
          · go_wp2_with fail
            refine HX.out.walk.mono ?_
            intro e w4 hw4
            obtain ⟨v, c, rfl, hb4⟩ := HG.out e w4 hw4
            have HB4 := Lib.hid (HX.out.quiet hb4).b
            clear hw4 hb4
            go_wp2_with fail
            go_ret
            exact ⟨rfl, HB4.out⟩
end Go.Proofs.Ytcjojcihjhhpgaa
