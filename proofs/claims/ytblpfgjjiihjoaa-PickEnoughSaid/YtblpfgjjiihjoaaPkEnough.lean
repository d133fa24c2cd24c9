/-
  The walk of PickEnough.
-/
import Derived.Test.YtblpfgjjiihjoaaPkUntil
namespace Go.Proofs.Ytblpfgjjiihjoaa
open Go.RowKit

section
variable {w w' : World} {a : Option Addr} {l : List Cd} {n cap : Nat}
def EnI (w : World) (x : Option Addr) (L : List Cd) (m : Nat) (v i : Value) (wr : World) : Prop :=
  ∃ p : Nat, p ≤ m ∧ i = .int .i64 p ∧ v = .int .i64 (roomC (L.take p)) ∧ CkR w x L wr
set_option maxRecDepth 100000 in
set_option maxHeartbeats 4000000 in
theorem pickEnough_walk (a : Option Addr) (n cap : Nat) (z : List Int) (r : Int) (W : World) (hq : Quads W a n z) (hnil : a = none → n = 0 ∧ cap = 0) (hr : (Lit.int .i64 r).wf = true) :
    Calls Try.prog 7 #[.slice a n cap, .int .i64 r] W fun e w' => e = .returned (.bool true) ∧ Below W.heap.size W w' := by
  obtain ⟨l, hC, hn, hf, hmx⟩ := quads_list hq
  have HC := Lib.hid hC
  have HN := Lib.hid hn
  have HF := Lib.hid hf
  have HR := Lib.hid (wf_bounds hr)
  have HNil := Lib.hid hnil
  clear hq hC hn hf hr hnil
  go_enter Try.func7, Try.ntmps7
  go_wp2_with fail
  refine (awake_any _).mono ?_
  rintro e w1 ⟨rfl, hb1⟩
  have HB1 := Lib.hid hb1
  clear hb1
  by_cases h600 : n ≤ 100
  · have t0 : ¬ (100 : Int) < (n : Int) := by omega
    have HC1 := Lib.hid ((HC.out.below HB1.out).below (sup_pk w1 (.cells #[] CD)))
    have HAN : Hid (a = none → l = [] ∧ cap = 0) := fun h => ⟨List.eq_nil_of_length_eq_zero (by rw [← HN.out]; exact (HNil.out h).1), (HNil.out h).2⟩
    go_wp2_with (at_builtin; refine wp_append_cds rfl (.tmp 21) (.tmp 22) SC rfl w1.heap.size CD Try.underlying22 info_cd _ 0 [] rfl (World.ownsRow_lit w1 #[] 0 (Nat.le_refl _) (by unfold maxLen; omega) rfl) a n cap l rfl HN.out HC1.out HAN.out (by omega) (by simp) ?_; intro a2 cp2 w2 hown hgrow; rw [Nat.zero_add, List.nil_append] at hown; rw [Nat.zero_add]; have HO2 := Lib.hid hown; have HB2 := Lib.hid ((sup_pk w1 (.cells #[] CD)).grown hgrow (by simp) (fun q hq => by cases hq; exact Nat.le_refl _)); clear hown hgrow)
    refine (uptil_any r (Cds.own HO2.out) HN.out hmx).mono ?_
    rintro e w3 ⟨x, m, cp, L, zz, hI, rfl, hm, hO, hb3⟩
    have HB3 := Lib.hid (HB1.out.trans ((HB2.out.trans (hb3.mono HB2.out.size)).mono HB1.out.size))
    have HI := Lib.hid hI
    have HL := Lib.hid (Cds.own hO)
    have HM := Lib.hid hm
    have hfit := hI.fit HF.out
    have HF2 := Lib.hid hfit.1
    have hle : m ≤ 100 := by rw [hm]; have := hfit.2; have := HN.out; omega
    clear hm hO hb3 HB2 HC1 HO2 hfit
    rcases hI with ⟨q, hnil, hzz⟩ | ⟨q1, q2, ⟨k, hLk, k1, k2, k3⟩, hzz⟩
    · subst hzz
      have hm0 : m = 0 := by rw [HM.out, hnil]; rfl
      subst hm0
      clear q hnil
      go_wp2_with fail
      go_ret
      exact ⟨rfl, HB3.out⟩
    · subst hzz
      have hmk : m = k := by
        rw [HM.out, hLk, List.length_take, ordC_length]; omega
      subst hmk
      have HLk := Lib.hid hLk
      have HGo : Hid (GoodL L) := by
        have := (ordC_good q1.2).take m
        rw [← hLk] at this
        exact this
      have HOk := Lib.hid q1
      have HTk : Hid (∀ j, j ≤ m → L.take j = (ordC l).take j) := fun j hj => by rw [hLk, List.take_take, Nat.min_eq_left hj]
      have HLs : Hid (∀ j, j < m → roomC (L.take j) < r) := fun j hj => by rw [HTk.out j (by omega)]; exact k2 j hj
      have HEnd : Hid (r ≤ roomC L ∨ m = n) := by
        rcases Nat.lt_or_ge m l.length with h | h
        · left; have := k3 h; rw [← hLk] at this; exact this
        · right; have := HN.out; omega
      clear q1 k1 k2 k3 hLk
      go_wp2_with fail
      refine (best_any (m : Int) (HC.out.below HB3.out) HN.out hmx).mono ?_
      rintro e w4 ⟨x4, m4, cp4, L4, z4, hI4, rfl, hm4, hO4, hb4⟩
      have hL4 : L4 = L ∧ z4 = 0 := by
        rcases hI4 with ⟨h | h, _⟩ | ⟨_, _, h, hz⟩
        · exact absurd HOk.out h
        · omega
        · exact ⟨by rw [h, HLk.out]; simp, hz⟩
      obtain ⟨rfl, rfl⟩ := hL4
      have HB4 := Lib.hid (HB3.out.trans (hb4.mono HB3.out.size))
      have HC4 := Lib.hid (Cds.own hO4)
      have HM4 := Lib.hid hm4
      have hm4m : m4 ≤ 100 := by rw [hm4, ← HM.out]; exact hle
      have HLL := Lib.hid (HL.out.below hb4)
      clear hI4 hm4 hO4 hb4 HL HB3
      go_wp2_with fail
      refine (ref_any HC4.out HM4.out (by omega)).mono ?_
      rintro e w5 ⟨x5, cp5, rfl, hO5, hb5⟩
      have HB5 := Lib.hid (HB4.out.trans (hb5.mono HB4.out.size))
      have HL5 := Lib.hid (HLL.out.below hb5)
      have HSm := Lib.hid (same_any (cap := cp) (cb := cp5) HL5.out HM.out (by omega) (Cds.own hO5) HM4.out (by omega) HF2.out HF2.out)
      clear hO5 hb5 HLL HB4
      go_wp2_with fail
      refine HSm.out.mono ?_
      rintro e w6 ⟨rr, hrr, rfl, hb6⟩
      have hrt : rr = true := hrr.2 rfl
      subst hrt
      have HB6 := Lib.hid (HB5.out.trans (hb6.mono HB5.out.size))
      have HS0 : Hid (CkR W x L4 w6) := ⟨HL5.out.below hb6, HB6.out⟩
      clear hrr hb6 HSm HB5 HL5
      go_wp2_with fail
      go_loopw [9, 51] (fun v i wr => EnI W x L4 m v i wr) (fun _ i _ => m - (intOf i).toNat)
      case atStart => exact ⟨0, Nat.zero_le _, rfl, rfl, HS0.out⟩
      case round =>
        clear HS0
        obtain ⟨p, hp, rfl, rfl, hR⟩ := hrel
        have HRr := Lib.hid hR
        clear hR
        by_cases hlt : p < m
        · have hpL : p < L4.length := by rw [← HM.out]; exact hlt
          have hbd := roomC_bd _ (HGo.out.take p)
          have hlp : (L4.take p).length ≤ 100 := by rw [List.length_take]; omega
          have hltr := HLs.out p hlt
          have hgc := HGo.out.at hpL
          have hsn := take_snocC L4 p hpL
          obtain ⟨b, o, rfl, q1, q2, q3, q4⟩ := HRr.out.list.at hpL
          obtain ⟨c, hc⟩ : ∃ c, L4.getD p c0 = c := ⟨_, rfl⟩
          rw [hc] at q1 q2 q3 q4 hgc hsn
          obtain ⟨M, hM⟩ : ∃ M, roomC (L4.take p) = M := ⟨_, rfl⟩
          have HS : Hid (roomC (L4.take (p + 1)) = M + (c.cap - c.live)) := by show _ = _; rw [hsn, roomC_snoc, hM]
          rw [hM] at hbd hltr
          simp only [hM]
          unfold GoodC at hgc
          have m1 : 0 ≤ M := hbd.1
          have m2 : M ≤ 32768 := by omega
          have m3 : 0 ≤ c.cap - c.live := by omega
          have m4 : c.cap - c.live ≤ 64 := by omega
          have m5 : ¬ r ≤ M := by omega
          have m6 : (r == 0) = false := by simp; omega
          have HR1 := Lib.hid (HRr.out.later (sup_pk wr (.cells #[.int .i64 c.seg, .int .i64 c.live, .int .i64 c.cap, .int .i64 c.age] CD)))
          clear HRr hpL hbd hlp hltr hgc hsn hc hM
          go_wp2_with fail
          go_roundw
          case rel => exact ⟨p + 1, by omega, by simp, by rw [HS.out], HR1.out⟩
          case measure => simp [intOf]; omega
        · have hpn : L4.take p = L4 := by rw [List.take_of_length_le]; have := HM.out; omega
          simp only [hpn]
          have HBl := Lib.hid HRr.out.below
          clear hpn HRr
          rcases HEnd.out with h | h
          · go_wp2
            go_ret
            exact ⟨rfl, HBl.out⟩
          · by_cases h2 : r ≤ roomC L4
            · go_wp2
              go_ret
              exact ⟨rfl, HBl.out⟩
            · have t2 : ((m : Int) == (n : Int)) = true := by simp; omega
              clear h
              go_wp2
              go_ret
              exact ⟨rfl, HBl.out⟩
  · have t0 : (100 : Int) < (n : Int) := by omega
    go_wp2_with fail
    refine (awake_any _).mono ?_
    rintro e w2 ⟨rfl, hb2⟩
    have HB2 := Lib.hid (HB1.out.trans (hb2.mono HB1.out.size))
    clear hb2
    go_wp2
    go_ret
    exact ⟨rfl, HB2.out⟩
end
end Go.Proofs.Ytblpfgjjiihjoaa
