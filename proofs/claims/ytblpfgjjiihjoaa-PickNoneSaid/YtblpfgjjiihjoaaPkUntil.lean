/-
  The walk of PickUntil.
-/
import Derived.Test.YtblpfgjjiihjoaaPkAwake
namespace Go.Proofs.Ytblpfgjjiihjoaa
open Go.RowKit

section
variable {w w' : World} {a : Option Addr} {l : List Cd} {n cap : Nat}
theorem ordC_mem (l : List Cd) (c : Cd) : c ∈ ordC l ↔ c ∈ l := by
  have h1 : ordC l = (ordR (rks l)).map Rk.c := by rw [ordR_map, rks_map]
  have h2 := rks_map l
  rw [h1]
  conv => rhs; rw [← h2]
  simp only [List.mem_map]
  constructor
  · rintro ⟨y, hy, e⟩; exact ⟨y, (ordR_mem _ _).1 hy, e⟩
  · rintro ⟨y, hy, e⟩; exact ⟨y, (ordR_mem _ _).2 hy, e⟩
theorem FitL.take (h : FitL l) (k : Nat) : FitL (l.take k) := fun c hc => h c (List.mem_of_mem_take hc)
theorem FitL.ord (h : FitL l) : FitL (ordC l) := fun c hc => h c ((ordC_mem _ _).1 hc)
theorem fit_nil : FitL [] := fun c hc => by cases hc
theorem BestIs.fit {k : Int} {L : List Cd} {z : Int} (h : BestIs l k L z) (hf : FitL l) : FitL L ∧ L.length ≤ l.length := by
  rcases h with ⟨_, rfl, _⟩ | ⟨_, _, rfl, _⟩
  · exact ⟨fit_nil, Nat.zero_le _⟩
  · exact ⟨hf.ord.take _, by rw [List.length_take, ordC_length]; omega⟩
theorem BestIs.fun_ {k : Int} {L M : List Cd} {z y : Int} (h : BestIs l k L z) (h' : BestIs l k M y) : L = M ∧ z = y := by
  rcases h with ⟨q, rfl, rfl⟩ | ⟨q1, q2, rfl, rfl⟩
  · rcases h' with ⟨q', rfl, rfl⟩ | ⟨p1, p2, rfl, rfl⟩
    · exact ⟨rfl, rfl⟩
    · rcases q with q | q
      · exact absurd p1 q
      · omega
  · rcases h' with ⟨q', rfl, rfl⟩ | ⟨p1, p2, rfl, rfl⟩
    · rcases q' with q | q
      · exact absurd q1 q
      · omega
    · exact ⟨rfl, rfl⟩
theorem UntilIs.fit {r : Int} {L : List Cd} {z : Int} (h : UntilIs l r L z) (hf : FitL l) : FitL L ∧ L.length ≤ l.length := by
  rcases h with ⟨_, rfl, _⟩ | ⟨_, _, ⟨k, rfl, _⟩, _⟩
  · exact ⟨fit_nil, Nat.zero_le _⟩
  · exact ⟨hf.ord.take _, by rw [List.length_take, ordC_length]; omega⟩
theorem UntilIs.fun_ {r : Int} {L M : List Cd} {z y : Int} (h : UntilIs l r L z) (h' : UntilIs l r M y) : L = M ∧ z = y := by
  rcases h with ⟨q, rfl, rfl⟩ | ⟨q1, q2, ⟨k, rfl, k1, k2, k3⟩, rfl⟩
  · rcases h' with ⟨q', rfl, rfl⟩ | ⟨p1, p2, ⟨k, rfl, _⟩, rfl⟩
    · exact ⟨rfl, rfl⟩
    · rcases q with q | q
      · exact absurd p1 q
      · omega
  · rcases h' with ⟨q', rfl, rfl⟩ | ⟨p1, p2, ⟨j, rfl, j1, j2, j3⟩, rfl⟩
    · rcases q' with q | q
      · exact absurd q1 q
      · omega
    · have : k = j := by
        rcases Nat.lt_trichotomy k j with q | q | q
        · have h1 := j2 k q
          have h2 := k3 (by omega)
          omega
        · exact q
        · have h1 := k2 j q
          have h2 := j3 (by omega)
          omega
      subst this
      exact ⟨rfl, rfl⟩
set_option maxHeartbeats 4000000 in
theorem pickUntil_walk (a : Option Addr) (n cap : Nat) (z : List Int) (r : Int) (W : World) (hq : Quads W a n z) (hnil : a = none → n = 0 ∧ cap = 0) (hr : (Lit.int .i64 r).wf = true) :
    Calls Try.prog 4 #[.slice a n cap, .int .i64 r] W fun e w' => e = .returned (.bool true) ∧ Below W.heap.size W w' := by
  obtain ⟨l, hC, hn, hf, hmx⟩ := quads_list hq
  have HC := Lib.hid hC
  have HN := Lib.hid hn
  have HF := Lib.hid hf
  have HR := Lib.hid (wf_bounds hr)
  have HNil := Lib.hid hnil
  clear hq hC hn hf hr hnil
  go_enter Try.func4, Try.ntmps4
  go_wp2_with fail
  refine (awake_any _).mono ?_
  rintro e w1 ⟨rfl, hb1⟩
  have HB1 := Lib.hid hb1
  clear hb1
  by_cases h600 : n ≤ 600
  · have t0 : ¬ (600 : Int) < (n : Int) := by omega
    have HC1 := Lib.hid ((HC.out.below HB1.out).below (sup_pk w1 (.cells #[] CD)))
    have HAN : Hid (a = none → l = [] ∧ cap = 0) := fun h => ⟨List.eq_nil_of_length_eq_zero (by rw [← HN.out]; exact (HNil.out h).1), (HNil.out h).2⟩
    go_wp2_with (at_builtin; refine wp_append_cds rfl (.tmp 18) (.tmp 19) SC rfl w1.heap.size CD Try.underlying22 info_cd _ 0 [] rfl (World.ownsRow_lit w1 #[] 0 (Nat.le_refl _) (by unfold maxLen; omega) rfl) a n cap l rfl HN.out HC1.out HAN.out (by omega) (by simp) ?_; intro a2 cp2 w2 hown hgrow; rw [Nat.zero_add, List.nil_append] at hown; rw [Nat.zero_add]; have HO2 := Lib.hid hown; have HB2 := Lib.hid ((sup_pk w1 (.cells #[] CD)).grown hgrow (by simp) (fun q hq => by cases hq; exact Nat.le_refl _)); clear hown hgrow)
    refine (uptil_any r (Cds.own HO2.out) HN.out hmx).mono ?_
    rintro e w3 ⟨x, m, cp, L, zz, hI, rfl, hm, hO, hb3⟩
    have HB3 := Lib.hid (HB1.out.trans ((HB2.out.trans (hb3.mono HB2.out.size)).mono HB1.out.size))
    have HI := Lib.hid hI
    have HL := Lib.hid (Cds.own hO)
    have HM := Lib.hid hm
    clear hI hm hO hb3 HB2 HC1 HO2
    go_wp2_with fail
    refine (ref_any (HC.out.below HB3.out) HN.out (by omega)).mono ?_
    rintro e w4 ⟨x4, cp4, rfl, hO4, hb4⟩
    have HL4 := Lib.hid (Cds.own hO4)
    have HLL := Lib.hid (HL.out.below hb4)
    have HB4 := Lib.hid (HB3.out.trans (hb4.mono HB3.out.size))
    clear hO4 hb4 HL HB3
    go_wp2_with fail
    refine (refUntil_any r HL4.out HN.out hmx HR.out.1 HR.out.2).mono ?_
    rintro e w5 ⟨x5, m5, cp5, L5, z5, hI5, rfl, hm5, hL5, hb5⟩
    obtain ⟨rfl, rfl⟩ := HI.out.fun_ hI5
    have hfit := HI.out.fit HF.out
    have HF2 := Lib.hid hfit.1
    have hle : m ≤ 1000 := by rw [HM.out]; have := hfit.2; have := HN.out; omega
    have hle5 : m5 ≤ 1000 := by rw [hm5]; have := hfit.2; have := HN.out; omega
    have HSm := Lib.hid (same_any (cap := cp) (cb := cp5) (HLL.out.below hb5) HM.out hle hL5 hm5 hle5 HF2.out HF2.out)
    have HB5 := Lib.hid (HB4.out.trans (hb5.mono HB4.out.size))
    clear hI5 hm5 hL5 hb5 hfit HB4 HLL HL4
    go_wp2_with fail
    refine HSm.out.mono ?_
    rintro e w6 ⟨rr, hrr, rfl, hb6⟩
    have hrt : rr = true := hrr.2 rfl
    subst hrt
    have HB6 := Lib.hid (HB5.out.trans (hb6.mono HB5.out.size))
    clear hrr hb6 HSm HB5
    go_wp2
    go_ret
    exact ⟨rfl, HB6.out⟩
  · have t0 : (600 : Int) < (n : Int) := by omega
    go_wp2_with fail
    refine (awake_any _).mono ?_
    rintro e w2 ⟨rfl, hb2⟩
    have HB2 := Lib.hid (HB1.out.trans (hb2.mono HB1.out.size))
    clear hb2
    go_wp2
    go_ret
    exact ⟨rfl, HB2.out⟩
end
end Go.Proofs.Ytblpfgjjiihjoaa
