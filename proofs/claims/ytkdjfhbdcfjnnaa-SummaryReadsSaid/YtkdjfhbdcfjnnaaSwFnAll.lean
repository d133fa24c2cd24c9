/-
  The document's whole list of blocks of pointers, and one found in it: in numbers.
-/
import Derived.Test.YtkdjfhbdcfjnnaaSwFnBel
namespace Go.Proofs.Ytkdjfhbdcfjnnaa
open Go.RowKit

theorem below_all : ∀ lv : Nat, lv ≤ 3 → BelC lv
  | 0, _ => below_zero
  | lv + 1, h => below_succ lv (by omega) (below_all lv (by omega))
def allM : List Mt := belM 1 6 6 [] [] ++ belM 2 22 7 [] [] ++ belM 3 278 8 [] []
theorem allM_len : allM.length = 42 := by decide +kernel
theorem own_app {w w' : World} {l : List Mt} {cs : List Value} {base : Nat} {v : Value} (hm : MtsC w l cs) (ho : w.ownsRow base MET 6 v l.length cs) {w2 : World} (hg : w.grownBy w2 v.ownBlock) : MtsC w2 l cs := hm.imp fun _ _ hi => hi.grown hg ho (by decide)
set_option maxHeartbeats 2000000 in
theorem all_any (w : World) : Calls Try.prog 40 #[] w (BelO w allM) := by
  have H1 : Hid (∀ W, Calls Try.prog 45 #[.int .i64 1, .int .i64 6, .agg #[.int .i64 6, .slice none 0 0, .slice none 0 0]] W (BelO W (belM 1 6 6 [] []))) := fun W => below_all 1 (by decide) 6 6 [] [] none none 0 0 0 0 W rfl rfl (by decide) (by decide) (by decide) (by decide) (fun h => absurd rfl h) (fun h => absurd rfl h) (fun _ => ⟨rfl, rfl⟩) (fun _ => ⟨rfl, rfl⟩)
  have H2 : Hid (∀ W, Calls Try.prog 45 #[.int .i64 2, .int .i64 22, .agg #[.int .i64 7, .slice none 0 0, .slice none 0 0]] W (BelO W (belM 2 22 7 [] []))) := fun W => below_all 2 (by decide) 22 7 [] [] none none 0 0 0 0 W rfl rfl (by decide) (by decide) (by decide) (by decide) (fun h => absurd rfl h) (fun h => absurd rfl h) (fun _ => ⟨rfl, rfl⟩) (fun _ => ⟨rfl, rfl⟩)
  have H3 : Hid (∀ W, Calls Try.prog 45 #[.int .i64 3, .int .i64 278, .agg #[.int .i64 8, .slice none 0 0, .slice none 0 0]] W (BelO W (belM 3 278 8 [] []))) := fun W => below_all 3 (by decide) 278 8 [] [] none none 0 0 0 0 W rfl rfl (by decide) (by decide) (by decide) (by decide) (fun h => absurd rfl h) (fun h => absurd rfl h) (fun _ => ⟨rfl, rfl⟩) (fun _ => ⟨rfl, rfl⟩)
  have n1 : (belM 1 6 6 [] []).length = 1 := by decide +kernel
  have n2 : (belM 2 22 7 [] []).length = 17 := by decide +kernel
  have n3 : (belM 3 278 8 [] []).length = 24 := by decide +kernel
  have HA : Hid (allM = belM 1 6 6 [] [] ++ belM 2 22 7 [] [] ++ belM 3 278 8 [] []) := rfl
  rw [HA.out]
  obtain ⟨z, hz, hz6⟩ := info_met
  have HZ := Lib.hid hz
  generalize belM 1 6 6 [] [] = l1 at *
  generalize belM 2 22 7 [] [] = l2 at *
  generalize belM 3 278 8 [] [] = l3 at *
  have N1 := Lib.hid n1
  have N2 := Lib.hid n2
  have N3 := Lib.hid n3
  clear HA hz n1 n2 n3
  go_enter Try.func40, Try.ntmps40
  go_wp2_with fail
  refine (H1.out _).mono ?_
  rintro e w1 ⟨v1, cs1, rfl, ho1, hm1, hb1⟩
  have HO1 := Lib.hid ho1
  have HM1 := Lib.hid hm1
  have HB1 := Lib.hid hb1
  clear ho1 hm1 hb1 H1
  go_wp2_with fail
  refine (H2.out _).mono ?_
  rintro e w2 ⟨v2, cs2, rfl, ho2, hm2, hb2⟩
  obtain ⟨a2, c2, rfl, _⟩ := own_slice ho2
  have HO1' := Lib.hid (own_later HO1.out hb2)
  have HM1' := Lib.hid (HM1.out.later hb2)
  have HO2 := Lib.hid ho2
  have HM2 := Lib.hid hm2
  have HB2 := Lib.hid (HB1.out.trans (hb2.mono HB1.out.size))
  clear ho2 hm2 hb2 H2 HO1 HM1 HB1
  go_wp2_with (refine wp_append_row rfl (.tmp 4) (.tmp 6) 74 rfl w.heap.size MET z 6 80 Try.underlying74 HZ.out hz6 (by decide) (by decide) v1 _ cs1 rfl HO1'.out a2 _ c2 cs2 rfl HM2.out.len (Rds.own HO2.out).add HM2.out.one (own_nil HO2.out) (by rw [N1.out, N2.out]; decide) HB2.out.size ?_; intro a5 c5 w5 ho5 hg5)
  have HO5 := Lib.hid ho5
  have HM5 := Lib.hid ((own_app (w' := w5) HM1'.out HO1'.out hg5).append (HM2.out.imp fun _ _ hi => hi.grown hg5 HO1'.out (by decide)))
  have HB5 := Lib.hid (HB2.out.grown hg5 HB2.out.size (fun q hq => (HO1'.out.lt q hq).1))
  clear ho5 hg5 HO1' HM1' HO2 HM2 HB2
  go_wp2_with fail
  refine (H3.out _).mono ?_
  rintro e w6 ⟨v6, cs6, rfl, ho6, hm6, hb6⟩
  obtain ⟨a6, c6, rfl, _⟩ := own_slice ho6
  have HO5' := Lib.hid (own_later HO5.out hb6)
  have HM5' := Lib.hid (HM5.out.later hb6)
  have HO6 := Lib.hid ho6
  have HM6 := Lib.hid hm6
  have HB6 := Lib.hid (HB5.out.trans (hb6.mono HB5.out.size))
  clear ho6 hm6 hb6 H3 HO5 HM5 HB5
  go_wp2_with (refine wp_append_row rfl (.tmp 8) (.tmp 10) 74 rfl w.heap.size MET z 6 80 Try.underlying74 HZ.out hz6 (by decide) (by decide) (.slice a5 (l1.length + l2.length) c5) _ (cs1 ++ cs2) rfl HO5'.out a6 _ c6 cs6 rfl HM6.out.len (Rds.own HO6.out).add HM6.out.one (own_nil HO6.out) (by rw [N1.out, N2.out, N3.out]; decide) HB6.out.size ?_; intro a7 c7 w7 ho7 hg7)
  have HO7 := Lib.hid ho7
  have HM7 := Lib.hid ((HM5'.out.imp fun _ _ hi => hi.grown hg7 HO5'.out (by decide)).append (HM6.out.imp fun _ _ hi => hi.grown hg7 HO5'.out (by decide)))
  have HB7 := Lib.hid (HB6.out.grown hg7 HB6.out.size (fun q hq => (HO5'.out.lt q hq).1))
  clear ho7 hg7 HO5' HM5' HO6 HM6 HB6
  go_wp2
  go_ret
  refine ⟨_, _, rfl, ?_, HM7.out, HB7.out⟩
  rw [List.length_append, List.length_append]
  exact HO7.out
/-- An entry at its place. -/
theorem MtsC.at_ {W : World} : ∀ {l : List Mt} {cs : List Value} (_ : MtsC W l cs) (i : Nat) (hi : i < l.length), ∃ c, mtC W l[i] c ∧ ∀ j u, c[j]? = some u → cs[i * 6 + j]? = some u
  | m :: l, _, h, 0, _ => by
    obtain ⟨c, r, rfl, hc, _⟩ := h
    exact ⟨c, hc, fun j u hj => by
      rw [Nat.zero_mul, Nat.zero_add, List.getElem?_append_left (List.getElem?_eq_some_iff.1 hj).1]; exact hj⟩
  | m :: l, _, h, i + 1, hi => by
    obtain ⟨c, r, rfl, hc, hr⟩ := h
    obtain ⟨c2, h1, h2⟩ := hr.at_ i (by simpa using hi)
    have hlen : c.length = 6 := by obtain ⟨_, _, _, _, rfl, _⟩ := hc; rfl
    refine ⟨c2, by simpa using h1, fun j u hj => ?_⟩
    rw [List.getElem?_append_right (by omega), show (i + 1) * 6 + j - c.length = i * 6 + j by omega]
    exact h2 j u hj
def findL (n : Int) : List Mt → Option Mt
  | [] => none
  | m :: l => if m.n = n then some m else if m.lv = 1 ∧ m.f ≤ n ∧ n < m.f + 16 ∧ n < 600 then some ⟨n, 0, n, m.r, m.ms ++ [m.n], m.ss ++ [n - m.f]⟩ else findL n l
def findM (n : Int) : Option Mt := if 0 ≤ n ∧ n < 6 then some ⟨n, 0, n, n, [], []⟩ else findL n allM
def wantM (n : Int) : Option Mt := if isB n = true then some ⟨n, lvOf n, fOf n, rPtr (fOf n), metasM (fOf n) (lvOf n), slotsM (fOf n) (lvOf n)⟩ else none
theorem find_in : (List.range 1400).all (fun i => decide (findM ((i : Int) - 700) = wantM ((i : Int) - 700))) = true := by decide +kernel
theorem allM_bd : allM.all (fun m => decide (-700 ≤ m.n ∧ m.n < 600 ∧ 0 ≤ m.f ∧ m.f < 600 ∧ 0 ≤ m.lv ∧ m.lv ≤ 3 ∧ 0 ≤ m.r ∧ m.r ≤ 8 ∧ m.ms.length ≤ 3 ∧ m.ss.length = m.ms.length)) = true := by decide +kernel
theorem findL_far {n : Int} (h : n < -700 ∨ 600 ≤ n) : ∀ (l : List Mt), (∀ m ∈ l, -700 ≤ m.n ∧ m.n < 600 ∧ 0 ≤ m.f) → findL n l = none
  | [], _ => rfl
  | m :: l, hl => by
    have := hl m List.mem_cons_self
    rw [findL, if_neg (by omega), if_neg (by omega)]
    exact findL_far h l (fun x hx => hl x (List.mem_cons_of_mem _ hx))
theorem isB_far {n : Int} (h : n < -700 ∨ 600 ≤ n) : isB n = false := by
  unfold isB
  rcases h with h | h
  · rw [if_neg (by omega)]
    simp only [startsB, Bool.or_eq_false_iff, decide_eq_false_iff_not]
    exact ⟨⟨by omega, by omega⟩, by omega⟩
  · rw [if_pos (by omega)]
    exact decide_eq_false (by omega)
theorem find_want (n : Int) : findM n = wantM n := by
  by_cases h : n < -700 ∨ 600 ≤ n
  · rw [wantM, isB_far h, findM, if_neg (by omega)]
    exact findL_far h allM (fun m hm => by
      have := List.all_eq_true.1 allM_bd m hm
      simp only [decide_eq_true_eq] at this
      omega)
  · have := List.all_eq_true.1 find_in (n + 700).toNat (List.mem_range.2 (by omega))
    rw [decide_eq_true_eq] at this
    rwa [show (((n + 700).toNat : Nat) : Int) - 700 = n by omega] at this
end Go.Proofs.Ytkdjfhbdcfjnnaa
