/-
  The walk of PickBest.
-/
import Derived.Test.YtblpfgjjiihjoaaPkUntil
namespace Go.Proofs.Ytblpfgjjiihjoaa
open Go.RowKit

section
variable {w w' : World} {a : Option Addr} {l : List Cd} {n cap : Nat}
theorem own_put {base n : Nat} {e : TypeId} {size : Nat} {g cap : Nat} {xs : List Value} (h : w.ownsRow base e size (.slice (some ⟨g, 0, none⟩) n cap) n xs) (j : Nat) (u : Value) : (w.setCell ⟨g, j, none⟩ u).ownsRow base e size (.slice (some ⟨g, 0, none⟩) n cap) n (xs.set j u) := by
  obtain ⟨q1, ⟨q2, _⟩ | ⟨g', cap', cur, hv, a1, a2, a3, a4, a5, a6⟩⟩ := h
  · cases q2
  · cases hv
    refine ⟨by rw [List.length_set]; exact q1, .inr ⟨g, cap, cur.setIfInBounds j u, rfl, a1, ?_, a3, a4, by simpa using a5, ?_⟩⟩
    · exact Blo.put (show Blo w g e cur from a2) j u
    · rw [← a6, Array.toList_setIfInBounds]
      rw [List.take_set]
theorem flatC_set (l : List Cd) : ∀ (i : Nat) (s : Int), i < l.length → (flatC l).set (i * 4) s = flatC (l.set i ⟨s, (l.getD i c0).live, (l.getD i c0).cap, (l.getD i c0).age⟩) := by
  induction l with
  | nil => intro i s hi; simp at hi
  | cons a l ih =>
    intro i s hi
    have e : flatC (a :: l) = a.seg :: a.live :: a.cap :: a.age :: flatC l := rfl
    cases i with
    | zero => rw [e]; rfl
    | succ i =>
      have := ih i s (by simpa using hi)
      rw [e, show (i + 1) * 4 = i * 4 + 1 + 1 + 1 + 1 by omega]
      simp only [List.set_cons_succ, List.getD_cons_succ]
      rw [this]
      rfl
theorem run_make_cap (w : World) (n : Nat) (hn : n ≤ 600) :
    (Instr.makeSlice SC (.int .i64 0) (.int .i64 ((n : Int) + 9))).run Try.prog w = .ok (.slice (some ⟨w.heap.size, 0, none⟩) 0 (n + 9)) (w.alloc (.cells (madeCells #[.int .i64 0, .int .i64 0, .int .i64 0, .int .i64 0] ((n + 9) * 4)) CD)) := by
  obtain ⟨i, hi0, hz, hs1, hb1⟩ := info_parts info_cd
  have hr := run_make (P := Try.prog) w SC CD i _ Try.underlying22 hi0 hz .i64 .i64 0 ((n : Int) + 9) (by omega) (by omega) (by rw [hb1]; omega) (by omega)
  have e : ((n : Int) + 9).toNat = n + 9 := by omega
  rw [e] at hr
  rw [hr, hs1]
  rfl
theorem made_own (w : World) (n : Nat) (hn : n ≤ 600) : (w.alloc (.cells (madeCells #[.int .i64 0, .int .i64 0, .int .i64 0, .int .i64 0] ((n + 9) * 4)) CD)).ownsRow w.heap.size CD 4 (.slice (some ⟨w.heap.size, 0, none⟩) 0 (n + 9)) 0 (cellsI (flatC [])) :=
  ⟨rfl, .inr ⟨w.heap.size, n + 9, _, rfl, Nat.le_refl _, heap_alloc_new w _, by omega, by unfold maxLen; omega, by simp [madeCells], rfl⟩⟩
def TkI (w2 : World) (x : Option Addr) (m cp : Nat) (i : Value) (wr : World) : Prop :=
  ∃ (p : Nat) (M : List Cd), p ≤ m ∧ i = .int .i64 p ∧ M.length = m ∧ wr.ownsRow w2.heap.size CD 4 (.slice x m cp) m (cellsI (flatC M)) ∧ Below w2.heap.size w2 wr
theorem own_some {base n : Nat} {e : TypeId} {size : Nat} {x : Option Addr} {cap : Nat} {xs : List Value} (h : w.ownsRow base e size (.slice x n cap) n xs) (hn : 0 < n) : ∃ g, x = some ⟨g, 0, none⟩ ∧ base ≤ g ∧ ∀ j, w.frozen? ⟨g, j, none⟩ = false := by
  obtain ⟨q1, ⟨q2, q3⟩ | ⟨g', cap', cur, hv, a1, a2, _⟩⟩ := h
  · omega
  · cases hv
    exact ⟨g', rfl, a1, fun j => Blo.frozen (show Blo w g' e cur from a2) j⟩
theorem check_good {z : Int} {b : Bool} (h1 : CheckIs l z) (h2 : GoodIs l b) : (z == 0) = b := by
  rcases h1 with ⟨p, q, rfl⟩ | ⟨p, rfl⟩
  · have : b = true := h2.2 ⟨p, q⟩
    subst this; rfl
  · cases b with
    | false => rfl
    | true => exact absurd (h2.1 rfl) p
set_option maxRecDepth 100000 in
set_option maxHeartbeats 4000000 in
theorem pickBest_walk (a : Option Addr) (n cap : Nat) (z : List Int) (k : Int) (W : World) (hq : Quads W a n z) (hnil : a = none → n = 0 ∧ cap = 0) (hr : (Lit.int .i64 k).wf = true) :
    Calls Try.prog 3 #[.slice a n cap, .int .i64 k] W fun e w' => e = .returned (.bool true) ∧ Below W.heap.size W w' := by
  obtain ⟨l, hC, hn, hf, hmx⟩ := quads_list hq
  have HC := Lib.hid hC
  have HN := Lib.hid hn
  have HF := Lib.hid hf
  have HNil := Lib.hid hnil
  clear hq hC hn hf hr hnil
  go_enter Try.func3, Try.ntmps3
  go_wp2_with fail
  refine (awake_any _).mono ?_
  rintro e w1 ⟨rfl, hb1⟩
  have HB1 := Lib.hid hb1
  clear hb1
  by_cases h600 : n ≤ 600
  · have t0 : ¬ (600 : Int) < (n : Int) := by omega
    have hmk := run_make_cap w1 n h600
    have hbm := sup_pk w1 (.cells (madeCells #[.int .i64 0, .int .i64 0, .int .i64 0, .int .i64 0] ((n + 9) * 4)) CD)
    have HC1 := Lib.hid ((HC.out.below HB1.out).below hbm)
    have HBm := Lib.hid hbm
    have HOm := Lib.hid (made_own w1 n h600)
    have HAN : Hid (a = none → l = [] ∧ cap = 0) := fun h => ⟨List.eq_nil_of_length_eq_zero (by rw [← HN.out]; exact (HNil.out h).1), (HNil.out h).2⟩
    clear hbm
    go_wp2_with (at_builtin; refine wp_append_cds rfl (.tmp 22) (.tmp 23) SC rfl w1.heap.size CD Try.underlying22 info_cd (.slice (some ⟨w1.heap.size, 0, none⟩) 0 (n + 9)) 0 [] rfl HOm.out a n cap l rfl HN.out HC1.out HAN.out (by omega) HBm.out.size ?_; intro a2 cp2 w2 hown hgrow; rw [Nat.zero_add, List.nil_append] at hown; rw [Nat.zero_add]; have HO2 := Lib.hid hown; have HB2 := Lib.hid (HBm.out.grown hgrow HBm.out.size (fun q hq => by cases hq; exact Nat.le_refl _)); clear hown hgrow hmk HBm HOm HC1)
    have HIn := Lib.hid (Cds.own HO2.out)
    have HB2w := Lib.hid (HB1.out.trans (HB2.out.mono HB1.out.size))
    refine (best_any k (Cds.own HO2.out) HN.out hmx).mono ?_
    rintro e w3 ⟨x, m, cp, L, zz, hI, rfl, hm, hO, hb3⟩
    have HI := Lib.hid hI
    have HO3 := Lib.hid hO
    have HM := Lib.hid hm
    have HB3 := Lib.hid hb3
    have HBW3 := Lib.hid (HB2w.out.trans (hb3.mono HB2w.out.size))
    clear hI hm hO hb3 HO2
    go_wp2_with fail
    refine (ref_any (HC.out.below HBW3.out) HN.out (by omega)).mono ?_
    rintro e w4 ⟨x4, cp4, rfl, hO4, hb4⟩
    have HL4 := Lib.hid (Cds.own hO4)
    have HO4 := Lib.hid (own_later HO3.out hb4)
    have HB4 := Lib.hid (HB3.out.trans (hb4.mono HB3.out.size))
    clear hO4 hb4 HO3 HB3
    go_wp2_with fail
    refine (refBest_any k HL4.out HN.out hmx).mono ?_
    rintro e w5 ⟨x5, m5, cp5, L5, z5, hI5, rfl, hm5, hL5, hb5⟩
    obtain ⟨rfl, rfl⟩ := HI.out.fun_ hI5
    have hfit := HI.out.fit HF.out
    have HF2 := Lib.hid hfit.1
    have hle : m ≤ 1000 := by rw [HM.out]; have := hfit.2; have := HN.out; omega
    have hle5 : m5 ≤ 1000 := by rw [hm5]; have := hfit.2; have := HN.out; omega
    have HO5 := Lib.hid (own_later HO4.out hb5)
    have HSm := Lib.hid (same_any (cap := cp) (cb := cp5) (Cds.own HO5.out) HM.out hle hL5 hm5 hle5 HF2.out HF2.out)
    have HB5 := Lib.hid (HB4.out.trans (hb5.mono HB4.out.size))
    clear hI5 hm5 hL5 hb5 hfit HB4 HO4 HL4 HBW3
    go_wp2_with fail
    refine HSm.out.mono ?_
    rintro e w6 ⟨rr, hrr, rfl, hb6⟩
    have hrt : rr = true := hrr.2 rfl
    subst hrt
    have HO6 := Lib.hid (own_later HO5.out hb6)
    have HB6 := Lib.hid (HB5.out.trans (hb6.mono HB5.out.size))
    clear hrr hb6 HSm HB5 HO5
    go_wp2_with fail
    refine (check_any (HIn.out.below HB6.out) HN.out hmx).mono ?_
    rintro e w7 ⟨zc, hzc, rfl, hb7⟩
    have HZc := Lib.hid hzc
    have HO7 := Lib.hid (own_later HO6.out hb7)
    have HB7 := Lib.hid (HB6.out.trans (hb7.mono HB6.out.size))
    clear hzc hb7 HO6 HB6
    go_wp2_with fail
    refine (ref_any (HC.out.below (HB2w.out.trans (HB7.out.mono HB2w.out.size))) HN.out (by omega)).mono ?_
    rintro e w8 ⟨x8, cp8, rfl, hO8, hb8⟩
    have HL8 := Lib.hid (Cds.own hO8)
    have HO8 := Lib.hid (own_later HO7.out hb8)
    have HB8 := Lib.hid (HB7.out.trans (hb8.mono HB7.out.size))
    clear hO8 hb8 HO7 HB7
    go_wp2_with fail
    refine (good_any HL8.out HN.out hmx).mono ?_
    rintro e w9 ⟨bg, hbg, rfl, hb9⟩
    have hzb := check_good HZc.out hbg
    subst hzb
    have HO9 := Lib.hid (own_later HO8.out hb9)
    have HB9 := Lib.hid (HB8.out.trans (hb9.mono HB8.out.size))
    clear hbg hb9 HO8 HB8 HL8
    have tt : ((zc == 0) != (zc == 0)) = false := by cases (zc == 0) <;> rfl
    go_wp2_with fail
    go_loopw [58] (fun i wr => TkI w2 x m cp i wr) (fun i _ => m - (intOf i).toNat)
    case atStart => exact ⟨0, L, Nat.zero_le _, rfl, HM.out.symm, HO9.out, HB9.out⟩
    case round =>
      clear HO9 HB9
      obtain ⟨p, M, hp, rfl, hML, hO, hB⟩ := hrel
      by_cases hlt : p < m
      · obtain ⟨g, rfl, hg, hfz⟩ := own_some hO (by omega)
        obtain ⟨b', o', ha, q1, _⟩ := (Cds.own hO).at (i := p) (by omega)
        cases ha
        have f1 := hfz (p * 4)
        rw [Nat.zero_add] at q1
        obtain ⟨c, hc⟩ : ∃ c, M.getD p c0 = c := ⟨_, rfl⟩
        rw [hc] at q1
        obtain ⟨s, hs⟩ : ∃ s, c.seg = s := ⟨_, rfl⟩
        rw [hs] at q1
        have hput := own_put hO (p * 4) (.int .i64 (wrap64 (s + 1)))
        have hfl : (cellsI (flatC M)).set (p * 4) (.int .i64 (wrap64 (s + 1))) = cellsI (flatC (M.set p ⟨wrap64 (s + 1), (M.getD p c0).live, (M.getD p c0).cap, (M.getD p c0).age⟩)) := by
          rw [← flatC_set M p _ (by omega)]
          simp [cellsI, List.map_set]
        rw [hfl] at hput
        have HPut := Lib.hid hput
        have HBp := Lib.hid (hB.setCell (p := ⟨g, p * 4, none⟩) hg (.int .i64 (wrap64 (s + 1))))
        have HLn : Hid ((M.set p ⟨wrap64 (s + 1), (M.getD p c0).live, (M.getD p c0).cap, (M.getD p c0).age⟩).length = m) := by show _ = _; rw [List.length_set]; exact hML
        clear hO hB hg hfz hc hs hput hfl hML
        go_wp2_with fail
        go_roundw
        case rel => exact ⟨p + 1, _, by omega, by simp, HLn.out, HPut.out, HBp.out⟩
        case measure => simp [intOf]; omega
      · have HO := Lib.hid hO
        have HB := Lib.hid hB
        have HML := Lib.hid hML
        clear hO hB hML
        have HOz := Lib.hid (own_later HO.out (sup_pk wr (.cells #[.int .i64 c0.seg, .int .i64 c0.live, .int .i64 c0.cap, .int .i64 c0.age] CD)))
        have hsz := HB.out.size
        go_wp2_with (at_builtin; refine wp_append_cds rfl (.tmp 70) (.tmp 72) SC rfl w2.heap.size CD Try.underlying22 info_cd (.slice x m cp) m M rfl HOz.out (some ⟨wr.heap.size, 0, none⟩) 1 1 [c0] rfl rfl (Cds.one wr c0 CD) (fun h => by cases h) (by omega) (by simp; omega) ?_; intro a6 cp6 wa hown hgrow; have HBa := Lib.hid ((HB.out.trans ((sup_pk wr (.cells #[.int .i64 c0.seg, .int .i64 c0.live, .int .i64 c0.cap, .int .i64 c0.age] CD)).mono hsz)).grown hgrow (by simp; omega) (fun q hq => own_ge HO.out hq)); clear hown hgrow)
        refine (ref_any (HC.out.below (HB2w.out.trans (HBa.out.mono HB2w.out.size))) HN.out (by omega)).mono ?_
        rintro e wb ⟨xb, cpb, rfl, hOb, hbb⟩
        have HBb := Lib.hid (HBa.out.trans (hbb.mono HBa.out.size))
        have HSm := Lib.hid (same_any (cap := cp2) (cb := cpb) (HIn.out.below HBb.out) HN.out (by omega) (Cds.own hOb) HN.out (by omega) HF.out HF.out)
        clear hOb hbb HOz
        go_wp2_with fail
        refine HSm.out.mono ?_
        rintro e wc ⟨rr, hrr, rfl, hbc⟩
        have hrt : rr = true := hrr.2 rfl
        subst hrt
        have HBc := Lib.hid (HB2w.out.trans ((HBb.out.trans (hbc.mono HBb.out.size)).mono HB2w.out.size))
        have t5 : (0 : Int) < (m : Int) + 1 := by omega
        clear hrr hbc HSm HBb HBa HB HO
        go_wp2
        go_ret
        exact ⟨rfl, HBc.out⟩
  · have t0 : (600 : Int) < (n : Int) := by omega
    go_wp2_with fail
    refine (awake_any _).mono ?_
    rintro e w2 ⟨rfl, hb2⟩
    have HB2 := Lib.hid (HB1.out.trans (hb2.mono HB1.out.size))
    clear hb2
    go_wp2
    go_ret
    exact ⟨rfl, HB2.out⟩
end
end Go.Proofs.Ytblpfgjjiihjoaa
