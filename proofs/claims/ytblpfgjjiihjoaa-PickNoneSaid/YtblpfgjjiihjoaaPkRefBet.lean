/-
  The document's Better and Good.
-/
import Derived.Test.YtblpfgjjiihjoaaPkBest
namespace Go.Proofs.Ytblpfgjjiihjoaa
open Go.RowKit

section
variable {w w' : World} {a : Option Addr} {l : List Cd} {n cap : Nat}
set_option maxHeartbeats 2000000 in
theorem refBet_any (c d : Cd) (w : World) (hc : GoodC c) (hd : GoodC d) :
    Calls Try.prog 19 #[.agg (cdv c), .agg (cdv d)] w fun e w' => e = .returned (.bool (betB c d)) ∧ Below w.heap.size w w' := by
  obtain ⟨q1, q2, q3⟩ := prod_bd hc hd
  obtain ⟨r1, r2, r3⟩ := prod_bd hd hc
  have HBet : Hid (betB c d = if prodC c d = prodC d c then (if c.live = d.live then decide (c.seg < d.seg) else decide (c.live < d.live)) else decide (prodC d c < prodC c d)) := rfl
  have hp : prodC c d = (c.cap - c.live) * c.age * (d.cap + d.live) := rfl
  have hq : prodC d c = (d.cap - d.live) * d.age * (c.cap + c.live) := rfl
  obtain ⟨g1, l1, c1, a1⟩ := c
  obtain ⟨g2, l2, c2, a2⟩ := d
  unfold GoodC at hc hd
  simp only at *
  obtain ⟨x1, x2, x3, x4, x5, x6⟩ := hc
  obtain ⟨y1, y2, y3, y4, y5, y6⟩ := hd
  unfold cdv
  simp only
  generalize prodC ⟨g1, l1, c1, a1⟩ ⟨g2, l2, c2, a2⟩ = P at *
  generalize prodC ⟨g2, l2, c2, a2⟩ ⟨g1, l1, c1, a1⟩ = Q at *
  generalize betB ⟨g1, l1, c1, a1⟩ ⟨g2, l2, c2, a2⟩ = bb at *
  obtain ⟨M1, hM1⟩ : ∃ M, (c1 - l1) * a1 = M := ⟨_, rfl⟩
  obtain ⟨M2, hM2⟩ : ∃ M, (c2 - l2) * a2 = M := ⟨_, rfl⟩
  rw [hM1] at q1 hp
  rw [hM2] at r1 hq
  have e1 : wrap64 ((c1 - l1) * a1) = M1 := by rw [hM1]; exact IntWalk.wrap64_in _ (by omega)
  have e3 : wrap64 (M1 * (c2 + l2)) = P := by rw [← hp]; exact IntWalk.wrap64_in _ (by omega)
  have e4 : wrap64 ((c2 - l2) * a2) = M2 := by rw [hM2]; exact IntWalk.wrap64_in _ (by omega)
  have e6 : wrap64 (M2 * (c1 + l1)) = Q := by rw [← hq]; exact IntWalk.wrap64_in _ (by omega)
  clear hp hq hM1 hM2 q1 r1 q2 q3 r2 r3
  have HB2 : Hid (Below w.heap.size w ((w.alloc (.cells #[.int .i64 g1, .int .i64 l1, .int .i64 c1, .int .i64 a1] RCD)).alloc (.cells #[.int .i64 g2, .int .i64 l2, .int .i64 c2, .int .i64 a2] RCD))) := ((Below.refl _ _).alloc (Nat.le_refl _) _).alloc (by simp) _
  by_cases hPQ : P = Q
  · have hne : (P != Q) = false := by simp [hPQ]
    by_cases hll : l1 = l2
    · have HV : Hid (bb = decide (g1 < g2)) := by show _ = _; rw [HBet.out, if_pos hPQ, if_pos hll]
      have hne2 : (l1 != l2) = false := by simp [hll]
      clear hll hPQ HBet
      go_enter Try.func19, Try.ntmps19
      go_wp2
      go_ret
      exact ⟨by rw [HV.out]; rfl, HB2.out⟩
    · have HV : Hid (bb = decide (l1 < l2)) := by show _ = _; rw [HBet.out, if_pos hPQ, if_neg hll]
      have hne2 : (l1 != l2) = true := by simp [hll]
      clear hll hPQ HBet
      go_enter Try.func19, Try.ntmps19
      go_wp2
      go_ret
      exact ⟨by rw [HV.out]; rfl, HB2.out⟩
  · have HV : Hid (bb = decide (Q < P)) := by show _ = _; rw [HBet.out, if_neg hPQ]
    have hne : (P != Q) = true := by simp [hPQ]
    clear hPQ HBet
    go_enter Try.func19, Try.ntmps19
    go_wp2
    go_ret
    exact ⟨by rw [HV.out]; rfl, HB2.out⟩
def GoodIs (l : List Cd) (b : Bool) : Prop := b = true ↔ OkL l
def GdOut (l : List Cd) (w : World) (e : Ending) (w' : World) : Prop := ∃ b, GoodIs l b ∧ e = .returned (.bool b) ∧ Below w.heap.size w w'
set_option maxHeartbeats 8000000 in
theorem good_any (hC : Cds w a l) (hn : n = l.length) (hmx : n ≤ 9223372036854775807) :
    Calls Try.prog 15 #[.slice a n cap] w (GdOut l w) := by
  have HR := Lib.hid (show CkR w a l w from ⟨hC, Below.refl _ _⟩)
  have HN := Lib.hid hn
  clear hC hn
  go_enter Try.func15, Try.ntmps15
  go_wp2_with fail
  go_loopw [7] (fun i wr => CkI w a l n i wr) (fun i _ => n - (intOf i).toNat)
  case atStart => exact ⟨0, Nat.zero_le _, rfl, fun j hj => by omega, HR.out⟩
  case round =>
    clear HR
    obtain ⟨k, hk, rfl, hg, hR⟩ := hrel
    have HR := Lib.hid hR
    have HG := Lib.hid hg
    clear hR hg
    by_cases hlt : k < n
    · have hkl : k < l.length := by rw [← HN.out]; exact hlt
      obtain ⟨b, o, rfl, q1, q2, q3, q4⟩ := HR.out.list.at hkl
      obtain ⟨c, hc⟩ : ∃ c, l.getD k c0 = c := ⟨_, rfl⟩
      rw [hc] at q1 q2 q3 q4
      have HCk := Lib.hid hc
      clear hc
      have HR1 := Lib.hid (HR.out.later (sup_pk wr (.cells #[.int .i64 c.seg, .int .i64 c.live, .int .i64 c.cap, .int .i64 c.age] RCD)))
      clear HR hkl
      by_cases hok : GoodC c
      · have HK := Lib.hid hok
        unfold GoodC at hok
        obtain ⟨x1, x2, x3, x4, x5, x6⟩ := hok
        have y1 : ¬ c.cap < 1 := by omega
        have y2 : ¬ 64 < c.cap := by omega
        have y3 : ¬ c.live < 0 := by omega
        have y4 : ¬ c.cap < c.live := by omega
        have y5 : ¬ c.age < 0 := by omega
        have y6 : ¬ 2147483648 < c.age := by omega
        go_wp2_with fail
        go_roundw
        case rel =>
          refine ⟨k + 1, by omega, by simp, fun j hj => ?_, HR1.out⟩
          by_cases e : j = k
          · subst e; rw [HCk.out]; exact HK.out
          · exact HG.out j (by omega)
        case measure => simp [intOf]; omega
      · have HK := Lib.hid hok
        have hbad : GoodIs l false := ⟨(fun h => by cases h), fun q => absurd (by rw [← HCk.out]; exact q.2.at (by rw [← HN.out]; exact hlt)) HK.out⟩
        have HBad := Lib.hid hbad
        clear hbad hok
        by_cases z1 : c.cap < 1
        · go_wp2
          go_ret
          exact ⟨false, HBad.out, rfl, HR1.out.below⟩
        · by_cases z2 : 64 < c.cap
          · go_wp2
            go_ret
            exact ⟨false, HBad.out, rfl, HR1.out.below⟩
          · by_cases z3 : c.live < 0
            · go_wp2
              go_ret
              exact ⟨false, HBad.out, rfl, HR1.out.below⟩
            · by_cases z4 : c.cap < c.live
              · go_wp2
                go_ret
                exact ⟨false, HBad.out, rfl, HR1.out.below⟩
              · by_cases z5 : c.age < 0
                · go_wp2
                  go_ret
                  exact ⟨false, HBad.out, rfl, HR1.out.below⟩
                · by_cases z6 : 2147483648 < c.age
                  · go_wp2
                    go_ret
                    exact ⟨false, HBad.out, rfl, HR1.out.below⟩
                  · exact absurd (show GoodC c by unfold GoodC; omega) HK.out
    · have hkn : k = n := by omega
      have HGood : Hid (GoodIs l (decide ((n : Int) ≤ 512))) := by
        have h1 := goodL_of (fun j hj => HG.out j (by rw [hkn, HN.out]; exact hj))
        have h2 := HN.out
        exact ⟨fun h => ⟨by simp at h; omega, h1⟩, fun h => by have := h.1; simp; omega⟩
      clear hkn
      go_wp2
      go_ret
      exact ⟨_, HGood.out, rfl, HR.out.below⟩
end
end Go.Proofs.Ytblpfgjjiihjoaa
