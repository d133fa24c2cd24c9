/-
  The walk of Better.
-/
import Derived.Test.YtblpfgjjiihjoaaPkMath
import Derived.Test.YtblpfgjjiihjoaaQuiet
import Derived.Test.YtblpfgjjiihjoaaRows
import Derived.Deep.QuietTactic
import Derived.BigQuiet
import Derived.StillTailTactics
namespace Go.Proofs.Ytblpfgjjiihjoaa
open Go.RowKit

abbrev CD := 35
abbrev RK := 50
def cdv (c : Cd) : Array Value := #[.int .i64 c.seg, .int .i64 c.live, .int .i64 c.cap, .int .i64 c.age]
theorem sup_pk (w : World) (o : Obj) : Below w.heap.size w (w.alloc o) := (Below.refl _ _).alloc (Nat.le_refl _) o
set_option maxHeartbeats 400000 in
theorem room_any (g l c a : Int) (w : World) (h1 : -1000000 ≤ c - l) (h2 : c - l ≤ 1000000) :
    Calls Try.prog 25 #[.agg #[.int .i64 g, .int .i64 l, .int .i64 c, .int .i64 a]] w fun e w' => e = .returned (.int .i64 (c - l)) ∧ Below w.heap.size w w' := by
  go_enter Try.func25, Try.ntmps25
  go_wp2
  go_ret
  exact ⟨rfl, sup_pk w _⟩
set_option maxHeartbeats 2000000 in
theorem better_any (c d : Cd) (w : World) (hc : GoodC c) (hd : GoodC d) :
    Calls Try.prog 18 #[.agg (cdv c), .agg (cdv d)] w fun e w' => e = .returned (.bool (betB c d)) ∧ Below w.heap.size w w' := by
  obtain ⟨q1, q2, q3⟩ := prod_bd hc hd
  obtain ⟨r1, r2, r3⟩ := prod_bd hd hc
  have HBet : Hid (betB c d = if prodC c d = prodC d c then (if c.live = d.live then decide (c.seg < d.seg) else decide (c.live < d.live)) else decide (prodC d c < prodC c d)) := rfl
  have hp : prodC c d = (c.cap - c.live) * c.age * (d.cap + d.live) := rfl
  have hq : prodC d c = (d.cap - d.live) * d.age * (c.cap + c.live) := rfl
  obtain ⟨g1, l1, c1, a1⟩ := c
  obtain ⟨g2, l2, c2, a2⟩ := d
  unfold GoodC at hc hd
  simp only at *
  obtain ⟨x1, x2, x3, x4, x5, x6⟩ := hc
  obtain ⟨y1, y2, y3, y4, y5, y6⟩ := hd
  unfold cdv
  simp only
  generalize prodC ⟨g1, l1, c1, a1⟩ ⟨g2, l2, c2, a2⟩ = P at *
  generalize prodC ⟨g2, l2, c2, a2⟩ ⟨g1, l1, c1, a1⟩ = Q at *
  generalize betB ⟨g1, l1, c1, a1⟩ ⟨g2, l2, c2, a2⟩ = bb at *
  obtain ⟨M1, hM1⟩ : ∃ M, (c1 - l1) * a1 = M := ⟨_, rfl⟩
  obtain ⟨M2, hM2⟩ : ∃ M, (c2 - l2) * a2 = M := ⟨_, rfl⟩
  rw [hM1] at q1 hp
  rw [hM2] at r1 hq
  have e1 : IntKind.i64.wrap ((c1 - l1) * a1) = M1 := by rw [hM1]; exact IntWalk.i64_in _ (by omega)
  have e2 : IntKind.i64.wrap (c2 + l2) = c2 + l2 := IntWalk.i64_in _ (by omega)
  have e3 : IntKind.i64.wrap (M1 * (c2 + l2)) = P := by rw [← hp]; exact IntWalk.i64_in _ (by omega)
  have e4 : IntKind.i64.wrap ((c2 - l2) * a2) = M2 := by rw [hM2]; exact IntWalk.i64_in _ (by omega)
  have e5 : IntKind.i64.wrap (c1 + l1) = c1 + l1 := IntWalk.i64_in _ (by omega)
  have e6 : IntKind.i64.wrap (M2 * (c1 + l1)) = Q := by rw [← hq]; exact IntWalk.i64_in _ (by omega)
  clear hp hq hM1 hM2 q1 r1 q2 q3 r2 r3
  have HR1 := Lib.hid (fun W => room_any g1 l1 c1 a1 W (by omega) (by omega))
  have HR2 := Lib.hid (fun W => room_any g2 l2 c2 a2 W (by omega) (by omega))
  have k0 := (blo_laid w CD #[.int .i64 g1, .int .i64 l1, .int .i64 c1, .int .i64 a1]).alloc (.cells #[.int .i64 g2, .int .i64 l2, .int .i64 c2, .int .i64 a2] CD)
  have k1 := blo_laid (w.alloc (.cells #[.int .i64 g1, .int .i64 l1, .int .i64 c1, .int .i64 a1] CD)) CD #[.int .i64 g2, .int .i64 l2, .int .i64 c2, .int .i64 a2]
  rw [show (w.alloc (.cells #[.int .i64 g1, .int .i64 l1, .int .i64 c1, .int .i64 a1] CD)).heap.size = w.heap.size + 1 by simp] at k1
  have HB2 : Hid (Below w.heap.size w ((w.alloc (.cells #[.int .i64 g1, .int .i64 l1, .int .i64 c1, .int .i64 a1] CD)).alloc (.cells #[.int .i64 g2, .int .i64 l2, .int .i64 c2, .int .i64 a2] CD))) := ((Below.refl _ _).alloc (Nat.le_refl _) _).alloc (by simp) _
  have K0 := Lib.hid k0
  have K1 := Lib.hid k1
  clear k0 k1
  go_enter Try.func18, Try.ntmps18
  go_wp2_with fail
  generalize ((w.alloc (.cells #[.int .i64 g1, .int .i64 l1, .int .i64 c1, .int .i64 a1] CD)).alloc (.cells #[.int .i64 g2, .int .i64 l2, .int .i64 c2, .int .i64 a2] CD)) = w2 at *
  have z0 : ∀ x : Kept w2, x.at_.cell? ⟨w.heap.size, 0, none⟩ = some (.int .i64 g1) := fun x => by simpa using (K0.out.later x.below).cell 0
  have z1 : ∀ x : Kept w2, x.at_.cell? ⟨w.heap.size, 1, none⟩ = some (.int .i64 l1) := fun x => by simpa using (K0.out.later x.below).cell 1
  have z2 : ∀ x : Kept w2, x.at_.cell? ⟨w.heap.size, 2, none⟩ = some (.int .i64 c1) := fun x => by simpa using (K0.out.later x.below).cell 2
  have z3 : ∀ x : Kept w2, x.at_.cell? ⟨w.heap.size, 3, none⟩ = some (.int .i64 a1) := fun x => by simpa using (K0.out.later x.below).cell 3
  have u0 : ∀ x : Kept w2, x.at_.cell? ⟨w.heap.size + 1, 0, none⟩ = some (.int .i64 g2) := fun x => by simpa using (K1.out.later x.below).cell 0
  have u1 : ∀ x : Kept w2, x.at_.cell? ⟨w.heap.size + 1, 1, none⟩ = some (.int .i64 l2) := fun x => by simpa using (K1.out.later x.below).cell 1
  have u2 : ∀ x : Kept w2, x.at_.cell? ⟨w.heap.size + 1, 2, none⟩ = some (.int .i64 c2) := fun x => by simpa using (K1.out.later x.below).cell 2
  have u3 : ∀ x : Kept w2, x.at_.cell? ⟨w.heap.size + 1, 3, none⟩ = some (.int .i64 a2) := fun x => by simpa using (K1.out.later x.below).cell 3
  refine wp_region_kept (by kernel_rfl) (by kernel_rfl) ?_
  repeat (go_big_quiet_step ((first | (go_at_call 25; exact kept_call _ (HR1.out _)) | (go_at_call 25; exact kept_call _ (HR2.out _)))))
  refine wpQuiet_nil ?_
  rintro W ⟨wx, rfl⟩
  have HBx : Hid (Below w.heap.size w wx.at_) := HB2.out.trans (wx.below.mono HB2.out.size)
  have v0 := z0 wx
  have v1 := z1 wx
  have v5 := u0 wx
  have v6 := u1 wx
  clear z0 z1 z2 z3 u0 u1 u2 u3 e1 e2 e3 e4 e5 e6 HR1 HR2
  by_cases hPQ : P = Q
  · have hne : (P != Q) = false := by simp [hPQ]
    by_cases hll : l1 = l2
    · have HV : Hid (bb = decide (g1 < g2)) := by show _ = _; rw [HBet.out, if_pos hPQ, if_pos hll]
      have hne2 : (l1 != l2) = false := by simp [hll]
      clear hll hPQ HBet
      go_wp2
      go_ret
      exact ⟨by rw [HV.out]; rfl, HBx.out⟩
    · have HV : Hid (bb = decide (l1 < l2)) := by show _ = _; rw [HBet.out, if_pos hPQ, if_neg hll]
      have hne2 : (l1 != l2) = true := by simp [hll]
      clear hll hPQ HBet
      go_wp2
      go_ret
      exact ⟨by rw [HV.out]; rfl, HBx.out⟩
  · have HV : Hid (bb = decide (Q < P)) := by show _ = _; rw [HBet.out, if_neg hPQ]
    have hne : (P != Q) = true := by simp [hPQ]
    clear hPQ HBet
    go_wp2
    go_ret
    exact ⟨by rw [HV.out]; rfl, HBx.out⟩
end Go.Proofs.Ytblpfgjjiihjoaa
