/-
  The closure by which Order sorts.
-/
import Derived.Test.YtdnkeplmjimjcaaChOrd
import Derived.Shelf.GgSortFunc.InsertionK
namespace Go.Proofs.Ytdnkeplmjimjcaa
open Go.RowKit Go.Sort

def cmpI (a b : Int) : Int := if a < b then -1 else if b < a then 1 else 0
section
variable {w w' W : World} {bc bm base b : Nat} {room uses : Int} {N T : Nat} {x : Sx} {L : List Bk}
theorem below_drewN (w : World) (n : Nat) : RowKit.Below w.heap.size w (w.drewN n) := ⟨rfl, rfl, rfl, Nat.le_refl _, fun _ _ => rfl⟩
theorem isnan_any (a : Int) (w : World) : Calls Try.prog 46 #[.int .i64 a] w fun e w' => e = .returned (.bool false) ∧ w' = w := by
  have h : (a != a) = false := by simp
  go_enter Try.func46, Try.ntmps46
  go_wp2_with fail
  go_ret
  exact ⟨rfl, rfl⟩
theorem compare_any (a b : Int) (w : World) : Calls Try.prog 33 #[.int .i64 a, .int .i64 b] w fun e w' => e = .returned (.int .i64 (cmpI a b)) ∧ w' = w := by
  have hn := fun z W => isnan_any z W
  have HN := Lib.hid hn
  clear hn
  unfold cmpI
  by_cases h1 : a < b
  · rw [if_pos h1]
    go_enter Try.func33, Try.ntmps33
    go_wp2_with (go_at_call 46; refine (HN.out _ _).mono ?_; rintro e w' ⟨rfl, rfl⟩)
    go_ret
    exact ⟨rfl, rfl⟩
  · rw [if_neg h1]
    by_cases h2 : b < a
    · rw [if_pos h2]
      have h3 : a > b := h2
      go_enter Try.func33, Try.ntmps33
      go_wp2_with (go_at_call 46; refine (HN.out _ _).mono ?_; rintro e w' ⟨rfl, rfl⟩)
      go_ret
      exact ⟨rfl, rfl⟩
    · rw [if_neg h2]
      have h3 : ¬ a > b := h2
      go_enter Try.func33, Try.ntmps33
      go_wp2_with (go_at_call 46; refine (HN.out _ _).mono ?_; rintro e w' ⟨rfl, rfl⟩)
      go_ret
      exact ⟨rfl, rfl⟩
set_option maxRecDepth 100000 in
set_option maxHeartbeats 4000000 in
theorem less_any (hC : CS w bc bm base room N T x) {g : Nat} (hbox : Blo w g PC #[.pointer (some ⟨bc, 0, none⟩)]) {b c : Nat} (hb : b ∈ x.bs) (hc : c ∈ x.bs) :
    Calls Try.prog 32 #[.agg #[.int .i64 (x.S b).ino, .int .i64 (x.S b).lbn], .agg #[.int .i64 (x.S c).ino, .int .i64 (x.S c).lbn], .pointer (some ⟨g, 0, none⟩)] w fun e w' => e = .returned (.int .i64 (cmpI (x.S b).used (x.S c).used)) ∧ ∃ q os', w' = grow (w.drewN q) os' := by
  obtain ⟨w1, hw1⟩ : ∃ w1, w1 = (w.alloc (.cells #[.int .i64 (x.S b).ino, .int .i64 (x.S b).lbn] KT)).alloc (.cells #[.int .i64 (x.S c).ino, .int .i64 (x.S c).lbn] KT) := ⟨_, rfl⟩
  have hb1 : Below w.heap.size w w1 := by rw [hw1]; exact (sup_pc9 w _).alloc (by simp) _
  have hX : Blo w1 w.heap.size KT #[.int .i64 (x.S b).ino, .int .i64 (x.S b).lbn] := by rw [hw1]; exact (blo_laid w _ _).alloc _
  have hY : Blo w1 (w.heap.size + 1) KT #[.int .i64 (x.S c).ino, .int .i64 (x.S c).lbn] := by
    rw [hw1]
    have := blo_laid (w.alloc (.cells #[.int .i64 (x.S b).ino, .int .i64 (x.S b).lbn] KT)) KT #[.int .i64 (x.S c).ino, .int .i64 (x.S c).lbn]
    rw [show (w.alloc (.cells #[.int .i64 (x.S b).ino, .int .i64 (x.S b).lbn] KT)).heap.size = w.heap.size + 1 by simp] at this
    exact this
  have hG : ∃ os, w1 = grow w os := by
    rw [hw1, alloc_eq_grow, alloc_eq_grow, grow_grow]
    exact ⟨_, rfl⟩
  have hC1 := hC.later hb1
  obtain ⟨aB, hBb⟩ := hC1.buf hb
  obtain ⟨aC, hBc⟩ := hC1.buf hc
  have hfb := (hC.ps.key _ b).2 ⟨hb, rfl⟩
  have hfc := (hC.ps.key _ c).2 ⟨hc, rfl⟩
  have d0 := (hbox.later hb1).cell 0
  obtain ⟨-, d1, -, -⟩ := hC1.cb.cell
  obtain ⟨-, -, -, -, u1, -⟩ := hBb.cells
  obtain ⟨-, -, -, -, u2, -⟩ := hBc.cells
  have c0 : ∀ n, (w1.drewN n).cell? ⟨g, 0, none⟩ = some (.pointer (some ⟨bc, 0, none⟩)) := fun n => d0
  have c1 : ∀ n, (w1.drewN n).cell? ⟨bc, 1, none⟩ = some (.map (some bm)) := fun n => d1
  have c2 : ∀ n, (w1.drewN n).cell? ⟨w.heap.size, 0, none⟩ = some (.int .i64 (x.S b).ino) := fun n => hX.cell 0
  have c3 : ∀ n, (w1.drewN n).cell? ⟨w.heap.size, 1, none⟩ = some (.int .i64 (x.S b).lbn) := fun n => hX.cell 1
  have c4 : ∀ n, (w1.drewN n).cell? ⟨w.heap.size + 1, 0, none⟩ = some (.int .i64 (x.S c).ino) := fun n => hY.cell 0
  have c5 : ∀ n, (w1.drewN n).cell? ⟨w.heap.size + 1, 1, none⟩ = some (.int .i64 (x.S c).lbn) := fun n => hY.cell 1
  have c6 : ∀ n, (w1.drewN n).cell? ⟨b, 68, none⟩ = some (.int .i64 (x.S b).used) := fun n => u1
  have c7 : ∀ n, (w1.drewN n).cell? ⟨c, 68, none⟩ = some (.int .i64 (x.S c).used) := fun n => u2
  have k1 : ∀ n, (Instr.lookup KMT (.map (some bm)) (.agg #[.int .i64 (x.S b).ino, .int .i64 (x.S b).lbn]) false).run Try.prog (w1.drewN n) = .ok (.pointer (some ⟨b, 0, none⟩)) (w1.drewN n) := fun n => by
    have := (hC1.km.later (below_drewN w1 n)).look (hC.ps.wf b hb)
    rw [hfb] at this
    exact this
  have k2 : ∀ n, (Instr.lookup KMT (.map (some bm)) (.agg #[.int .i64 (x.S c).ino, .int .i64 (x.S c).lbn]) false).run Try.prog (w1.drewN n) = .ok (.pointer (some ⟨c, 0, none⟩)) (w1.drewN n) := fun n => by
    have := (hC1.km.later (below_drewN w1 n)).look (hC.ps.wf c hc)
    rw [hfc] at this
    exact this
  have HCm : Hid (∀ n, Calls Try.prog 33 #[.int .i64 (x.S b).used, .int .i64 (x.S c).used] (w1.drewN n) fun e w' => e = .returned (.int .i64 (cmpI (x.S b).used (x.S c).used)) ∧ w' = w1.drewN n) := fun n => compare_any _ _ _
  clear hC hbox hb hc hX hY hC1 hBb hBc hfb hfc d0 d1 u1 u2 hb1
  generalize cmpI (x.S b).used (x.S c).used = r at *
  generalize (x.S b).used = ub at *
  generalize (x.S c).used = uc at *
  generalize (x.S b).ino = bi at *
  generalize (x.S b).lbn = bl at *
  generalize (x.S c).ino = ci at *
  generalize (x.S c).lbn = cl at *
  go_enter Try.func32, Try.ntmps32
  go_upto_region 1 with (fail)
  rw [← hw1]
  clear hw1
  go_quiet ((go_at_call 33; exact Calls.quiet_of_same (HCm.out _)))
  clear c0 c1 c2 c3 c4 c5 c6 c7 k1 k2 HCm
  go_wp2_with fail
  go_ret
  obtain ⟨os, rfl⟩ := hG
  exact ⟨rfl, _, os, rfl⟩
end
end Go.Proofs.Ytdnkeplmjimjcaa
