/-
  The disk's walks: dead, step, Size, Steps, Arm, New.
-/
import Derived.Test.YtmkhliabmodbdaaDkMem
import Derived.RegionTactic
import Derived.ChangeAlike
namespace Go.Proofs.Ytmkhliabmodbdaa
open Go.RowKit

def deadB (d : Dm) : Bool := d.armed && (d.left == 0)
def stepD (d : Dm) : Dm := { d with steps := d.steps + 1, left := if d.armed then d.left - 1 else d.left }
/-- What a call that answers a number leaves. -/
def CodeO (C : Nat) (w : World) (L : Dl) (d' : Dm) (code : Int) (e : Ending) (w' : World) : Prop :=
  e = .returned (.int .i64 code) ∧ ∃ qv, Dk C w' { L with qv := qv } d' ∧ Out L.has w w' ∧ (∀ g, qv.ownBlock = some g → L.qv.ownBlock = some g ∨ w.heap.size ≤ g)
def NilO (C : Nat) (w : World) (L : Dl) (d' : Dm) (e : Ending) (w' : World) : Prop :=
  e = .returned (.tuple #[]) ∧ Dk C w' L d' ∧ Out L.has w w'
section
variable {C : Nat} {w : World} {L : Dl} {d : Dm}
theorem CodeO.stay (h : Dk C w L d) (code : Int) : CodeO C w L d code (.returned (.int .i64 code)) w :=
  ⟨rfl, L.qv, h, Out.refl _ _, fun _ hg => .inl hg⟩
set_option maxHeartbeats 400000 in
theorem dead_any (h : Dk C w L d) : Calls Try.prog 40 #[.pointer (some ⟨L.bd, 0, none⟩)] w fun e w' => e = .returned (.bool (deadB d)) ∧ w = w' := by
  have t4 := h.top.cell 4
  have t5 := h.top.cell 5
  simp at t4 t5
  clear h
  obtain ⟨n, S, N, Q, st, ar, lf⟩ := d
  simp only at t4 t5
  cases ar with
  | false =>
    go_enter Try.func40, Try.ntmps40
    go_wp2
    go_ret
    exact ⟨rfl, rfl⟩
  | true =>
    go_enter Try.func40, Try.ntmps40
    go_wp2
    go_ret
    exact ⟨by simp [deadB], rfl⟩
theorem Dk.topped (h : Dk C w L d) (j : Nat) (u : Value) (d' : Dm) (hn : d'.n = d.n) (hS : d'.S = d.S) (hN : d'.N = d.N) (hQ : d'.Q = d.Q) (hst : 0 ≤ d'.steps ∧ d'.steps ≤ 1000000) (hlf : -1 ≤ d'.left ∧ d'.left ≤ 9223372036854775807)
    (hc : (#[.slice (some ⟨L.gs, 0, none⟩) d.n d.n, .slice (some ⟨L.gn, 0, none⟩) d.n d.n, L.qv, .int .i64 d.steps, .bool d.armed, .int .i64 d.left] : Array Value).setIfInBounds j u = #[.slice (some ⟨L.gs, 0, none⟩) d.n d.n, .slice (some ⟨L.gn, 0, none⟩) d.n d.n, L.qv, .int .i64 d'.steps, .bool d'.armed, .int .i64 d'.left]) :
    Dk C (w.setCell ⟨L.bd, j, none⟩ u) L d' ∧ Out L.has w (w.setCell ⟨L.bd, j, none⟩ u) := by
  have ho : Out L.has w (w.setCell ⟨L.bd, j, none⟩ u) := out_put w ⟨L.bd, j, none⟩ u (.inl rfl)
  have h1 : Out (fun i => i = L.bd) w (w.setCell ⟨L.bd, j, none⟩ u) := out_put w ⟨L.bd, j, none⟩ u rfl
  refine ⟨⟨?_, ?_, ?_, ?_, ?_, h.ne, h.low, by rw [hn]; exact h.few, hst, hlf, by rw [hQ]; exact h.len⟩, ho⟩
  · have := h.top.put j u
    rw [hc] at this
    rw [hn]
    exact this
  · rw [hn, hS]; exact h.sure.out h1 (fun e => h.bd_gs e.symm)
  · rw [hn, hN]; exact h.now.out h1 (fun e => h.bd_gn e.symm)
  · rw [hQ]; exact h1.own h.queue (fun g hg e => h.q_bd (by rw [hg, e]))
  · rw [hn, hQ]; exact h.good
set_option maxHeartbeats 400000 in
theorem step_any (h : Dk C w L d) (hs : d.steps < 1000000) (hd : deadB d = false) (hl : 0 ≤ d.left) : Calls Try.prog 42 #[.pointer (some ⟨L.bd, 0, none⟩)] w (NilO C w L (stepD d)) := by
  have H := Lib.hid h
  have t3 := h.top.cell 3
  have t4 := h.top.cell 4
  have t5 := h.top.cell 5
  have f3 := h.top.frozen 3
  have f5 := h.top.frozen 5
  obtain ⟨s1, s2⟩ := h.stp
  obtain ⟨l1, l2⟩ := h.lft
  simp at t3 t4 t5
  have HD := Lib.hid hd
  clear h hd
  obtain ⟨n, S, N, Q, st, ar, lf⟩ := d
  simp only at t3 t4 t5 s1 s2 l1 l2 hs hl
  cases ar with
  | false =>
    go_enter Try.func42, Try.ntmps42
    go_wp2
    go_end0
    obtain ⟨h1, h2⟩ := H.out.topped 3 (.int .i64 (st + 1)) (stepD ⟨n, S, N, Q, st, false, lf⟩) rfl rfl rfl rfl (by simp [stepD]; omega) (by simp [stepD]; omega) rfl
    exact ⟨rfl, h1, h2⟩
  | true =>
    go_enter Try.func42, Try.ntmps42
    go_wp2
    go_end0
    obtain ⟨h1, h2⟩ := H.out.topped 3 (.int .i64 (st + 1)) ⟨n, S, N, Q, st + 1, true, lf⟩ rfl rfl rfl rfl (by simp; omega) (by simp; omega) rfl
    obtain ⟨h3, h4⟩ := h1.topped 5 (.int .i64 (lf - 1)) (stepD ⟨n, S, N, Q, st, true, lf⟩) rfl rfl rfl rfl (by simp [stepD]; omega) (by simp [stepD]; omega) rfl
    exact ⟨rfl, h3, h2.trans h4 (fun _ _ h => h)⟩
set_option maxHeartbeats 400000 in
theorem size_any (h : Dk C w L d) : Calls Try.prog 36 #[.pointer (some ⟨L.bd, 0, none⟩)] w fun e w' => e = .returned (.int .i64 d.n) ∧ w = w' := by
  have t1 := h.top.cell 1
  have hf := h.few.2
  simp at t1
  clear h
  go_enter Try.func36, Try.ntmps36
  go_wp2
  go_ret
  exact ⟨rfl, rfl⟩
set_option maxHeartbeats 400000 in
theorem steps_any (h : Dk C w L d) : Calls Try.prog 46 #[.pointer (some ⟨L.bd, 0, none⟩)] w fun e w' => e = .returned (.int .i64 d.steps) ∧ w = w' := by
  have t1 := h.top.cell 3
  simp at t1
  clear h
  go_enter Try.func46, Try.ntmps46
  go_wp2
  go_ret
  exact ⟨rfl, rfl⟩
def armD (d : Dm) (n : Int) : Dm := { d with armed := true, left := n }
set_option maxHeartbeats 400000 in
theorem arm_low (k : Int) (hk : k < 0) (h : Dk C w L d) : Calls Try.prog 17 #[.pointer (some ⟨L.bd, 0, none⟩), .int .i64 k] w (CodeO C w L d 22) := by
  have H := Lib.hid h
  clear h
  go_enter Try.func17, Try.ntmps17
  go_wp2
  go_ret
  exact CodeO.stay H.out 22
set_option maxHeartbeats 400000 in
theorem arm_dead (k : Int) (hk : 0 ≤ k) (h : Dk C w L d) (hd : deadB d = true) : Calls Try.prog 17 #[.pointer (some ⟨L.bd, 0, none⟩), .int .i64 k] w (CodeO C w L d 102) := by
  have H := Lib.hid h
  have HD := Lib.hid (dead_any h)
  rw [hd] at HD
  clear h hd
  go_enter Try.func17, Try.ntmps17
  go_wp2_with fail
  refine HD.out.mono ?_
  rintro e w' ⟨rfl, rfl⟩
  clear HD
  go_wp2
  go_ret
  exact CodeO.stay H.out 102
set_option maxHeartbeats 400000 in
theorem arm_yes (k : Int) (hk : 0 ≤ k) (hk2 : k ≤ 9223372036854775807) (h : Dk C w L d) (hd : deadB d = false) : Calls Try.prog 17 #[.pointer (some ⟨L.bd, 0, none⟩), .int .i64 k] w (CodeO C w L (armD d k) 0) := by
  have H := Lib.hid h
  have HD := Lib.hid (dead_any h)
  rw [hd] at HD
  have t4 := h.top.cell 4
  have t5 := h.top.cell 5
  have f4 := h.top.frozen 4
  have f5 := h.top.frozen 5
  simp at t4 t5
  clear h hd
  go_enter Try.func17, Try.ntmps17
  go_wp2_with fail
  refine HD.out.mono ?_
  rintro e w' ⟨rfl, rfl⟩
  clear HD
  go_wp2
  go_ret
  obtain ⟨h1, h2⟩ := H.out.topped 4 (.bool true) { d with armed := true } rfl rfl rfl rfl H.out.stp H.out.lft rfl
  obtain ⟨h3, h4⟩ := h1.topped 5 (.int .i64 k) (armD d k) rfl rfl rfl rfl H.out.stp (by simp [armD]; omega) rfl
  exact ⟨rfl, L.qv, h3, h2.trans h4 (fun _ _ h => h), fun _ hg => .inl hg⟩
end
def newD (n : Nat) : Dm := ⟨n, fun _ => zeroB, fun _ => zeroB, [], 0, false, 0⟩
def NewDO (n : Nat) (w : World) (e : Ending) (w' : World) : Prop :=
  ∃ L : Dl, e = .returned (.tuple #[.pointer (some ⟨L.bd, 0, none⟩), .int .i64 0]) ∧ Dk w.heap.size w' L (newD n) ∧ Below w.heap.size w w'
theorem newD_mem (w : World) (n : Nat) (h1 : 1 ≤ n) (h2 : n ≤ 4096) (a b : Nat) (hab : a ≠ b) (ha : w.heap.size ≤ a) (hb : w.heap.size ≤ b) (W : World) (hA : Rw W a n (fun _ => zeroB)) (hB : Rw W b n (fun _ => zeroB)) (c : Nat) (hc : w.heap.size ≤ c)
    (hT : Blo W c DSK #[.slice (some ⟨a, 0, none⟩) n n, .slice (some ⟨b, 0, none⟩) n n, .slice none 0 0, .int .i64 0, .bool false, .int .i64 0]) : Dk w.heap.size W ⟨c, a, b, .slice none 0 0⟩ (newD n) :=
  ⟨hT, hA, hB, ⟨rfl, .inl ⟨rfl, rfl⟩⟩, by simp [newD], hab, ⟨hc, ha, hb⟩, ⟨h1, h2⟩, by simp [newD], by simp [newD], by simp [newD]⟩
set_option maxHeartbeats 400000 in
theorem new_bad (k : Int) (w : World) (hk : k < 1 ∨ 4096 < k) : Calls Try.prog 10 #[.int .i64 k] w fun e w' => e = .returned (.tuple #[.pointer none, .int .i64 22]) ∧ w = w' := by
  rcases hk with h | h
  · go_enter Try.func10, Try.ntmps10
    go_wp2
    go_ret2
    exact ⟨rfl, rfl⟩
  · have h' : ¬ k < 1 := by omega
    go_enter Try.func10, Try.ntmps10
    go_wp2
    go_ret2
    exact ⟨rfl, rfl⟩
theorem rows2 (w : World) (n : Nat) (o : Obj) : Rw (((w.alloc (.cells (zeroRow n) BLK)).alloc (.cells (zeroRow n) BLK)).alloc o) w.heap.size n (fun _ => zeroB) ∧ Rw (((w.alloc (.cells (zeroRow n) BLK)).alloc (.cells (zeroRow n) BLK)).alloc o) (w.heap.size + 1) n (fun _ => zeroB) := by
  have s1 : ∀ (w : World) (o : Obj), Below w.heap.size w (w.alloc o) := fun w o => (Below.refl _ _).alloc (Nat.le_refl _) o
  refine ⟨((rw_zero w n).later (s1 _ _)).later (s1 _ _), ?_⟩
  have := (rw_zero (w.alloc (.cells (zeroRow n) BLK)) n).later (s1 _ o)
  simpa using this
theorem new_top (w : World) (n : Nat) (cs : Array Value) : Blo (((w.alloc (.cells (zeroRow n) BLK)).alloc (.cells (zeroRow n) BLK)).alloc (.cells cs DSK)) (w.heap.size + 1 + 1) DSK cs := by
  have := blo_laid ((w.alloc (.cells (zeroRow n) BLK)).alloc (.cells (zeroRow n) BLK)) DSK cs
  simpa using this
theorem new_below (w : World) (n : Nat) (o : Obj) : Below w.heap.size w ((((w.alloc (.cells (zeroRow n) BLK)).alloc (.cells (zeroRow n) BLK)).alloc o)).drew :=
  ((((Below.refl _ _).alloc (Nat.le_refl _) _).alloc (by simp) _).alloc (by simp; omega) _).drew
theorem new_mem1 (w : World) (n : Nat) (h1 : 1 ≤ n) (h2 : n ≤ 4096) : Dk w.heap.size ((((w.alloc (.cells (zeroRow n) BLK)).alloc (.cells (zeroRow n) BLK)).alloc (.cells #[.slice (some ⟨w.heap.size, 0, none⟩) n n, .slice (some ⟨w.heap.size + 1, 0, none⟩) n n, .slice none 0 0, .int .i64 0, .bool false, .int .i64 0] DSK))).drew ⟨w.heap.size + 1 + 1, w.heap.size, w.heap.size + 1, .slice none 0 0⟩ (newD n) :=
  (newD_mem w n h1 h2 w.heap.size (w.heap.size + 1) (by omega) (by omega) (by omega) _ (rows2 w n _).1 (rows2 w n _).2 (w.heap.size + 1 + 1) (by omega) (new_top w n _)).later ((Below.refl _ _).drew)
theorem new_mem2 (w : World) (n : Nat) (h1 : 1 ≤ n) (h2 : n ≤ 4096) : Dk w.heap.size ((((w.alloc (.cells (zeroRow n) BLK)).alloc (.cells (zeroRow n) BLK)).alloc (.cells #[.slice (some ⟨w.heap.size + 1, 0, none⟩) n n, .slice (some ⟨w.heap.size, 0, none⟩) n n, .slice none 0 0, .int .i64 0, .bool false, .int .i64 0] DSK))).drew ⟨w.heap.size + 1 + 1, w.heap.size + 1, w.heap.size, .slice none 0 0⟩ (newD n) :=
  (newD_mem w n h1 h2 (w.heap.size + 1) w.heap.size (by omega) (by omega) (by omega) _ (rows2 w n _).2 (rows2 w n _).1 (w.heap.size + 1 + 1) (by omega) (new_top w n _)).later ((Below.refl _ _).drew)
set_option maxHeartbeats 1000000 in
theorem new_any (n : Nat) (w : World) (h1 : 1 ≤ n) (h2 : n ≤ 4096) : Calls Try.prog 10 #[.int .i64 n] w (NewDO n w) := by
  have hmk : ∀ W, _ := fun W => run_blks W n (by omega)
  have g1 : ¬ (n : Int) < 1 := by omega
  have g2 : ¬ (4096 : Int) < (n : Int) := by omega
  go_enter Try.func10, Try.ntmps10
  go_wp2
  go_region
  all_goals go_wp2
  all_goals go_ret2
  · exact ⟨⟨w.heap.size + 1 + 1, w.heap.size, w.heap.size + 1, .slice none 0 0⟩, rfl, new_mem1 w n h1 h2, new_below w n _⟩
  · exact ⟨⟨w.heap.size + 1 + 1, w.heap.size + 1, w.heap.size, .slice none 0 0⟩, rfl, new_mem2 w n h1 h2, new_below w n _⟩
end Go.Proofs.Ytmkhliabmodbdaa
