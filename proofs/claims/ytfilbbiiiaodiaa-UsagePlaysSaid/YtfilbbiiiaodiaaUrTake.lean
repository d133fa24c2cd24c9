/-
  The document's Take of a table.
-/
import Derived.Test.YtfilbbiiiaodiaaUrSeize
import Derived.Test.YtfilbbiiiaodiaaUrUse
namespace Go.Proofs.Ytfilbbiiiaodiaa
open Go.RowKit

def RO3 (w : World) (g n : Nat) (size hand : Int) (F : List Int) (s code : Int) (e : Ending) (w' : World) : Prop :=
  ∃ g' cap', e = .returned (.tuple #[rv g' n cap' size hand, .int .i64 s, .int .i64 code]) ∧ n ≤ cap' ∧ (g' = g ∨ w.heap.size ≤ g') ∧ RT w' g' n F ∧ Below w.heap.size w w'
section
variable {w : World} {g n cap s : Nat} {size hand : Int} {F : List Int}
theorem nth_eq (n : Nat) (hand : Int) (m : Nat) (h : 0 < n) : nth n hand m < n ∧ (hand + ((m : Int) + 1)) % (n : Int) = (nth n hand m : Int) := by
  obtain ⟨h1, h2⟩ := nth_lt n hand m h
  refine ⟨h1, ?_⟩
  rw [← h2]
  congr 1
  omega
set_option maxHeartbeats 2000000 in
theorem rtake_none (h : RT w g n F) (hc : n ≤ cap) (h1 : 1 ≤ n) (hn : n ≤ 512) (hh : 0 ≤ hand ∧ hand < n) (hall : ∀ j, j < n → F.getD (nth n hand j * 3 + 1) 0 ≠ 0) :
    Calls Try.prog 25 #[rv g n cap size hand] w (RO3 w g n size hand F 0 28) := by
  have hR2 := h.later (below2 w #[.slice (some ⟨g, 0, none⟩) n cap, .int .i64 size, .int .i64 hand] #[.slice none 0 0, .int .i64 0, .int .i64 0] RTB RTB)
  have HR2 := Lib.hid hR2
  have hb0 := below2 w #[.slice (some ⟨g, 0, none⟩) n cap, .int .i64 size, .int .i64 hand] #[.slice (some ⟨g, 0, none⟩) n cap, .int .i64 size, .int .i64 hand] RTB RTB
  have HB0 := Lib.hid hb0
  have HR0 := Lib.hid (h.later hb0)
  have HA := Lib.hid hall
  have hn0 : ((n : Int) == 0) = false := by rw [beq_eq_false_iff_ne]; omega
  obtain ⟨h2, h3⟩ := hh
  clear hb0 h hR2 hall
  go_enter Try.func25, Try.ntmps25
  go_wp2_with fail
  go_loop [5] (fun i => ∃ m : Nat, m ≤ n ∧ i = .int .i64 ((m : Int) + 1)) (fun i => n + 1 - (intOf i).toNat)
  case atStart => exact ⟨0, Nat.zero_le _, rfl⟩
  case round =>
    obtain ⟨m, hm, rfl⟩ := hrel
    by_cases hlt : m < n
    · obtain ⟨q1, q2⟩ := nth_eq n hand m (by omega)
      have hne := HA.out m hlt
      have x1 := HR2.out.cell (nth n hand m * 3 + 1) (by omega)
      generalize nth n hand m = q at *
      have hne2 : (F.getD (q * 3 + 1) 0 == 0) = false := by rw [beq_eq_false_iff_ne]; exact hne
      have i1 : (0 : Int) ≤ (q : Int) := by omega
      have i2 : (q : Int) < (n : Int) := by omega
      have i3 : (0 : Int) ≤ (m : Int) := by omega
      have i4 : (m : Int) < (n : Int) := by omega
      generalize F.getD (q * 3 + 1) 0 = S at *
      clear hne
      go_wp2_with fail
      go_round
      case rel => exact ⟨m + 1, by omega, by simp⟩
      case measure => simp [intOf]; omega
    · obtain rfl : m = n := by omega
      clear hlt
      go_wp2_with fail
      exact bodyPost_ret (v := .tuple #[rv g m cap size hand, .int .i64 0, .int .i64 28]) (by simp [results, Try.results25, go_sem]) rfl ⟨g, cap, rfl, hc, .inl rfl, HR0.out, HB0.out⟩
set_option maxHeartbeats 2000000 in
theorem rtake_at (j : Nat) (h : RT w g n F) (hc : n ≤ cap) (hn : n ≤ 512) (hh : 0 ≤ hand ∧ hand < n) (hj : j < n) (h0 : F.getD (nth n hand j * 3 + 1) 0 = 0) (hpre : ∀ i, i < j → F.getD (nth n hand i * 3 + 1) 0 ≠ 0) :
    Calls Try.prog 25 #[rv g n cap size hand] w (RO3 w g n size (nth n hand j) (seiz F n (nth n hand j)) (nth n hand j) 0) := by
  have hb2 := below2 w #[.slice (some ⟨g, 0, none⟩) n cap, .int .i64 size, .int .i64 hand] #[.slice none 0 0, .int .i64 0, .int .i64 0] RTB RTB
  have HB2 := Lib.hid hb2
  have HR2 := Lib.hid (h.later hb2)
  obtain ⟨q0, q1⟩ := two_laid w RTB RTB #[.slice (some ⟨g, 0, none⟩) n cap, .int .i64 size, .int .i64 hand] #[.slice none 0 0, .int .i64 0, .int .i64 0]
  have HX := Lib.hid q0
  have HY := Lib.hid q1
  have HA := Lib.hid hpre
  have hgw := h.lt
  have H0 := Lib.hid h0
  have hn0 : ((n : Int) == 0) = false := by rw [beq_eq_false_iff_ne]; omega
  obtain ⟨h2, h3⟩ := hh
  clear hb2 h hpre h0 q0 q1
  go_enter Try.func25, Try.ntmps25
  go_wp2_with fail
  go_loop [5] (fun i => ∃ m : Nat, m ≤ j ∧ i = .int .i64 ((m : Int) + 1)) (fun i => n + 1 - (intOf i).toNat)
  case atStart => exact ⟨0, Nat.zero_le _, rfl⟩
  case round =>
    obtain ⟨m, hm, rfl⟩ := hrel
    by_cases hlt : m < j
    · obtain ⟨q1, q2⟩ := nth_eq n hand m (by omega)
      have hne := HA.out m hlt
      have x1 := HR2.out.cell (nth n hand m * 3 + 1) (by omega)
      generalize nth n hand m = q at *
      have hne2 : (F.getD (q * 3 + 1) 0 == 0) = false := by rw [beq_eq_false_iff_ne]; exact hne
      have i1 : (0 : Int) ≤ (q : Int) := by omega
      have i2 : (q : Int) < (n : Int) := by omega
      have i3 : (0 : Int) ≤ (m : Int) := by omega
      have i4 : (m : Int) < (n : Int) := by omega
      generalize F.getD (q * 3 + 1) 0 = S at *
      clear hne
      go_wp2_with fail
      go_round
      case rel => exact ⟨m + 1, by omega, by simp⟩
      case measure => simp [intOf]; omega
    · obtain rfl : m = j := by omega
      obtain ⟨q1, q2⟩ := nth_eq n hand m (by omega)
      have x1 := HR2.out.cell (nth n hand m * 3 + 1) (by omega)
      rw [H0.out] at x1
      clear hlt H0 HA
      generalize nth n hand m = q at *
      have i1 : (0 : Int) ≤ (q : Int) := by omega
      have i2 : (q : Int) < (n : Int) := by omega
      have i3 : (0 : Int) ≤ (m : Int) := by omega
      have i4 : (m : Int) < (n : Int) := by omega
      go_wp2_with fail
      refine (rseize_in HR2.out q1 hn).mono ?_
      rintro e w5 ⟨g', cap', rfl, hc', hg9, hR', hb⟩
      have hg8 : g' ≠ w.heap.size ∧ g' ≠ w.heap.size + 1 := by simp at hg9; omega
      have hg7 : g' = g ∨ w.heap.size ≤ g' := by simp at hg9; omega
      have HR' := Lib.hid hR'
      have HB5 := Lib.hid (HB2.out.trans (hb.mono HB2.out.size))
      have hx5 := HX.out.later hb
      have hy5 := HY.out.later hb
      have c0 := hx5.cell 0
      have c1 := hx5.cell 1
      have c2 := hx5.cell 2
      have k0 := hx5.frozen 0
      have k1 := hx5.frozen 1
      have k2 := hx5.frozen 2
      have e0 := hy5.cell 0
      have e1 := hy5.cell 1
      have e2 := hy5.cell 2
      have z0 := hy5.frozen 0
      have z1 := hy5.frozen 1
      have z2 := hy5.frozen 2
      simp at c0 c1 c2 e0 e1 e2
      clear hg9 hb hR' hx5 hy5 HB2 HR2 HX HY x1
      go_wp2_with fail
      refine bodyPost_ret (v := .tuple #[rv g' n cap' size q, .int .i64 q, .int .i64 0]) (by simp [results, Try.results25, go_sem, e0, e1, e2]) rfl ⟨g', cap', rfl, hc', hg7, ?_, ?_⟩
      · exact (((((HR'.out.far (p := ⟨w.heap.size, 0, none⟩) hg8.1 _).far (p := ⟨w.heap.size, 1, none⟩) hg8.1 _).far (p := ⟨w.heap.size, 2, none⟩) hg8.1 _).far (p := ⟨w.heap.size + 1, 0, none⟩) hg8.2 _).far (p := ⟨w.heap.size + 1, 1, none⟩) hg8.2 _).far (p := ⟨w.heap.size + 1, 2, none⟩) hg8.2 _
      · exact (((((HB5.out.setCell (p := ⟨w.heap.size, 0, none⟩) (Nat.le_refl _) _).setCell (p := ⟨w.heap.size, 1, none⟩) (Nat.le_refl _) _).setCell (p := ⟨w.heap.size, 2, none⟩) (Nat.le_refl _) _).setCell (p := ⟨w.heap.size + 1, 0, none⟩) (by simp) _).setCell (p := ⟨w.heap.size + 1, 1, none⟩) (by simp) _).setCell (p := ⟨w.heap.size + 1, 2, none⟩) (by simp) _
end
end Go.Proofs.Ytfilbbiiiaodiaa
