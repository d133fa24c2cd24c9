/-
  The document's Seize of a table.
-/
import Derived.Test.YtfilbbiiiaodiaaUrWith
namespace Go.Proofs.Ytfilbbiiiaodiaa
open Go.RowKit

/-- What a call of the document's answers: a table of these numbers, new or the old one, and the error. -/
def RO (w : World) (g n : Nat) (size hand : Int) (F : List Int) (code : Int) (e : Ending) (w' : World) : Prop :=
  ∃ g' cap', e = .returned (.tuple #[rv g' n cap' size hand, .int .i64 code]) ∧ n ≤ cap' ∧ (g' = g ∨ w.heap.size ≤ g') ∧ RT w' g' n F ∧ Below w.heap.size w w'
structure SzR (w : World) (g n cap : Nat) (size hand : Int) (F : List Int) (wr : World) : Prop where
  tab : RT wr g n F
  box : Blo wr w.heap.size RTB #[.slice (some ⟨g, 0, none⟩) n cap, .int .i64 size, .int .i64 hand]
  res : Blo wr (w.heap.size + 1) RTB #[.slice none 0 0, .int .i64 0, .int .i64 0]
  below : Below w.heap.size w wr
  apart : w.heap.size + 1 < g
def SzL (w : World) (g n cap : Nat) (size hand : Int) (F : List Int) (i : Value) (wr : World) : Prop :=
  ∃ k : Nat, k ≤ n ∧ i = .int .i64 k ∧ SzR w g n cap size hand (dem F k) wr
section
variable {w : World} {g n cap s : Nat} {size hand : Int} {F : List Int}
theorem box2 (w : World) (g n cap : Nat) (size hand : Int) (F : List Int) (h : RT w g n F) :
    ∃ w0, w0 = (w.alloc (.cells #[.slice (some ⟨g, 0, none⟩) n cap, .int .i64 size, .int .i64 hand] RTB)).alloc (.cells #[.slice none 0 0, .int .i64 0, .int .i64 0] RTB) ∧ Below w.heap.size w w0 ∧ RT w0 g n F ∧ Blo w0 w.heap.size RTB #[.slice (some ⟨g, 0, none⟩) n cap, .int .i64 size, .int .i64 hand] ∧ Blo w0 (w.heap.size + 1) RTB #[.slice none 0 0, .int .i64 0, .int .i64 0] ∧ w0.heap.size = w.heap.size + 2 := by
  obtain ⟨q0, q1⟩ := two_laid w RTB RTB #[.slice (some ⟨g, 0, none⟩) n cap, .int .i64 size, .int .i64 hand] #[.slice none 0 0, .int .i64 0, .int .i64 0]
  have hb0 : Below w.heap.size w ((w.alloc (.cells #[.slice (some ⟨g, 0, none⟩) n cap, .int .i64 size, .int .i64 hand] RTB)).alloc (.cells #[.slice none 0 0, .int .i64 0, .int .i64 0] RTB)) := ((Below.refl _ _).alloc (Nat.le_refl _) _).alloc (by simp) _
  exact ⟨_, rfl, hb0, h.later hb0, q0, q1, by simp⟩
set_option maxHeartbeats 1000000 in
theorem rseize_out (x : Int) (h : RT w g n F) (hc : n ≤ cap) (hn : n ≤ 512) (hx : x < 0 ∨ (n : Int) ≤ x) :
    Calls Try.prog 31 #[rv g n cap size hand, .int .i64 x] w (RO w g n size hand F 22) := by
  have hb0 : Below w.heap.size w ((w.alloc (.cells #[.slice (some ⟨g, 0, none⟩) n cap, .int .i64 size, .int .i64 hand] RTB)).alloc (.cells #[.slice (some ⟨g, 0, none⟩) n cap, .int .i64 size, .int .i64 hand] RTB)) := ((Below.refl _ _).alloc (Nat.le_refl _) _).alloc (by simp) _
  have HB0 := Lib.hid hb0
  have HR0 := Lib.hid (h.later hb0)
  clear hb0 h
  rcases hx with hx | hx
  · go_enter Try.func31, Try.ntmps31
    go_wp2_with fail
    exact bodyPost_ret (v := .tuple #[rv g n cap size hand, .int .i64 22]) (by simp [results, Try.results31, go_sem]) rfl ⟨g, cap, rfl, hc, .inl rfl, HR0.out, HB0.out⟩
  · have hx0 : 0 ≤ x := by omega
    go_enter Try.func31, Try.ntmps31
    go_wp2_with fail
    exact bodyPost_ret (v := .tuple #[rv g n cap size hand, .int .i64 22]) (by simp [results, Try.results31, go_sem]) rfl ⟨g, cap, rfl, hc, .inl rfl, HR0.out, HB0.out⟩
set_option maxHeartbeats 2000000 in
theorem rseize_in (h : RT w g n F) (hs : s < n) (hn : n ≤ 512) :
    Calls Try.prog 31 #[rv g n cap size hand, .int .i64 s] w (RO w g n size s (seiz F n s) 0) := by
  obtain ⟨w0, hw0, hb0, hR0, q0, q1, hz0⟩ := box2 w g n cap size hand F h
  have HW := Lib.hid hw0
  have HB0 := Lib.hid hb0
  have HR0 := Lib.hid hR0
  have H0 := Lib.hid q0
  have H1 := Lib.hid q1
  have HZ := Lib.hid hz0
  have i1 : (0 : Int) ≤ (s : Int) := by omega
  have i2 : (s : Int) < (n : Int) := by omega
  clear hw0 hb0 hR0 q0 q1 hz0 h
  go_enter Try.func31, Try.ntmps31
  go_wp2_with (at_builtin; rw [← HW.out]; refine wp_copy_tab rfl (.tmp 17) (.tmp 19) rfl rfl (by simp [HZ.out]) rfl HR0.out (by omega) hn ?_; intro g' cap' w' hR' hlt hc hb'; have hg9 : w.heap.size + 1 < g' := (by rw [HZ.out] at hlt; omega); have HR' := Lib.hid hR'; have HB' := Lib.hid (HB0.out.trans (hb'.mono HB0.out.size)); have HBX := Lib.hid (H0.out.later hb'); have HRS := Lib.hid (H1.out.later hb'); have c0 := (H0.out.later hb').cell 0; have k0 := (H0.out.later hb').frozen 0; simp at c0; clear hR' hlt hb')
  have HS : Hid (SzR w g' n cap' size hand F (w'.setCell ⟨w.heap.size, 0, none⟩ (.slice (some ⟨g', 0, none⟩) n cap'))) :=
    ⟨HR'.out.far (p := ⟨w.heap.size, 0, none⟩) (by simp; omega) _, by simpa using HBX.out.put 0 (.slice (some ⟨g', 0, none⟩) n cap'), HRS.out.far (p := ⟨w.heap.size, 0, none⟩) (by simp) _, HB'.out.setCell (p := ⟨w.heap.size, 0, none⟩) (Nat.le_refl _) _, hg9⟩
  clear c0 k0 HR' HB' HBX HRS
  generalize w'.setCell ⟨w.heap.size, 0, none⟩ (.slice (some ⟨g', 0, none⟩) n cap') = w2 at *
  go_loopw [25] (fun i wr => SzL w g' n cap' size hand F i wr) (fun i _ => n - (intOf i).toNat)
  case atStart => exact ⟨0, Nat.zero_le _, rfl, by rw [dem_zero]; exact HS.out⟩
  case round =>
    clear HS
    obtain ⟨k, hk, rfl, hS⟩ := hrel
    have HS := Lib.hid hS
    have b0 := hS.box.cell 0
    simp at b0
    by_cases hlt : k < n
    · have c1 := hS.tab.cell (k * 3 + 1) (by omega)
      have f1 := hS.tab.frozen (k * 3 + 1)
      rw [dem_at] at c1
      have j1 : (0 : Int) ≤ (k : Int) := by omega
      have j2 : (k : Int) < (n : Int) := by omega
      clear hS
      by_cases h2 : F.getD (k * 3 + 1) 0 = 2
      · rw [h2] at c1
        have HN : Hid (SzR w g' n cap' size hand (dem F (k + 1)) (wr.setCell ⟨g', k * 3 + 1, none⟩ (.int .i64 1))) :=
          ⟨by rw [← dem_turn F k h2]; exact HS.out.tab.put (k * 3 + 1) 1 (by omega), HS.out.box.far (p := ⟨g', k * 3 + 1, none⟩) (by simp; omega) _, HS.out.res.far (p := ⟨g', k * 3 + 1, none⟩) (by simp; omega) _, HS.out.below.setCell (p := ⟨g', k * 3 + 1, none⟩) (by simp; omega) _, hg9⟩
        clear h2
        go_wp2_with fail
        go_roundw
        case rel => exact ⟨k + 1, by omega, by simp, HN.out⟩
        case measure => simp [intOf]; omega
      · have HN : Hid (SzR w g' n cap' size hand (dem F (k + 1)) wr) := by
          have := HS.out
          rw [dem_stay F k h2] at this
          exact this
        have h3 : (F.getD (k * 3 + 1) 0 == 2) = false := by rw [beq_eq_false_iff_ne]; exact h2
        generalize F.getD (k * 3 + 1) 0 = S at *
        clear h2
        go_wp2_with fail
        go_roundw
        case rel => exact ⟨k + 1, by omega, by simp, HN.out⟩
        case measure => simp [intOf]; omega
    · obtain rfl : k = n := by omega
      have x1 := hS.tab.cell (s * 3 + 1) (by omega)
      have y1 := hS.tab.frozen (s * 3 + 1)
      have b1 := hS.box.cell 1
      have b2 := hS.box.cell 2
      have k2 := hS.box.frozen 2
      have e0 := hS.res.cell 0
      have e1 := hS.res.cell 1
      have e2 := hS.res.cell 2
      have z0 := hS.res.frozen 0
      have z1 := hS.res.frozen 1
      have z2 := hS.res.frozen 2
      simp at b1 b2 e0 e1 e2
      clear hS hlt
      go_wp2_with fail
      refine bodyPost_ret (v := .tuple #[rv g' k cap' size s, .int .i64 0]) (by simp [results, Try.results31, go_sem, e0, e1, e2]) rfl ⟨g', cap', rfl, hc, .inr (by omega), ?_, ?_⟩
      · exact ((((HS.out.tab.put (s * 3 + 1) 2 (by omega)).far (p := ⟨w.heap.size, 2, none⟩) (by simp; omega) _).far (p := ⟨w.heap.size + 1, 0, none⟩) (by simp; omega) _).far (p := ⟨w.heap.size + 1, 1, none⟩) (by simp; omega) _).far (p := ⟨w.heap.size + 1, 2, none⟩) (by simp; omega) _
      · exact ((((HS.out.below.setCell (p := ⟨g', s * 3 + 1, none⟩) (by simp; omega) _).setCell (p := ⟨w.heap.size, 2, none⟩) (by simp) _).setCell (p := ⟨w.heap.size + 1, 0, none⟩) (by simp) _).setCell (p := ⟨w.heap.size + 1, 1, none⟩) (by simp) _).setCell (p := ⟨w.heap.size + 1, 2, none⟩) (by simp) _
end
end Go.Proofs.Ytfilbbiiiaodiaa
