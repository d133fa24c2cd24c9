/-
  The document's Release of a table.
-/
import Derived.Test.YtfilbbiiiaodiaaUrUse
namespace Go.Proofs.Ytfilbbiiiaodiaa
open Go.RowKit

section
variable {w : World} {g n cap s : Nat} {size hand : Int} {F : List Int}
set_option maxHeartbeats 1000000 in
theorem rrel_low (x : Int) (h : RT w g n F) (hc : n ≤ cap) (hn : n ≤ 512) (hx : x < 0) :
    Calls Try.prog 27 #[rv g n cap size hand, .int .i64 x] w (RO w g n size hand F 22) := by
  have hb0 := below2 w #[.slice (some ⟨g, 0, none⟩) n cap, .int .i64 size, .int .i64 hand] #[.slice (some ⟨g, 0, none⟩) n cap, .int .i64 size, .int .i64 hand] RTB RTB
  have HB0 := Lib.hid hb0
  have HR0 := Lib.hid (h.later hb0)
  clear hb0 h
  go_enter Try.func27, Try.ntmps27
  go_wp2_with fail
  exact bodyPost_ret (v := .tuple #[rv g n cap size hand, .int .i64 22]) (by simp [results, Try.results27, go_sem]) rfl ⟨g, cap, rfl, hc, .inl rfl, HR0.out, HB0.out⟩
set_option maxHeartbeats 1000000 in
theorem rrel_high (x : Int) (h : RT w g n F) (hc : n ≤ cap) (hn : n ≤ 512) (hx : 0 ≤ x) (hx2 : (n : Int) ≤ x) :
    Calls Try.prog 27 #[rv g n cap size hand, .int .i64 x] w (RO w g n size hand F 22) := by
  have hb0 := below2 w #[.slice (some ⟨g, 0, none⟩) n cap, .int .i64 size, .int .i64 hand] #[.slice (some ⟨g, 0, none⟩) n cap, .int .i64 size, .int .i64 hand] RTB RTB
  have HB0 := Lib.hid hb0
  have HR0 := Lib.hid (h.later hb0)
  clear hb0 h
  go_enter Try.func27, Try.ntmps27
  go_wp2_with fail
  exact bodyPost_ret (v := .tuple #[rv g n cap size hand, .int .i64 22]) (by simp [results, Try.results27, go_sem]) rfl ⟨g, cap, rfl, hc, .inl rfl, HR0.out, HB0.out⟩
set_option maxHeartbeats 2000000 in
theorem rrel_stale  (h : RT w g n F) (hc : n ≤ cap) (hs : s < n) (hn : n ≤ 512) (h0 : F.getD (s * 3 + 1) 0 = 0) :
    Calls Try.prog 27 #[rv g n cap size hand, .int .i64 s] w (RO w g n size hand F 103) := by
  have hR2 := h.later (below2 w #[.slice (some ⟨g, 0, none⟩) n cap, .int .i64 size, .int .i64 hand] #[.slice none 0 0, .int .i64 0, .int .i64 0] RTB RTB)
  have x0 := hR2.cell (s * 3) (by omega)
  have x1 := hR2.cell (s * 3 + 1) (by omega)
  have x2 := hR2.cell (s * 3 + 2) (by omega)
  obtain ⟨L, hL⟩ : ∃ L, F.getD (s * 3) 0 = L := ⟨_, rfl⟩
  obtain ⟨S, hS⟩ : ∃ S, F.getD (s * 3 + 1) 0 = S := ⟨_, rfl⟩
  obtain ⟨A, hA⟩ : ∃ A, F.getD (s * 3 + 2) 0 = A := ⟨_, rfl⟩
  rw [hL] at x0
  rw [hS] at x1
  rw [hA] at x2
  have i1 : (0 : Int) ≤ (s : Int) := by omega
  have i2 : (s : Int) < (n : Int) := by omega
  obtain rfl : S = 0 := hS.symm.trans h0
  clear h0
  have hb3 := below3 w #[.slice (some ⟨g, 0, none⟩) n cap, .int .i64 size, .int .i64 hand] #[.slice (some ⟨g, 0, none⟩) n cap, .int .i64 size, .int .i64 hand] #[.int .i64 L, .int .i64 0, .int .i64 A] RTB RTB RIN
  have HB3 := Lib.hid hb3
  have HR3 := Lib.hid (h.later hb3)
  clear hb3 h hR2 hL hS hA
  go_enter Try.func27, Try.ntmps27
  go_wp2_with fail
  exact bodyPost_ret (v := .tuple #[rv g n cap size hand, .int .i64 103]) (by simp [results, Try.results27, go_sem]) rfl ⟨g, cap, rfl, hc, .inl rfl, HR3.out, HB3.out⟩
set_option maxHeartbeats 2000000 in
theorem rrel_busy  (h : RT w g n F) (hc : n ≤ cap) (hs : s < n) (hn : n ≤ 512) (h0 : F.getD (s * 3 + 1) 0 = 2) :
    Calls Try.prog 27 #[rv g n cap size hand, .int .i64 s] w (RO w g n size hand F 16) := by
  have hR2 := h.later (below2 w #[.slice (some ⟨g, 0, none⟩) n cap, .int .i64 size, .int .i64 hand] #[.slice none 0 0, .int .i64 0, .int .i64 0] RTB RTB)
  have x0 := hR2.cell (s * 3) (by omega)
  have x1 := hR2.cell (s * 3 + 1) (by omega)
  have x2 := hR2.cell (s * 3 + 2) (by omega)
  obtain ⟨L, hL⟩ : ∃ L, F.getD (s * 3) 0 = L := ⟨_, rfl⟩
  obtain ⟨S, hS⟩ : ∃ S, F.getD (s * 3 + 1) 0 = S := ⟨_, rfl⟩
  obtain ⟨A, hA⟩ : ∃ A, F.getD (s * 3 + 2) 0 = A := ⟨_, rfl⟩
  rw [hL] at x0
  rw [hS] at x1
  rw [hA] at x2
  have i1 : (0 : Int) ≤ (s : Int) := by omega
  have i2 : (s : Int) < (n : Int) := by omega
  obtain rfl : S = 2 := hS.symm.trans h0
  clear h0
  have hb3 := below3 w #[.slice (some ⟨g, 0, none⟩) n cap, .int .i64 size, .int .i64 hand] #[.slice (some ⟨g, 0, none⟩) n cap, .int .i64 size, .int .i64 hand] #[.int .i64 L, .int .i64 2, .int .i64 A] RTB RTB RIN
  have HB3 := Lib.hid hb3
  have HR3 := Lib.hid (h.later hb3)
  clear hb3 h hR2 hL hS hA
  go_enter Try.func27, Try.ntmps27
  go_wp2_with fail
  exact bodyPost_ret (v := .tuple #[rv g n cap size hand, .int .i64 16]) (by simp [results, Try.results27, go_sem]) rfl ⟨g, cap, rfl, hc, .inl rfl, HR3.out, HB3.out⟩
set_option maxHeartbeats 2000000 in
theorem rrel_live  (h : RT w g n F) (hc : n ≤ cap) (hs : s < n) (hn : n ≤ 512) (h0 : F.getD (s * 3 + 1) 0 = 1) (hl : F.getD (s * 3) 0 ≠ 0) :
    Calls Try.prog 27 #[rv g n cap size hand, .int .i64 s] w (RO w g n size hand F 16) := by
  have hR2 := h.later (below2 w #[.slice (some ⟨g, 0, none⟩) n cap, .int .i64 size, .int .i64 hand] #[.slice none 0 0, .int .i64 0, .int .i64 0] RTB RTB)
  have x0 := hR2.cell (s * 3) (by omega)
  have x1 := hR2.cell (s * 3 + 1) (by omega)
  have x2 := hR2.cell (s * 3 + 2) (by omega)
  obtain ⟨L, hL⟩ : ∃ L, F.getD (s * 3) 0 = L := ⟨_, rfl⟩
  obtain ⟨S, hS⟩ : ∃ S, F.getD (s * 3 + 1) 0 = S := ⟨_, rfl⟩
  obtain ⟨A, hA⟩ : ∃ A, F.getD (s * 3 + 2) 0 = A := ⟨_, rfl⟩
  rw [hL] at x0
  rw [hS] at x1
  rw [hA] at x2
  have i1 : (0 : Int) ≤ (s : Int) := by omega
  have i2 : (s : Int) < (n : Int) := by omega
  obtain rfl : S = 1 := hS.symm.trans h0
  rw [hL] at hl
  have hl2 : (L == 0) = false := by rw [beq_eq_false_iff_ne]; exact hl
  clear h0 hl
  have hb3 := below3 w #[.slice (some ⟨g, 0, none⟩) n cap, .int .i64 size, .int .i64 hand] #[.slice (some ⟨g, 0, none⟩) n cap, .int .i64 size, .int .i64 hand] #[.int .i64 L, .int .i64 1, .int .i64 A] RTB RTB RIN
  have HB3 := Lib.hid hb3
  have HR3 := Lib.hid (h.later hb3)
  clear hb3 h hR2 hL hS hA
  go_enter Try.func27, Try.ntmps27
  go_wp2_with fail
  exact bodyPost_ret (v := .tuple #[rv g n cap size hand, .int .i64 16]) (by simp [results, Try.results27, go_sem]) rfl ⟨g, cap, rfl, hc, .inl rfl, HR3.out, HB3.out⟩
set_option maxHeartbeats 2000000 in
theorem rrel_yes  (h : RT w g n F) (hc : n ≤ cap) (hs : s < n) (hn : n ≤ 512) (h0 : F.getD (s * 3 + 1) 0 = 1) (hl : F.getD (s * 3) 0 = 0) :
    Calls Try.prog 27 #[rv g n cap size hand, .int .i64 s] w (RO w g n size hand (rel F s) 0) := by
  have hR2 := h.later (below2 w #[.slice (some ⟨g, 0, none⟩) n cap, .int .i64 size, .int .i64 hand] #[.slice none 0 0, .int .i64 0, .int .i64 0] RTB RTB)
  have hF := h.len
  have x0 := hR2.cell (s * 3) (by omega)
  have x1 := hR2.cell (s * 3 + 1) (by omega)
  have x2 := hR2.cell (s * 3 + 2) (by omega)
  obtain ⟨L, hL⟩ : ∃ L, F.getD (s * 3) 0 = L := ⟨_, rfl⟩
  obtain ⟨S, hS⟩ : ∃ S, F.getD (s * 3 + 1) 0 = S := ⟨_, rfl⟩
  obtain ⟨A, hA⟩ : ∃ A, F.getD (s * 3 + 2) 0 = A := ⟨_, rfl⟩
  rw [hL] at x0
  rw [hS] at x1
  rw [hA] at x2
  have i1 : (0 : Int) ≤ (s : Int) := by omega
  have i2 : (s : Int) < (n : Int) := by omega
  have HE : Hid (set3 F s 0 0 0 = rel F s) := by
    show _ = _
    subst hL hS hA
    apply List.ext_getElem (by simp [set3, rel])
    intro i h1 h2
    have hL0 := hl
    rw [List.getD_eq_getElem?_getD, List.getElem?_eq_getElem (show s * 3 < F.length by omega), Option.getD_some] at hL0
    have hi : i < F.length := by simpa [set3] using h1
    simp only [set3, rel, List.getElem_set, List.getD_eq_getElem?_getD, List.getElem?_eq_getElem (show s * 3 < F.length by omega), List.getElem?_eq_getElem (show s * 3 + 1 < F.length by omega), List.getElem?_eq_getElem (show s * 3 + 2 < F.length by omega), Option.getD_some]
    by_cases e1 : s * 3 + 2 = i
    · subst e1; simp
    · by_cases e2 : s * 3 + 1 = i
      · subst e2; simp
      · by_cases e3 : s * 3 = i
        · subst e3; simp; omega
        · simp [e1, e2, e3]
  obtain rfl : S = 1 := hS.symm.trans h0
  obtain rfl : L = 0 := hL.symm.trans hl
  clear h0 hl
  obtain ⟨q0, q1, q2⟩ := three_laid w RTB RTB RIN #[.slice (some ⟨g, 0, none⟩) n cap, .int .i64 size, .int .i64 hand] #[.slice none 0 0, .int .i64 0, .int .i64 0] #[.int .i64 0, .int .i64 0, .int .i64 0]
  have hb3 := below3 w #[.slice (some ⟨g, 0, none⟩) n cap, .int .i64 size, .int .i64 hand] #[.slice none 0 0, .int .i64 0, .int .i64 0] #[.int .i64 0, .int .i64 0, .int .i64 0] RTB RTB RIN
  have HB3 := Lib.hid hb3
  have HR3 := Lib.hid (h.later hb3)
  have HQ := Lib.hid q1
  clear hb3 h hR2 q0 q1 q2 hL hS hA hF
  go_enter Try.func27, Try.ntmps27
  go_wp2_with fail
  refine (rwith_any 0 0 0 HR3.out hs hn).mono ?_
  rintro e w5 ⟨g', cap', rfl, hc', hg9, hR', hb⟩
  have hg8 : w.heap.size + 1 < g' := by simp at hg9; omega
  have HR' := Lib.hid hR'
  have HB5 := Lib.hid (HB3.out.trans (hb.mono HB3.out.size))
  have hr5 := HQ.out.later hb
  have e0 := hr5.cell 0
  have e1 := hr5.cell 1
  have e2 := hr5.cell 2
  have z0 := hr5.frozen 0
  have z1 := hr5.frozen 1
  have z2 := hr5.frozen 2
  simp at e0 e1 e2
  clear hg9 hb hr5 hR' HB3 HR3 HQ x0 x1 x2
  go_wp2_with fail
  refine bodyPost_ret (v := .tuple #[rv g' n cap' size hand, .int .i64 0]) (by simp [results, Try.results27, go_sem, e0, e1, e2]) rfl ⟨g', cap', rfl, hc', .inr (by omega), ?_, ?_⟩
  · rw [← HE.out]
    exact (((HR'.out.far (p := ⟨w.heap.size + 1, 0, none⟩) (by simp; omega) _).far (p := ⟨w.heap.size + 1, 1, none⟩) (by simp; omega) _).far (p := ⟨w.heap.size + 1, 2, none⟩) (by simp; omega) _)
  · exact ((HB5.out.setCell (p := ⟨w.heap.size + 1, 0, none⟩) (by simp) _).setCell (p := ⟨w.heap.size + 1, 1, none⟩) (by simp) _).setCell (p := ⟨w.heap.size + 1, 2, none⟩) (by simp) _
end
end Go.Proofs.Ytfilbbiiiaodiaa
