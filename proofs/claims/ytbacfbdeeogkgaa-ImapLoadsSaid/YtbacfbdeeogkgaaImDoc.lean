/-
  The document's inode map in memory; New.
-/
import Derived.Test.YtbacfbdeeogkgaaImLoad
namespace Go.Proofs.Ytbacfbdeeogkgaa
open Go.RowKit Go.Maps

abbrev RMP := 31
abbrev RIN := 68
theorem info_rin : (Try.prog.info? 68).map (fun i => (i.zero, i.size, i.bytes)) = some (some (.agg #[.int .i64 0, .int .i64 0, .bool false, .bool false]), 4, 24) := by kernel_rfl
/-- The inodes, told by functions of the place: version, address, busy, changed. -/
structure Rm (w : World) (g n : Nat) (A V : Nat → Int) (B H : Nat → Bool) : Prop where
  sl : ∃ cs, Blo w g RIN cs ∧ ∀ i, i < n → cs[i * 4]? = some (.int .i64 (V i)) ∧ cs[i * 4 + 1]? = some (.int .i64 (A i)) ∧ cs[i * 4 + 2]? = some (.bool (B i)) ∧ cs[i * 4 + 3]? = some (.bool (H i))
abbrev rmv (g n : Nat) : Value := .agg #[.slice (some ⟨g, 0, none⟩) n n]
section
variable {w w' : World} {g n i : Nat} {A V : Nat → Int} {B H : Nat → Bool}
theorem Rm.later (h : Rm w g n A V B H) (hb : Below w.heap.size w w') : Rm w' g n A V B H := by
  obtain ⟨cs, h1, h2⟩ := h.sl
  exact ⟨cs, h1.later hb, h2⟩
theorem Rm.lt (h : Rm w g n A V B H) : g < w.heap.size := by
  obtain ⟨cs, h1, _⟩ := h.sl
  exact h1.lt
theorem Rm.cell (h : Rm w g n A V B H) (hi : i < n) : w.cell? ⟨g, i * 4, none⟩ = some (.int .i64 (V i)) ∧ w.cell? ⟨g, i * 4 + 1, none⟩ = some (.int .i64 (A i)) ∧ w.cell? ⟨g, i * 4 + 2, none⟩ = some (.bool (B i)) ∧ w.cell? ⟨g, i * 4 + 3, none⟩ = some (.bool (H i)) := by
  obtain ⟨cs, h1, h2⟩ := h.sl
  obtain ⟨a, b, c, d⟩ := h2 i hi
  exact ⟨(h1.cell _).trans a, (h1.cell _).trans b, (h1.cell _).trans c, (h1.cell _).trans d⟩
theorem Rm.frozen (h : Rm w g n A V B H) (j : Nat) : w.frozen? ⟨g, j, none⟩ = false := by
  obtain ⟨cs, h1, _⟩ := h.sl
  exact h1.frozen j
theorem Rm.far (h : Rm w g n A V B H) {p : Addr} (hp : g ≠ p.block) (u : Value) : Rm (w.setCell p u) g n A V B H := by
  obtain ⟨cs, h1, h2⟩ := h.sl
  exact ⟨cs, h1.far hp u, h2⟩
theorem Rm.put (h : Rm w g n A V B H) (hi : i < n) (a v : Int) (b c : Bool) : Rm ((((w.setCell ⟨g, i * 4, none⟩ (.int .i64 v)).setCell ⟨g, i * 4 + 1, none⟩ (.int .i64 a)).setCell ⟨g, i * 4 + 2, none⟩ (.bool b)).setCell ⟨g, i * 4 + 3, none⟩ (.bool c)) g n (upd A i a) (upd V i v) (upd B i b) (upd H i c) := by
  obtain ⟨cs, h1, h2⟩ := h.sl
  refine ⟨_, (((h1.put (i * 4) (.int .i64 v)).put (i * 4 + 1) (.int .i64 a)).put (i * 4 + 2) (.bool b)).put (i * 4 + 3) (.bool c), fun j hj => ?_⟩
  have hs : i * 4 + 3 < cs.size := by
    rcases Nat.lt_or_ge (i * 4 + 3) cs.size with q | q
    · exact q
    · have := (h2 i hi).2.2.2
      rw [Array.getElem?_eq_none q] at this; cases this
  obtain ⟨x0, x1, x2, x3⟩ := h2 j hj
  by_cases e : j = i
  · subst e
    rw [upd_at, upd_at, upd_at, upd_at]
    refine ⟨?_, ?_, ?_, ?_⟩ <;> simp [Array.getElem?_setIfInBounds] <;> omega
  · rw [upd_ne _ _ _ e, upd_ne _ _ _ e, upd_ne _ _ _ e, upd_ne _ _ _ e]
    refine ⟨?_, ?_, ?_, ?_⟩
    · rw [Array.getElem?_setIfInBounds, if_neg (by omega), Array.getElem?_setIfInBounds, if_neg (by omega), Array.getElem?_setIfInBounds, if_neg (by omega), Array.getElem?_setIfInBounds, if_neg (by omega)]; exact x0
    · rw [Array.getElem?_setIfInBounds, if_neg (by omega), Array.getElem?_setIfInBounds, if_neg (by omega), Array.getElem?_setIfInBounds, if_neg (by omega), Array.getElem?_setIfInBounds, if_neg (by omega)]; exact x1
    · rw [Array.getElem?_setIfInBounds, if_neg (by omega), Array.getElem?_setIfInBounds, if_neg (by omega), Array.getElem?_setIfInBounds, if_neg (by omega), Array.getElem?_setIfInBounds, if_neg (by omega)]; exact x2
    · rw [Array.getElem?_setIfInBounds, if_neg (by omega), Array.getElem?_setIfInBounds, if_neg (by omega), Array.getElem?_setIfInBounds, if_neg (by omega), Array.getElem?_setIfInBounds, if_neg (by omega)]; exact x3
end
theorem run_make_rin (w : World) (n : Nat) (hn : n ≤ 1000) :
    ∃ cs, (Instr.makeSlice 29 (.int .i64 n) (.int .i64 n)).run Try.prog w = .ok (.slice (some ⟨w.heap.size, 0, none⟩) n n) (w.alloc (.cells cs RIN)) ∧ ∀ i, i < n → cs[i * 4]? = some (.int .i64 0) ∧ cs[i * 4 + 1]? = some (.int .i64 0) ∧ cs[i * 4 + 2]? = some (.bool false) ∧ cs[i * 4 + 3]? = some (.bool false) := by
  obtain ⟨i, hi0, hz, hs1, hb1⟩ := info_parts info_rin
  have hr := run_make (P := Try.prog) w 29 RIN i (.agg #[.int .i64 0, .int .i64 0, .bool false, .bool false]) Try.underlying29 hi0 hz .i64 .i64 n n (by omega) (Int.le_refl _) (by rw [hb1]; omega) (by omega)
  simp only [Int.toNat_natCast] at hr
  refine ⟨_, hr, fun j hj => ?_⟩
  rw [hs1]
  have e : (Value.agg #[.int .i64 0, .int .i64 0, .bool false, .bool false]).cells = #[.int .i64 0, .int .i64 0, .bool false, .bool false] := by kernel_rfl
  rw [e]
  have m0 : (j * 4) % 4 = 0 := by omega
  have m1 : (j * 4 + 1) % 4 = 1 := by omega
  have m2 : (j * 4 + 2) % 4 = 2 := by omega
  have m3 : (j * 4 + 3) % 4 = 3 := by omega
  refine ⟨?_, ?_, ?_, ?_⟩
  · simp [madeCells, show j * 4 < n * 4 by omega, m0]
  · simp [madeCells, show j * 4 + 1 < n * 4 by omega, m1]
  · simp [madeCells, show j * 4 + 2 < n * 4 by omega, m2]
  · simp [madeCells, show j * 4 + 3 < n * 4 by omega, m3]
set_option maxHeartbeats 1000000 in
theorem rnew_bad (n : Int) (w : World) (h : n < 4 ∨ 200 < n) :
    Calls Try.prog 21 #[.int .i64 n] w fun e w' => e = .returned (.tuple #[.agg #[.slice none 0 0], .int .i64 22]) ∧ Below w.heap.size w w' := by
  have HB := Lib.hid (sup_im w (.cells #[.slice none 0 0] RMP))
  by_cases h1 : n < 4
  · clear h
    go_enter Try.func21, Try.ntmps21
    go_wp2_with fail
    refine bodyPost_ret (v := .tuple #[.agg #[.slice none 0 0], .int .i64 22]) (by simp [results, Try.results21, go_sem]) rfl ⟨rfl, ?_⟩
    exact HB.out
  · have h2 : 200 < n := by omega
    clear h
    go_enter Try.func21, Try.ntmps21
    go_wp2_with fail
    refine bodyPost_ret (v := .tuple #[.agg #[.slice none 0 0], .int .i64 22]) (by simp [results, Try.results21, go_sem]) rfl ⟨rfl, ?_⟩
    exact HB.out
set_option maxRecDepth 100000 in
set_option maxHeartbeats 1000000 in
theorem rnew_any (n : Nat) (w : World) (h1 : 4 ≤ n) (h2 : n ≤ 200) :
    Calls Try.prog 21 #[.int .i64 n] w fun e w' => ∃ g, e = .returned (.tuple #[rmv g n, .int .i64 0]) ∧ w.heap.size ≤ g ∧ Rm w' g n (fun _ => 0) (fun _ => 0) (fun _ => false) (fun _ => false) ∧ Below w.heap.size w w' := by
  obtain ⟨cs, hmk, hcs⟩ := run_make_rin (w.alloc (.cells #[.slice none 0 0] RMP)) n (by omega)
  have HC := Lib.hid hcs
  have e1 : (w.alloc (.cells #[.slice none 0 0] RMP)).heap.size = w.heap.size + 1 := by simp
  rw [e1] at hmk
  have hx := blo_laid (w.alloc (.cells #[.slice (some ⟨w.heap.size + 1, 0, none⟩) n n] RMP)) RIN cs
  rw [show (w.alloc (.cells #[.slice (some ⟨w.heap.size + 1, 0, none⟩) n n] RMP)).heap.size = w.heap.size + 1 by simp] at hx
  have HX := Lib.hid hx
  have HB := Lib.hid ((sup_im w (.cells #[.slice (some ⟨w.heap.size + 1, 0, none⟩) n n] RMP)).alloc (by simp) (.cells cs RIN))
  clear hcs hx
  go_enter Try.func21, Try.ntmps21
  go_wp2_with fail
  refine bodyPost_ret (v := .tuple #[rmv (w.heap.size + 1) n, .int .i64 0]) (by simp [results, Try.results21, go_sem]) rfl ⟨w.heap.size + 1, rfl, by omega, ⟨cs, HX.out, HC.out⟩, HB.out⟩
end Go.Proofs.Ytbacfbdeeogkgaa
