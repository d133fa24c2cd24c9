/-
  The document's 'with' of a table.
-/
import Derived.Test.YtfilbbiiiaodiaaUrMem
namespace Go.Proofs.Ytfilbbiiiaodiaa
open Go.RowKit

def WithO (w : World) (n : Nat) (size hand : Int) (F : List Int) (e : Ending) (w' : World) : Prop :=
  ∃ g' cap', e = .returned (rv g' n cap' size hand) ∧ n ≤ cap' ∧ w.heap.size ≤ g' ∧ RT w' g' n F ∧ Below w.heap.size w w'
section
variable {w : World} {g n cap s : Nat} {size hand : Int} {F : List Int}
set_option maxHeartbeats 1000000 in
theorem rwith_any (L S A : Int) (h : RT w g n F) (hs : s < n) (hn : n ≤ 512) :
    Calls Try.prog 39 #[rv g n cap size hand, .int .i64 s, .agg #[.int .i64 L, .int .i64 S, .int .i64 A]] w (WithO w n size hand (set3 F s L S A)) := by
  obtain ⟨q0, q1, q2⟩ := three_laid w RTB RIN RTB #[.slice (some ⟨g, 0, none⟩) n cap, .int .i64 size, .int .i64 hand] #[.int .i64 L, .int .i64 S, .int .i64 A] #[.slice none 0 0, .int .i64 0, .int .i64 0]
  have hb0 : Below w.heap.size w (((w.alloc (.cells #[.slice (some ⟨g, 0, none⟩) n cap, .int .i64 size, .int .i64 hand] RTB)).alloc (.cells #[.int .i64 L, .int .i64 S, .int .i64 A] RIN)).alloc (.cells #[.slice none 0 0, .int .i64 0, .int .i64 0] RTB)) := (((Below.refl _ _).alloc (Nat.le_refl _) _).alloc (by simp) _).alloc (by simp; omega) _
  have HB0 := Lib.hid hb0
  have HR0 := Lib.hid (h.later hb0)
  have H0 := Lib.hid q0
  have H1 := Lib.hid q1
  have H2 := Lib.hid q2
  have i1 : (0 : Int) ≤ (s : Int) := by omega
  have i2 : (s : Int) < (n : Int) := by omega
  clear h q0 q1 q2 hb0
  go_enter Try.func39, Try.ntmps39
  go_wp2_with (at_builtin; refine wp_copy_tab rfl (.tmp 7) (.tmp 9) rfl rfl (by simp) rfl HR0.out (by omega) hn ?_; intro g' cap' w' hR' hlt hc hb'; have HR' := Lib.hid hR'; have hg9 : w.heap.size + 1 + 1 < g' := (by simp at hlt; omega); have HB' := Lib.hid hb'; have c0 := (H0.out.later hb').cell 0; have c1 := (H0.out.later hb').cell 1; have c2 := (H0.out.later hb').cell 2; have d0 := (H1.out.later hb').cell 0; have d1 := (H1.out.later hb').cell 1; have d2 := (H1.out.later hb').cell 2; have e0 := (H2.out.later hb').cell 0; have e1 := (H2.out.later hb').cell 1; have e2 := (H2.out.later hb').cell 2; have k0 := (H0.out.later hb').frozen 0; have k1 := (H2.out.later hb').frozen 0; have k2 := (H2.out.later hb').frozen 1; have k3 := (H2.out.later hb').frozen 2; simp at c0 c1 c2 d0 d1 d2 e0 e1 e2; have x0 := hR'.cell (s * 3) (by omega); have x1 := hR'.cell (s * 3 + 1) (by omega); have x2 := hR'.cell (s * 3 + 2) (by omega); have y0 := hR'.frozen (s * 3); have y1 := hR'.frozen (s * 3 + 1); have y2 := hR'.frozen (s * 3 + 2); clear hR' hlt hb')
  refine bodyPost_ret (v := rv g' n cap' size hand) (by simp [results, Try.results39, go_sem, e0, e1, e2]) rfl ⟨g', cap', rfl, hc, by omega, ?_, ?_⟩
  · exact (((((((HR'.out.far (p := ⟨w.heap.size, 0, none⟩) (by simp; omega) _).put (s * 3) L (by omega)).put (s * 3 + 1) S (by omega)).put (s * 3 + 2) A (by omega)).far (p := ⟨w.heap.size + 1 + 1, 0, none⟩) (by simp; omega) _).far (p := ⟨w.heap.size + 1 + 1, 1, none⟩) (by simp; omega) _).far (p := ⟨w.heap.size + 1 + 1, 2, none⟩) (by simp; omega) _)
  · have hb := HB0.out.trans (HB'.out.mono HB0.out.size)
    exact ((((((hb.setCell (p := ⟨w.heap.size, 0, none⟩) (Nat.le_refl _) _).setCell (p := ⟨g', s * 3, none⟩) (by simp; omega) _).setCell (p := ⟨g', s * 3 + 1, none⟩) (by simp; omega) _).setCell (p := ⟨g', s * 3 + 2, none⟩) (by simp; omega) _).setCell (p := ⟨w.heap.size + 1 + 1, 0, none⟩) (by simp; omega) _).setCell (p := ⟨w.heap.size + 1 + 1, 1, none⟩) (by simp; omega) _).setCell (p := ⟨w.heap.size + 1 + 1, 2, none⟩) (by simp; omega) _
end
end Go.Proofs.Ytfilbbiiiaodiaa
