/-
  The heap's methods: Len, Less, Swap.
-/
import Derived.Test.YtdnkeplmjimjcaaChMem
import Derived.Test.YtdnkeplmjimjcaaQuiet
import Derived.Test.YtdnkeplmjimjcaaRows
import Derived.BigQuiet
import Derived.Deep.DeepCutAuto
import Derived.StillTailTactics
namespace Go.Proofs.Ytdnkeplmjimjcaa
open Go.RowKit

theorem BufO.drew {w : World} {b : Nat} {s : Bf} {a : Int} (hB : BufO w b s a) : BufO w.drew b s a := hB.later ((Below.refl _ _).drew)
section
variable {w w' : World} {base m cap gr i j C : Nat} {h : Nat → Nat} {S : Nat → Bf}
theorem glen_any (w : World) (a : Option Addr) (m cap : Nat) : Calls Try.prog 52 #[.slice a m cap] w fun e w' => e = .returned (.int .i64 m) ∧ w = w' := by
  go_enter Try.func52, Try.ntmps52
  go_wp2
  go_ret
  exact ⟨rfl, rfl⟩
theorem GS.rowcell (hG : GS w base (.slice (some ⟨gr, 0, none⟩) m cap) m h S) (hi : i < m) : w.cell? ⟨gr, i, none⟩ = some (.pointer (some ⟨h i, 0, none⟩)) := by
  have h1 := hG.row.cellAt i (by simp; exact hi)
  rw [h1, ptrs_get h hi]
set_option maxHeartbeats 4000000 in
theorem gless_any (hG : GS w base (.slice (some ⟨gr, 0, none⟩) m cap) m h S) (hi : i < m) (hj : j < m) (hm : m ≤ 4096) :
    Calls Try.prog 88 #[.slice (some ⟨gr, 0, none⟩) m cap, .int .i64 i, .int .i64 j] w fun e w' => e = .returned (.bool (decide ((S (h i)).used < (S (h j)).used))) ∧ Below w.heap.size w w' := by
  have r1 := hG.rowcell hi
  have r2 := hG.rowcell hj
  obtain ⟨-, -, -, -, u1, -⟩ := (hG.buf i hi).cells
  obtain ⟨-, -, -, -, u2, -⟩ := (hG.buf j hj).cells
  have i1 : (0 : Int) ≤ (i : Int) := by omega
  have i2 : (i : Int) < (m : Int) := by omega
  have j1 : (0 : Int) ≤ (j : Int) := by omega
  have j2 : (j : Int) < (m : Int) := by omega
  clear hG
  generalize (S (h i)).used = a at *
  generalize (S (h j)).used = b at *
  generalize h i = hi' at *
  generalize h j = hj' at *
  have k1 : ∀ x : Kept w, x.at_.cell? ⟨gr, i, none⟩ = some (.pointer (some ⟨hi', 0, none⟩)) := fun x => cell_later x.below r1
  have k2 : ∀ x : Kept w, x.at_.cell? ⟨gr, j, none⟩ = some (.pointer (some ⟨hj', 0, none⟩)) := fun x => cell_later x.below r2
  have k3 : ∀ x : Kept w, x.at_.cell? ⟨hi', 68, none⟩ = some (.int .i64 a) := fun x => cell_later x.below u1
  have k4 : ∀ x : Kept w, x.at_.cell? ⟨hj', 68, none⟩ = some (.int .i64 b) := fun x => cell_later x.below u2
  go_enter Try.func88, Try.ntmps88
  go_upto_region 1 with (fail)
  refine wp_region_kept (by kernel_rfl) (by kernel_rfl) ?_
  repeat (go_big_quiet_step (fail))
  refine wpQuiet_nil ?_
  rintro W4 ⟨w4, rfl⟩
  have hb := w4.below
  have HB := Lib.hid hb
  clear hb
  go_wp2_with fail
  go_ret
  exact ⟨rfl, HB.out⟩
theorem GS.rowfrozen (hG : GS w base (.slice (some ⟨gr, 0, none⟩) m cap) m h S) (i : Nat) : w.frozen? ⟨gr, i, none⟩ = false := hG.row.frozenAt i
theorem GS.gr_ne (hG : GS w base (.slice (some ⟨gr, 0, none⟩) m cap) m h S) (hi : i < m) : h i ≠ gr := by
  rcases hG.row.2 with ⟨e, _⟩ | ⟨g, cap', cur, hv, _, hb, _⟩
  · cases e
  · cases hv
    exact (hG.buf i hi).apart (show Blo w gr PB cur from hb) (by decide)
theorem ptrs_sw (h : Nat → Nat) (hi : i < m) (hj : j < m) : ((ptrs h m).set i (.pointer (some ⟨h j, 0, none⟩))).set j (.pointer (some ⟨h i, 0, none⟩)) = ptrs (sw h i j) m := by
  apply List.ext_getElem?
  intro k
  rw [List.getElem?_set, List.getElem?_set]
  simp only [List.length_set, ptrs_len]
  by_cases hk : k < m
  · rw [ptrs_get (sw h i j) hk]
    by_cases e : j = k
    · subst e; rw [if_pos rfl, if_pos hj, sw_r]
    · rw [if_neg e]
      by_cases e2 : i = k
      · subst e2; rw [if_pos rfl, if_pos hi, sw_l]
      · rw [if_neg e2, ptrs_get h hk, sw_ne h (fun q => e2 q.symm) (fun q => e q.symm)]
  · rw [List.getElem?_eq_none (by rw [ptrs_len]; omega), if_neg (by omega), if_neg (by omega), List.getElem?_eq_none (by rw [ptrs_len]; omega)]
set_option maxHeartbeats 4000000 in
theorem gswap_any (hG : GS w base (.slice (some ⟨gr, 0, none⟩) m cap) m h S) (hi : i < m) (hj : j < m) (hm : m ≤ 4096) (hne : i ≠ j) :
    Calls Try.prog 89 #[.slice (some ⟨gr, 0, none⟩) m cap, .int .i64 i, .int .i64 j] w fun e w' => e = .returned (.tuple #[]) ∧ GS w' base (.slice (some ⟨gr, 0, none⟩) m cap) m (sw h i j) S ∧ Out (XG (.slice (some ⟨gr, 0, none⟩) m cap) m h) w w' := by
  have r1 := hG.rowcell hi
  have r2 := hG.rowcell hj
  have f1 := hG.rowfrozen i
  have f2 := hG.rowfrozen j
  have i1 : (0 : Int) ≤ (i : Int) := by omega
  have i2 : (i : Int) < (m : Int) := by omega
  have j1 : (0 : Int) ≤ (j : Int) := by omega
  have j2 : (j : Int) < (m : Int) := by omega
  have HG := Lib.hid hG
  clear hG
  go_enter Try.func89, Try.ntmps89
  go_wp2_with fail
  go_region
  have HF0 : Hid (∀ k, k < m → BufO (((w.setCell ⟨gr, i, none⟩ (.pointer (some ⟨h j, 0, none⟩))).setCell ⟨gr, j, none⟩ (.pointer (some ⟨h i, 0, none⟩))).drew) (h k) (S (h k)) ((k : Nat) : Int)) := fun k hk => (((HG.out.buf k hk).far (p := ⟨gr, i, none⟩) (HG.out.gr_ne hk) _).far (p := ⟨gr, j, none⟩) (HG.out.gr_ne hk) _).drew
  have HR0 : Hid ((((w.setCell ⟨gr, i, none⟩ (.pointer (some ⟨h j, 0, none⟩))).setCell ⟨gr, j, none⟩ (.pointer (some ⟨h i, 0, none⟩))).drew).ownsRow base PB 1 (.slice (some ⟨gr, 0, none⟩) m cap) m (ptrs (sw h i j) m)) := by
    have := ((HG.out.row.stored i (.pointer (some ⟨h j, 0, none⟩))).1.stored j (.pointer (some ⟨h i, 0, none⟩))).1
    rw [ptrs_sw h hi hj] at this
    exact own_later this ((Below.refl _ _).drew)
  have HO0 : Hid (Out (XG (.slice (some ⟨gr, 0, none⟩) m cap) m h) w (((w.setCell ⟨gr, i, none⟩ (.pointer (some ⟨h j, 0, none⟩))).setCell ⟨gr, j, none⟩ (.pointer (some ⟨h i, 0, none⟩))).drew)) := (((Out.refl _ w).put (p := ⟨gr, i, none⟩) (.inl rfl) _).put (p := ⟨gr, j, none⟩) (.inl rfl) _).drawn
  generalize ((w.setCell ⟨gr, i, none⟩ (.pointer (some ⟨h j, 0, none⟩))).setCell ⟨gr, j, none⟩ (.pointer (some ⟨h i, 0, none⟩))).drew = w1 at *
  have hnn : h i ≠ h j := fun e => hne (HG.out.inj hi hj e)
  clear r1 r2 f1 f2
  have r1 : w1.cell? ⟨gr, i, none⟩ = some (.pointer (some ⟨h j, 0, none⟩)) := by rw [HR0.out.cellAt i (by simp; exact hi), ptrs_get _ hi, sw_l]
  have r2 : w1.cell? ⟨gr, j, none⟩ = some (.pointer (some ⟨h i, 0, none⟩)) := by rw [HR0.out.cellAt j (by simp; exact hj), ptrs_get _ hj, sw_r]
  obtain ⟨-, -, -, -, -, u1⟩ := (HF0.out i hi).cells
  obtain ⟨-, -, -, -, -, u2⟩ := (HF0.out j hj).cells
  have f1 := (HF0.out i hi).frozen 69
  have f2 := (HF0.out j hj).frozen 69
  have HE : Hid (GS (((w1.setCell ⟨h j, 69, none⟩ (.int .i64 i)).setCell ⟨h i, 69, none⟩ (.int .i64 j)).drew) base (.slice (some ⟨gr, 0, none⟩) m cap) m (sw h i j) S ∧ Out (XG (.slice (some ⟨gr, 0, none⟩) m cap) m h) w (((w1.setCell ⟨h j, 69, none⟩ (.int .i64 i)).setCell ⟨h i, 69, none⟩ (.int .i64 j)).drew)) := by
    refine ⟨⟨own_later ((own_far (own_far HR0.out (p := ⟨h j, 69, none⟩) ?_ _) (p := ⟨h i, 69, none⟩) ?_ _)) ((Below.refl _ _).drew), fun k hk => ?_⟩, ((HO0.out.put (p := ⟨h j, 69, none⟩) (.inr ⟨j, hj, rfl⟩) _).put (p := ⟨h i, 69, none⟩) (.inr ⟨i, hi, rfl⟩) _).drawn⟩
    · intro e; exact HG.out.gr_ne hj (by simpa [Value.ownBlock] using e)
    · intro e; exact HG.out.gr_ne hi (by simpa [Value.ownBlock] using e)
    · by_cases e : k = i
      · subst e
        rw [sw_l]
        exact (((HF0.out j hj).put_at _).far (p := ⟨h k, 69, none⟩) (fun q => hnn q.symm) _).drew
      · by_cases e2 : k = j
        · subst e2
          rw [sw_r]
          exact (((HF0.out i hi).far (p := ⟨h k, 69, none⟩) hnn _).put_at _).drew
        · rw [sw_ne h e e2]
          exact (((HF0.out k hk).far (p := ⟨h j, 69, none⟩) (fun q => e2 (HG.out.inj hk hj q)) _).far (p := ⟨h i, 69, none⟩) (fun q => e (HG.out.inj hk hi q)) _).drew
  generalize hhi : h i = a at *
  generalize hhj : h j = b at *
  clear HF0 HR0 HO0 HG hhi hhj
  go_wp2_with fail
  go_region
  all_goals (go_wp2_with fail)
  go_end0
  exact ⟨rfl, HE.out⟩
end
end Go.Proofs.Ytdnkeplmjimjcaa
