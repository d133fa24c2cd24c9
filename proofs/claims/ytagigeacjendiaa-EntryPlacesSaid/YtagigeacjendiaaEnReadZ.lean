/-
  ReadDir of a block of zeros.
-/
import Derived.Test.YtagigeacjendiaaEnDirZ
import Derived.Test.YtagigeacjendiaaEnCutB
namespace Go.Proofs.Ytagigeacjendiaa
open Go.RowKit

theorem pre14 : preZ (List.replicate 14 0) = 0 := by decide
theorem z8d_put (k : Nat) (hk : k < 4) : (z8d.setIfInBounds (k * 2) (.int .i64 0)).setIfInBounds (k * 2 + 1) (.string ByteArray.empty) = z8d := by
  have : k = 0 ∨ k = 1 ∨ k = 2 ∨ k = 3 := by omega
  rcases this with rfl | rfl | rfl | rfl <;> simp
theorem z8d_at (k : Nat) (hk : k < 4) : z8d[k * 2]? = some (.int .i64 0) ∧ z8d[k * 2 + 1]? = some (.string ByteArray.empty) := by
  have : k = 0 ∨ k = 1 ∨ k = 2 ∨ k = 3 := by omega
  rcases this with rfl | rfl | rfl | rfl <;> exact ⟨rfl, rfl⟩
def RzL (w : World) (t : Value) (W : World) : Prop := ∃ k : Nat, k ≤ 4 ∧ t = .int .i64 k ∧ Blo W (w.heap.size + 1) A4D z8d ∧ Blo W w.heap.size A4D z8d ∧ Below w.heap.size w W
theorem info_a4 : (Try.prog.info? A4D).map (·.size) = some z8d.size := by
  show _ = some 8
  kernel_rfl
theorem z8d_one : z8d.all (·.oneCell') = true := by simp [Value.oneCell']
set_option maxRecDepth 100000 in
set_option maxHeartbeats 4000000 in
theorem readDirZ (b o cap : Nat) (w : World) (hcap : 64 ≤ cap) (h : Bytes w (some ⟨b, o, none⟩) (zK 4)) : Calls Try.prog 17 #[.slice (some ⟨b, o, none⟩) 64 cap] w fun e w' => e = .returned (.tuple #[.agg z8d, .int .i64 0]) ∧ Below w.heap.size w w' := by
  have H := Lib.hid h
  have hst : RzL w (.int .i64 0) ((w.alloc (.cells z8d A4D)).alloc (.cells z8d A4D)) := by
    refine ⟨0, by decide, rfl, ?_, (blo_laid w A4D z8d).alloc _, ((Below.refl _ _).alloc (Nat.le_refl _) _).alloc (by simp) _⟩
    have := blo_laid (w.alloc (.cells z8d A4D)) A4D z8d
    rw [show (w.alloc (.cells z8d A4D)).heap.size = w.heap.size + 1 by simp] at this
    exact this
  have HSt := Lib.hid hst
  clear h hst
  go_enter Try.func17, Try.ntmps17
  go_wp2_with fail
  go_loopw [16] (fun t wr => RzL w t wr) (fun t _ => 4 - (intOf t).toNat)
  case atStart => exact HSt.out
  case round =>
    clear HSt
    obtain ⟨k, hk, rfl, h4, h2, hB⟩ := hrel
    have k0 : (0 : Int) ≤ (k : Int) := by omega
    by_cases hlt : k < 4
    · have k1 : (k : Int) < 4 := by omega
      have HKn : Hid (k < 4) := hlt
      have HB := Lib.hid hB
      have H2 := Lib.hid h2
      have H4 := Lib.hid h4
      have hby := H.out.below hB
      have cell : ∀ j, j < 64 → wr.cell? ⟨b, o + j, none⟩ = some (.int .u8 0) := fun j hj => by
        obtain ⟨b', o', e', hc'⟩ := hby.2.2 (by decide)
        cases e'
        have := hc' j (by unfold zK; simpa using hj)
        rw [this]
        have hz : (zK 4).getD j 0 = 0 := by unfold zK; rw [List.getD_eq_getElem?_getD, List.getElem?_replicate]; split <;> rfl
        rw [hz]; rfl
      have Hcell := Lib.hid cell
      obtain ⟨o1, ho1⟩ : ∃ o1, o1 = o + k * 16 := ⟨_, rfl⟩
      obtain ⟨n1, hn1⟩ : ∃ n1, n1 = 64 - k * 16 := ⟨_, rfl⟩
      obtain ⟨q1, hq1⟩ : ∃ q1, q1 = cap - k * 16 := ⟨_, rfl⟩
      obtain ⟨q2, hq2⟩ : ∃ q2, q2 = q1 - 2 := ⟨_, rfl⟩
      obtain ⟨o2, ho2⟩ : ∃ o2, o2 = o1 + 2 := ⟨_, rfl⟩
      have hr1 := cut_from b o 64 cap (k * 16) o1 n1 q1 ((k : Int) * 16) (by omega) (by omega) hcap (by decide) ho1 hn1 hq1
      have hr2 := cut_upto b o1 n1 q1 16 16 rfl (by omega) (by omega) (by omega) (by omega)
      have hr3 := cut_from b o1 16 q1 2 o2 14 q2 2 rfl (by omega) (by omega) (by omega) ho2 rfl hq2
      have hr5 := cut_upto b o1 16 q1 2 2 rfl (by omega) (by omega) (by omega) (by omega)
      have HCut : Hid (∀ W g, Below wr.heap.size wr W → W.cell? ⟨g, 0, none⟩ = some (.int .u8 0) → Calls Try.prog 30 #[.slice (some ⟨b, o2, none⟩) 14 q2, .slice (some ⟨g, 0, none⟩) 1 1] W (CutO W b o2 14 q2 (List.replicate 14 0))) := fun W g hW hg =>
        cut_any b o2 14 q2 g 1 (List.replicate 14 0) W rfl (by omega) (by omega) (by decide) (fun i hi => by
          have hz : (List.replicate 14 0).getD i 0 = 0 := by rw [List.getD_eq_getElem?_getD, List.getElem?_replicate]; split <;> rfl
          rw [hz, ho2, ho1, Nat.add_assoc, Nat.add_assoc]
          exact cell_later hW (cell _ (by omega))) hg
      have HG2 : Hid (∀ W, Below wr.heap.size wr W → Calls Try.prog 25 #[.slice (some ⟨b, o1, none⟩) 2 q1] W fun e w' => e = .returned (.int .i64 0) ∧ W = w') := fun W hW =>
        get2_any 0 0 b o1 q1 W (by decide) (by decide) (by rw [ho1]; exact cell_later hW (cell _ (by omega))) (by rw [ho1, Nat.add_assoc]; exact cell_later hW (cell _ (by omega)))
      have hcv : ∀ W : World, (convert 26 9 (.slice (some ⟨b, o2, none⟩) 0 q2)).run Try.prog W = .ok (.string ByteArray.empty) W := fun W => by
        have := run_str W 26 9 U8 Try.underlying26 Try.underlying5 Try.underlying9 [] (some ⟨b, o2, none⟩) 0 q2 rfl ⟨by simp, by decide, fun h => absurd rfl h⟩
        exact this
      have HPut := Lib.hid (z8d_put k hlt)
      clear hby cell ho1 hn1 hq1 hq2 ho2 hB h2 h4 hlt hk
      go_upto_region 8 with fail
      have hal := sup_en wr (.cells #[.int .u8 0] U8)
      go_wp2_with fail
      refine (HCut.out _ _ hal (by simp)).mono ?_
      rintro e w5 ⟨⟨v2, v3, rfl⟩, hb5⟩
      rw [pre14]
      have HB5 := Lib.hid (hal.trans (hb5.mono hal.size))
      have H45 := Lib.hid (H4.out.later HB5.out)
      have H25 := Lib.hid (H2.out.later HB5.out)
      obtain ⟨c0, c1⟩ := z8d_at k HKn.out
      rw [← H45.out.cell] at c0 c1
      have f0 := H45.out.frozen (k * 2)
      have f1 := H45.out.frozen (k * 2 + 1)
      clear hb5 hal HCut
      go_wp2_with fail
      go_region_with (first
        | (go_at_call 25; (with_reducible refine (HG2.out _ HB5.out.drew).mono ?_); rintro e w6 ⟨rfl, rfl⟩)
        | fail)
      all_goals
        go_wp2_with fail
        go_roundw
        case rel =>
          refine ⟨k + 1, HKn.out, by simp, ?_, (H25.out.far (p := ⟨w.heap.size + 1, k * 2, none⟩) (by show w.heap.size ≠ w.heap.size + 1; omega) _).far (p := ⟨w.heap.size + 1, k * 2 + 1, none⟩) (by show w.heap.size ≠ w.heap.size + 1; omega) _, ?_⟩
          · have e := (H45.out.put (k * 2) (.int .i64 0)).put (k * 2 + 1) (.string ByteArray.empty)
            rw [HPut.out] at e
            exact e
          · exact (((HB.out.trans (HB5.out.mono HB.out.size)).setCell (p := ⟨w.heap.size + 1, k * 2, none⟩) (Nat.le_succ _) _).setCell (p := ⟨w.heap.size + 1, k * 2 + 1, none⟩) (Nat.le_succ _) _).drew
        case measure => simp [intOf]; have := HKn.out; omega
    · have k1 : ¬ (k : Int) < 4 := by omega
      obtain rfl : k = 4 := by omega
      have HB := Lib.hid hB
      have H2 := Lib.hid h2
      have H4 := Lib.hid h4
      clear hB h2 h4
      have x0 := H4.out.cell 0
      have x1 := H4.out.cell 1
      have x2 := H4.out.cell 2
      have x3 := H4.out.cell 3
      have x4 := H4.out.cell 4
      have x5 := H4.out.cell 5
      have x6 := H4.out.cell 6
      have x7 := H4.out.cell 7
      simp at x0 x1 x2 x3 x4 x5 x6 x7
      go_wp2_with fail
      refine (dirBlockZ _).mono ?_
      rintro e w5 ⟨⟨a, c5, rfl, ho5⟩, hb5⟩
      have HB5 := Lib.hid (HB.out.trans (hb5.mono HB.out.size))
      have H25 := Lib.hid (H2.out.later hb5)
      have H45 := Lib.hid (H4.out.later hb5)
      have HBy := Lib.hid (H.out.below HB5.out)
      obtain ⟨a', c', hva, hby⟩ := Bytes.own ho5 (by unfold zK; simp)
      cases hva
      have HEy := Lib.hid hby.2.1
      clear ho5 hb5 hby HB H2 H4 x0 x1 x2 x3 x4 x5 x6 x7
      go_wp2_with fail
      refine (equal_same (zK 4) 64 (by decide) _ _ _ _ _ HEy.out HBy.out).mono ?_
      rintro e wf ⟨rfl, rfl⟩
      have hui := Try.underlying40
      have HII : Hid ((Try.prog.info? A4D).map (·.size) = some z8d.size) := info_a4
      have HOne := Lib.hid z8d_one
      go_wp2_with (first | (refine wpList_load_row rfl A4D (.tmp 4) rfl (w.heap.size + 1) rfl A4D z8d (0, 0) _ H45.out hui rfl HII.out ?_) | (refine wpList_store_row rfl A4D (.tmp 2) (.tmp 55) rfl w.heap.size z8d rfl rfl A4D _ H25.out HII.out rfl HOne.out ?_))
      have hrow : (w5.setRow w.heap.size z8d).heap[w.heap.size]? = some (.cells z8d A4D (0, 0)) := setRow_heap w5 w.heap.size _ _ _ _ H25.out
      refine bodyPost_ret (v := .tuple #[.agg z8d, .int .i64 0]) ?_ rfl ⟨rfl, below_setRow HB5.out (Nat.le_refl _) _⟩
      simp [results, Try.results17, asAddr, run_loadVar_row _ _ A4D A4D z8d (0, 0) _ hrow hui rfl HII.out]
end Go.Proofs.Ytagigeacjendiaa
