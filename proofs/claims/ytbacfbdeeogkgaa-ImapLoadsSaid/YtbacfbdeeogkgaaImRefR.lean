/-
  The document's ReadMap.
-/
import Derived.Test.YtbacfbdeeogkgaaImPart
import Derived.Test.YtbacfbdeeogkgaaImRefB
import Derived.BigRegion
namespace Go.Proofs.Ytbacfbdeeogkgaa
open Go.RowKit

def r2A (l : List Nat) (i : Nat) : Int := (b2 l (i * 8) : Nat)
def OkR (l : List Nat) : Prop := AllG (r2A l) (rdV l) 8 ∧ encK (r2A l) (rdV l) 8 = l
theorem okR_of {l : List Nat} (h : OkM l) : (∀ i, i < 8 → r2A l i = rdA l i) := fun i hi => by
  have g := (h.1 i hi).2.1
  unfold rdA b4 at g
  unfold r2A rdA b4 b2
  omega
theorem okR_iff (l : List Nat) : OkR l ↔ OkM l := by
  constructor
  · intro h
    have := (okM_enc (r2A l) (rdV l) h.1).1
    rwa [h.2] at this
  · intro h
    have e := okR_of h
    refine ⟨fun i hi => by rw [e i hi]; exact h.1 i hi, ?_⟩
    rw [encK_ext 8 (A' := rdA l) (V' := rdV l) fun i hi => ⟨e i hi, rfl⟩]
    exact h.2
theorem okR_cells {l : List Nat} (h : OkM l) : cells16 (r2A l) (rdV l) = cells16 (rdA l) (rdV l) := cells16_ext fun i hi => ⟨okR_of h i hi, rfl⟩
def RrL (w : World) (F G : Nat → Int) (t : Value) (W : World) : Prop :=
  ∃ k : Nat, k ≤ 8 ∧ t = .int .i64 k ∧ Blo W (w.heap.size + 1) R8T (cells16 (cutF F k) (cutF G k)) ∧ Blo W w.heap.size R8T z16 ∧ Below w.heap.size w W
def RrO (w : World) (l : List Nat) (e : Ending) (w' : World) : Prop :=
  (OkM l ∧ e = .returned (.tuple #[.agg (cells16 (rdA l) (rdV l)), .int .i64 0]) ∨ ¬ OkM l ∧ e = .returned (.tuple #[.agg z16, .int .i64 100])) ∧ Below w.heap.size w w'
set_option maxRecDepth 100000 in
set_option maxHeartbeats 4000000 in
theorem rreadMap_64 (b o cap : Nat) (l : List Nat) (w : World) (hl : l.length = 64) (h : Bytes w (some ⟨b, o, none⟩) l) : Calls Try.prog 23 #[.slice (some ⟨b, o, none⟩) 64 cap] w (RrO w l) := by
  have H := Lib.hid h
  have HL := Lib.hid hl
  have hst : RrL w (r2A l) (rdV l) (.int .i64 0) ((w.alloc (.cells z16 R8T)).alloc (.cells z16 R8T)) := by
    refine ⟨0, by decide, rfl, ?_, (blo_laid w R8T z16).alloc _, ((Below.refl _ _).alloc (Nat.le_refl _) _).alloc (by simp) _⟩
    rw [cut16_none]
    have := blo_laid (w.alloc (.cells z16 R8T)) R8T z16
    rw [show (w.alloc (.cells z16 R8T)).heap.size = w.heap.size + 1 by simp] at this
    exact this
  have HSt := Lib.hid hst
  clear h hl hst
  show Calls Try.prog 23 #[.slice (some ⟨b, o, none⟩) 64 cap] w _
  go_enter Try.func23, Try.ntmps23
  go_wp2_with fail
  go_loopw [5] (fun t wr => RrL w (r2A l) (rdV l) t wr) (fun t _ => 8 - (intOf t).toNat)
  case atStart => exact HSt.out
  case round =>
    clear HSt
    obtain ⟨k, hk, rfl, h4, h2, hB⟩ := hrel
    have k0 : (0 : Int) ≤ (k : Int) := by omega
    by_cases hlt : k < 8
    · have k1 : (k : Int) < 8 := by omega
      have HKn : Hid (k < 8) := hlt
      have HB := Lib.hid hB
      have H2 := Lib.hid h2
      have H4 := Lib.hid h4
      obtain ⟨c0, c1⟩ := cells16_at (cutF (r2A l) k) (cutF (rdV l) k) k hlt
      rw [← h4.cell] at c0 c1
      have f0 := h4.frozen (k * 2)
      have f1 := h4.frozen (k * 2 + 1)
      have hby := H.out.below hB
      have cell : ∀ j, j < 64 → wr.cell? ⟨b, o + j, none⟩ = some (.int .u8 (l.getD j 0 : Nat)) := fun j hj => by
        obtain ⟨b', o', e', hc'⟩ := hby.2.2 (fun e => by have := HL.out; rw [e] at this; cases this)
        cases e'
        exact hc' j (by rw [HL.out]; exact hj)
      have y0 := cell (k * 8) (by omega)
      have y1 := cell (k * 8 + 1) (by omega)
      have y4 := cell (k * 8 + 4) (by omega)
      have y5 := cell (k * 8 + 5) (by omega)
      have HPut := Lib.hid (cut16_put (r2A l) (rdV l) k hlt)
      have hA : Hid (r2A l k = (l.getD (k * 8) 0 : Nat) + 256 * (l.getD (k * 8 + 1) 0 : Nat)) := by show _ = _; unfold r2A b2; omega
      have hV : Hid (rdV l k = (l.getD (k * 8 + 4) 0 : Nat) + 256 * (l.getD (k * 8 + 5) 0 : Nat)) := by show _ = _; unfold rdV b2; rw [show k * 8 + 4 + 1 = k * 8 + 5 by omega]; omega
      have xb := fun j => getD_byte hby.1 j
      have v0 := xb (k * 8)
      have v1 := xb (k * 8 + 1)
      have v4 := xb (k * 8 + 4)
      have v5 := xb (k * 8 + 5)
      generalize l.getD (k * 8) 0 = n0 at *
      generalize l.getD (k * 8 + 1) 0 = n1 at *
      generalize l.getD (k * 8 + 4) 0 = n4 at *
      generalize l.getD (k * 8 + 5) 0 = n5 at *
      have m1 : (0 : Int) ≤ 8 * (k : Int) := by omega
      have m2 : (8 : Int) * (k : Int) < 64 := by omega
      have m3 : ((8 : Int) * (k : Int)).toNat = k * 8 := by omega
      have m11 : (0 : Int) ≤ 8 * (k : Int) + 1 := by omega
      have m12 : (8 : Int) * (k : Int) + 1 < 64 := by omega
      have m13 : ((8 : Int) * (k : Int) + 1).toNat = k * 8 + 1 := by omega
      have m41 : (0 : Int) ≤ 8 * (k : Int) + 4 := by omega
      have m42 : (8 : Int) * (k : Int) + 4 < 64 := by omega
      have m43 : ((8 : Int) * (k : Int) + 4).toNat = k * 8 + 4 := by omega
      have m51 : (0 : Int) ≤ 8 * (k : Int) + 5 := by omega
      have m52 : (8 : Int) * (k : Int) + 5 < 64 := by omega
      have m53 : ((8 : Int) * (k : Int) + 5).toNat = k * 8 + 5 := by omega
      clear hby cell hB h2 h4 hlt hk xb
      go_wp2_with fail
      go_region
      all_goals
        go_wp2_with fail
        go_roundw
        case rel =>
          refine ⟨k + 1, HKn.out, by simp, ?_, (H2.out.far (p := ⟨w.heap.size + 1, k * 2, none⟩) (by show w.heap.size ≠ w.heap.size + 1; omega) _).far (p := ⟨w.heap.size + 1, k * 2 + 1, none⟩) (by show w.heap.size ≠ w.heap.size + 1; omega) _, ?_⟩
          · have e := HPut.out
            rw [hA.out, hV.out] at e
            rw [← e]
            exact (H4.out.put _ _).put _ _
          · exact ((HB.out.setCell (p := ⟨w.heap.size + 1, k * 2, none⟩) (Nat.le_succ _) _).setCell (p := ⟨w.heap.size + 1, k * 2 + 1, none⟩) (Nat.le_succ _) _).drew
        case measure => simp [intOf]; have := HKn.out; omega
    · have k1 : ¬ (k : Int) < 8 := by omega
      obtain rfl : k = 8 := by omega
      rw [cut16_all] at h4
      have HB := Lib.hid hB
      have H2 := Lib.hid h2
      have H4 := Lib.hid h4
      clear hB h2 h4
      have hui := Try.underlying64
      have HII : Hid ((Try.prog.info? R8T).map (·.size) = some (cells16 (r2A l) (rdV l)).size) := info_r8 _ _
      have HIZ : Hid ((Try.prog.info? R8T).map (·.size) = some z16.size) := info_r8 _ _
      have HOne := Lib.hid (cells16_one (r2A l) (rdV l))
      have HZ1 := Lib.hid (cells16_one (fun _ => 0) (fun _ => 0))
      have HRb := Lib.hid (rmapBlock_any (r2A l) (rdV l) wr)
      have HOk := Lib.hid (okR_iff l)
      have HCe : Hid (OkM l → cells16 (r2A l) (rdV l) = cells16 (rdA l) (rdV l)) := okR_cells
      have HEb := Lib.hid (encK_byte (r2A l) (rdV l) 8)
      generalize hcs : cells16 (r2A l) (rdV l) = CS at *
      clear hcs
      go_wp2_with (refine wpList_load_row rfl R8T (.tmp 4) rfl (w.heap.size + 1) rfl R8T CS (0, 0) _ H4.out hui rfl HII.out ?_)
      refine HRb.out.mono ?_
      rintro e w5 ⟨h1, hb5⟩
      have HB5 := Lib.hid (HB.out.trans (hb5.mono HB.out.size))
      have H25 := Lib.hid (H2.out.later hb5)
      have H45 := Lib.hid (H4.out.later hb5)
      have HBy := Lib.hid (H.out.below HB5.out)
      clear HB H2 H4 hb5 HRb
      have hcv := text_of HBy.out 64 cap HL.out.symm
      rcases h1 with ⟨hag, rfl⟩ | ⟨hag, rfl⟩
      · by_cases hen : encK (r2A l) (rdV l) 8 = l
        · have hok : OkM l := HOk.out.1 ⟨hag, hen⟩
          have HOK := Lib.hid hok
          rw [hen]
          generalize strOf l = tx at *
          clear hag hen hok
          go_wp2_with (first | (refine wpList_load_row rfl R8T (.tmp 4) rfl (w.heap.size + 1) rfl R8T CS (0, 0) _ H45.out hui rfl HII.out ?_) | (refine wpList_store_row rfl R8T (.tmp 2) (.tmp 64) rfl w.heap.size CS rfl rfl R8T _ H25.out HII.out (size_eqA HIZ.out HII.out) HOne.out ?_))
          have hrow := setRow_heap w5 w.heap.size _ CS _ _ H25.out
          have hld := run_loadVar_row _ _ R8T R8T CS (0, 0) _ hrow hui rfl HII.out
          refine bodyPost_ret (v := .tuple #[.agg CS, .int .i64 0]) ?_ rfl ⟨.inl ⟨HOK.out, by rw [HCe.out HOK.out]⟩, below_setRow HB5.out (Nat.le_refl _) _⟩
          simp [results, Try.results23, asAddr, hld]
        · have hs0 : ((strOf (encK (r2A l) (rdV l) 8)).toList == (strOf l).toList) = false := by
            exact str_ne HEb.out HBy.out.1 hen
          have hst : ((strOf (encK (r2A l) (rdV l) 8)).toList != (strOf l).toList) = true := by
            rw [bne, hs0]; rfl
          have HNo : Hid (¬ OkM l) := fun h => hen (HOk.out.2 h).2
          generalize strOf (encK (r2A l) (rdV l) 8) = tx at *
          generalize strOf l = ty at *
          clear hag hen
          go_wp2_with (refine wpList_store_row rfl R8T (.tmp 2) (.tmp 63) rfl w.heap.size z16 rfl rfl R8T _ H25.out HIZ.out rfl HZ1.out ?_)
          have hrow := setRow_heap w5 w.heap.size _ z16 _ _ H25.out
          have hld := run_loadVar_row _ _ R8T R8T z16 (0, 0) _ hrow hui rfl HIZ.out
          refine bodyPost_ret (v := .tuple #[.agg z16, .int .i64 100]) ?_ rfl ⟨.inr ⟨HNo.out, rfl⟩, below_setRow HB5.out (Nat.le_refl _) _⟩
          simp [results, Try.results23, asAddr, hld]
      · have HNo : Hid (¬ OkM l) := fun h => hag (HOk.out.2 h).1
        clear hag
        generalize strOf l = ty at *
        go_wp2_with (refine wpList_store_row rfl R8T (.tmp 2) (.tmp 63) rfl w.heap.size z16 rfl rfl R8T _ H25.out HIZ.out rfl HZ1.out ?_)
        have hrow := setRow_heap w5 w.heap.size _ z16 _ _ H25.out
        have hld := run_loadVar_row _ _ R8T R8T z16 (0, 0) _ hrow hui rfl HIZ.out
        refine bodyPost_ret (v := .tuple #[.agg z16, .int .i64 100]) ?_ rfl ⟨.inr ⟨HNo.out, rfl⟩, below_setRow HB5.out (Nat.le_refl _) _⟩
        simp [results, Try.results23, asAddr, hld]
end Go.Proofs.Ytbacfbdeeogkgaa
