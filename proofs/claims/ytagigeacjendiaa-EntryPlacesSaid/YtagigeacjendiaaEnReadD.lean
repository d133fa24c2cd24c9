/-
  ReadDir of any 64 bytes.
-/
import Derived.Test.YtagigeacjendiaaEnDirB
import Derived.Test.YtagigeacjendiaaEnReadZ
import Derived.Test.YtagigeacjendiaaEnPart
namespace Go.Proofs.Ytagigeacjendiaa
open Go.RowKit

def sub14 (l : List Nat) (k : Nat) : List Nat := (l.drop (k * 16 + 2)).take 14
def rdI (l : List Nat) (k : Nat) : Int := (b2 l (k * 16) : Nat)
def rdN (l : List Nat) (k : Nat) : ByteArray := strOf ((sub14 l k).take (preZ (sub14 l k)))
def cutN (N : Nat → ByteArray) (k i : Nat) : ByteArray := if i < k then N i else ⟨#[]⟩
theorem cut8_all (F : Nat → Int) (G : Nat → ByteArray) : cells8 (cutF F 4) (cutN G 4) = cells8 F G := by simp [cells8, cutF, cutN]
theorem cut8_none (F : Nat → Int) (G : Nat → ByteArray) : cells8 (cutF F 0) (cutN G 0) = z8d := by simp [cells8, cutF, cutN]; rfl
theorem cut8_put (F : Nat → Int) (G : Nat → ByteArray) (k : Nat) (hk : k < 4) : ((cells8 (cutF F k) (cutN G k)).setIfInBounds (k * 2) (.int .i64 (F k))).setIfInBounds (k * 2 + 1) (.string (G k)) = cells8 (cutF F (k + 1)) (cutN G (k + 1)) := by
  have : k = 0 ∨ k = 1 ∨ k = 2 ∨ k = 3 := by omega
  rcases this with rfl | rfl | rfl | rfl <;> simp [cells8, cutF, cutN]
theorem sub14_len {l : List Nat} (hl : l.length = 64) {k : Nat} (hk : k < 4) : (sub14 l k).length = 14 := by unfold sub14; rw [List.length_take, List.length_drop]; omega
theorem sub14_get {l : List Nat} (k i : Nat) (hi : i < 14) : (sub14 l k).getD i 0 = l.getD (k * 16 + 2 + i) 0 := by
  unfold sub14
  rw [List.getD_eq_getElem?_getD, List.getD_eq_getElem?_getD, List.getElem?_take_of_lt hi, List.getElem?_drop]
theorem preZ_le (l : List Nat) : preZ l ≤ l.length := by
  unfold preZ
  have := iz_bd l
  split <;> omega
theorem strOf_len (l : List Nat) : (strOf l).size = l.length := by rw [Lib.size_eq, strOf_toList, List.length_map]
theorem rdN_size {l : List Nat} (hl : l.length = 64) {k : Nat} (hk : k < 4) : (rdN l k).size ≤ 14 := by
  unfold rdN
  rw [strOf_len, List.length_take, sub14_len hl hk]; omega
theorem rd_fit {l : List Nat} (hl : l.length = 64) (hb : ∀ x ∈ l, x < 256) : FitD (rdI l) (rdN l) := fun i hi => by
  have h0 := getD_byte hb (i * 16)
  have h1 := getD_byte hb (i * 16 + 1)
  have h2 := rdN_size hl hi
  refine ⟨?_, by unfold maxLen; omega⟩
  unfold rdI b2 FitZ
  omega
def OkD (l : List Nat) : Prop := AllGD (rdI l) (rdN l) 4 ∧ encDK (rdI l) (rdN l) 4 = l
def RdO (w : World) (l : List Nat) (e : Ending) (w' : World) : Prop :=
  (OkD l ∧ e = .returned (.tuple #[.agg (cells8 (rdI l) (rdN l)), .int .i64 0]) ∨ ¬ OkD l ∧ e = .returned (.tuple #[.agg z8d, .int .i64 100])) ∧ Below w.heap.size w w'
theorem info_a4g (F : Nat → Int) (G : Nat → ByteArray) : (Try.prog.info? A4D).map (·.size) = some (cells8 F G).size := by
  show _ = some 8
  kernel_rfl
theorem cells8_one (F : Nat → Int) (G : Nat → ByteArray) : (cells8 F G).all (·.oneCell') = true := by simp [cells8, Value.oneCell']
def RdL (w : World) (F : Nat → Int) (G : Nat → ByteArray) (t : Value) (W : World) : Prop :=
  ∃ k : Nat, k ≤ 4 ∧ t = .int .i64 k ∧ Blo W (w.heap.size + 1) A4D (cells8 (cutF F k) (cutN G k)) ∧ Blo W w.heap.size A4D z8d ∧ Below w.heap.size w W
set_option maxRecDepth 100000 in
set_option maxHeartbeats 8000000 in
theorem readDir_64 (b o cap : Nat) (l : List Nat) (w : World) (hl : l.length = 64) (hcap : 64 ≤ cap) (h : Bytes w (some ⟨b, o, none⟩) l) : Calls Try.prog 17 #[.slice (some ⟨b, o, none⟩) 64 cap] w (RdO w l) := by
  have H := Lib.hid h
  have HL := Lib.hid hl
  have HFit := Lib.hid (rd_fit hl h.1)
  have HX := Lib.hid (fun j => getD_byte h.1 j)
  have hst : RdL w (rdI l) (rdN l) (.int .i64 0) ((w.alloc (.cells z8d A4D)).alloc (.cells z8d A4D)) := by
    refine ⟨0, by decide, rfl, ?_, (blo_laid w A4D z8d).alloc _, ((Below.refl _ _).alloc (Nat.le_refl _) _).alloc (by simp) _⟩
    rw [cut8_none]
    have := blo_laid (w.alloc (.cells z8d A4D)) A4D z8d
    rw [show (w.alloc (.cells z8d A4D)).heap.size = w.heap.size + 1 by simp] at this
    exact this
  have HSt := Lib.hid hst
  clear h hl hst
  show Calls Try.prog 17 #[.slice (some ⟨b, o, none⟩) 64 cap] w _
  go_enter Try.func17, Try.ntmps17
  go_wp2_with fail
  go_loopw [16] (fun t wr => RdL w (rdI l) (rdN l) t wr) (fun t _ => 4 - (intOf t).toNat)
  case atStart => exact HSt.out
  case round =>
    clear HSt
    obtain ⟨k, hk, rfl, h4, h2, hB⟩ := hrel
    have k0 : (0 : Int) ≤ (k : Int) := by omega
    by_cases hlt : k < 4
    · have k1 : (k : Int) < 4 := by omega
      have HKn : Hid (k < 4) := hlt
      have HB := Lib.hid hB
      have H2 := Lib.hid h2
      have H4 := Lib.hid h4
      have hby := H.out.below hB
      have cell : ∀ j, j < 64 → wr.cell? ⟨b, o + j, none⟩ = some (.int .u8 (l.getD j 0 : Nat)) := fun j hj => by
        obtain ⟨b', o', e', hc'⟩ := hby.2.2 (fun e => by have := HL.out; rw [e] at this; cases this)
        cases e'
        exact hc' j (by rw [HL.out]; exact hj)
      obtain ⟨o1, ho1⟩ : ∃ o1, o1 = o + k * 16 := ⟨_, rfl⟩
      obtain ⟨n1, hn1⟩ : ∃ n1, n1 = 64 - k * 16 := ⟨_, rfl⟩
      obtain ⟨q1, hq1⟩ : ∃ q1, q1 = cap - k * 16 := ⟨_, rfl⟩
      obtain ⟨q2, hq2⟩ : ∃ q2, q2 = q1 - 2 := ⟨_, rfl⟩
      obtain ⟨o2, ho2⟩ : ∃ o2, o2 = o1 + 2 := ⟨_, rfl⟩
      have hr1 := cut_from b o 64 cap (k * 16) o1 n1 q1 ((k : Int) * 16) (by omega) (by omega) hcap (by decide) ho1 hn1 hq1
      have hr2 := cut_upto b o1 n1 q1 16 16 rfl (by omega) (by omega) (by omega) (by omega)
      have hr3 := cut_from b o1 16 q1 2 o2 14 q2 2 rfl (by omega) (by omega) (by omega) ho2 rfl hq2
      have hr5 := cut_upto b o1 16 q1 2 2 rfl (by omega) (by omega) (by omega) (by omega)
      have hs14 := sub14_len HL.out hlt
      have scell : ∀ W, Below wr.heap.size wr W → ∀ i, i < 14 → W.cell? ⟨b, o2 + i, none⟩ = some (.int .u8 ((sub14 l k).getD i 0 : Nat)) := fun W hW i hi => by
        rw [sub14_get k i hi, ho2, ho1, Nat.add_assoc, Nat.add_assoc, ← Nat.add_assoc (k * 16)]
        exact cell_later hW (cell _ (by omega))
      have HCut : Hid (∀ W g, Below wr.heap.size wr W → W.cell? ⟨g, 0, none⟩ = some (.int .u8 0) → Calls Try.prog 30 #[.slice (some ⟨b, o2, none⟩) 14 q2, .slice (some ⟨g, 0, none⟩) 1 1] W (CutO W b o2 14 q2 (sub14 l k))) := fun W g hW hg =>
        cut_any b o2 14 q2 g 1 (sub14 l k) W hs14 (by omega) (by omega) (by decide) (scell W hW) hg
      have HG2 : Hid (∀ W, Below wr.heap.size wr W → Calls Try.prog 25 #[.slice (some ⟨b, o1, none⟩) 2 q1] W fun e w' => e = .returned (.int .i64 (rdI l k)) ∧ W = w') := fun W hW =>
        get2_any (l.getD (k * 16) 0) (l.getD (k * 16 + 1) 0) b o1 q1 W (HX.out _) (HX.out _) (by rw [ho1]; exact cell_later hW (cell _ (by omega))) (by rw [ho1, Nat.add_assoc]; exact cell_later hW (cell _ (by omega)))
      have HCv : Hid (∀ W, Below wr.heap.size wr W → (convert 26 9 (.slice (some ⟨b, o2, none⟩) (preZ (sub14 l k)) q2)).run Try.prog W = .ok (.string (rdN l k)) W) := fun W hW => by
        refine text_of (l := (sub14 l k).take (preZ (sub14 l k))) ⟨fun x hx => ?_, by rw [List.length_take]; omega, fun _ => ⟨b, o2, rfl, fun i hi => ?_⟩⟩ _ _ ?_
        · have hx2 := List.mem_of_mem_take hx
          unfold sub14 at hx2
          exact H.out.1 x (List.mem_of_mem_drop (List.mem_of_mem_take hx2))
        · rw [List.length_take] at hi
          rw [scell W hW i (by omega), List.getD_eq_getElem?_getD, List.getD_eq_getElem?_getD, List.getElem?_take_of_lt (by omega)]
        · have := preZ_le (sub14 l k); rw [List.length_take]; omega
      have HPut := Lib.hid (cut8_put (rdI l) (rdN l) k hlt)
      obtain ⟨cc0, cc1⟩ := cells8_at (cutF (rdI l) k) (cutN (rdN l) k) k hlt
      have HC0 := Lib.hid cc0
      have HC1 := Lib.hid cc1
      generalize rdI l k = ik at *
      generalize rdN l k = nk at *
      clear hby cell ho1 hn1 hq1 hq2 ho2 hB h2 h4 hlt hk hs14 scell cc0 cc1
      go_upto_region 8 with fail
      have hal := sup_en wr (.cells #[.int .u8 0] U8)
      go_wp2_with fail
      refine (HCut.out _ _ hal (by simp)).mono ?_
      rintro e w5 ⟨⟨v2, v3, rfl⟩, hb5⟩
      have HB5 := Lib.hid (hal.trans (hb5.mono hal.size))
      have H45 := Lib.hid (H4.out.later HB5.out)
      have H25 := Lib.hid (H2.out.later HB5.out)
      have c0 := H45.out.cell (k * 2)
      have c1 := H45.out.cell (k * 2 + 1)
      rw [HC0.out] at c0
      rw [HC1.out] at c1
      have f0 := H45.out.frozen (k * 2)
      have f1 := H45.out.frozen (k * 2 + 1)
      have hcv := HCv.out w5.drew HB5.out.drew
      clear hb5 hal HCut HC0 HC1 HCv
      generalize preZ (sub14 l k) = pz at *
      go_wp2_with fail
      go_region_with (first
        | (go_at_call 25; (with_reducible refine (HG2.out _ HB5.out.drew).mono ?_); rintro e w6 ⟨rfl, rfl⟩)
        | fail)
      all_goals
        go_wp2_with fail
        go_roundw
        case rel =>
          refine ⟨k + 1, HKn.out, by simp, ?_, (H25.out.far (p := ⟨w.heap.size + 1, k * 2, none⟩) (by show w.heap.size ≠ w.heap.size + 1; omega) _).far (p := ⟨w.heap.size + 1, k * 2 + 1, none⟩) (by show w.heap.size ≠ w.heap.size + 1; omega) _, ?_⟩
          · have e := (H45.out.put (k * 2) (.int .i64 ik)).put (k * 2 + 1) (.string nk)
            rw [HPut.out] at e
            exact e
          · exact (((HB.out.trans (HB5.out.mono HB.out.size)).setCell (p := ⟨w.heap.size + 1, k * 2, none⟩) (Nat.le_succ _) _).setCell (p := ⟨w.heap.size + 1, k * 2 + 1, none⟩) (Nat.le_succ _) _).drew
        case measure => simp [intOf]; have := HKn.out; omega
    · have k1 : ¬ (k : Int) < 4 := by omega
      obtain rfl : k = 4 := by omega
      rw [cut8_all] at h4
      have HB := Lib.hid hB
      have H2 := Lib.hid h2
      have H4 := Lib.hid h4
      clear hB h2 h4
      have hui := Try.underlying40
      have HII : Hid ((Try.prog.info? A4D).map (·.size) = some (cells8 (rdI l) (rdN l)).size) := info_a4g _ _
      have HIZ : Hid ((Try.prog.info? A4D).map (·.size) = some z8d.size) := info_a4
      have HOne := Lib.hid (cells8_one (rdI l) (rdN l))
      have HMb := Lib.hid (dirBlock_any (rdI l) (rdN l) wr HFit.out)
      have HOk : Hid (AllGD (rdI l) (rdN l) 4 ∧ encDK (rdI l) (rdN l) 4 = l ↔ OkD l) := Iff.rfl
      have HEl : Hid (AllGD (rdI l) (rdN l) 4 → (encDK (rdI l) (rdN l) 4).length = 64) := fun h => encDK_len _ _ 4 h
      have HEb := Lib.hid (encDK_byte (rdI l) (rdN l) 4)
      have HPost : Hid (∀ e W, (OkD l ∧ e = .returned (.tuple #[.agg (cells8 (rdI l) (rdN l)), .int .i64 0]) ∨ ¬ OkD l ∧ e = .returned (.tuple #[.agg z8d, .int .i64 100])) → Below w.heap.size w W → RdO w l e W) := fun e W h1 h2 => ⟨h1, h2⟩
      have HZ1 := Lib.hid z8d_one
      generalize RdO w l = PO at *
      generalize OkD l = OK at *
      unfold DbO at HMb
      generalize AllGD (rdI l) (rdN l) 4 = AG at *
      generalize encDK (rdI l) (rdN l) 4 = ek at *
      generalize hcs : cells8 (rdI l) (rdN l) = CS at *
      clear hcs
      go_wp2_with (refine wpList_load_row rfl A4D (.tmp 4) rfl (w.heap.size + 1) rfl A4D CS (0, 0) _ H4.out hui rfl HII.out ?_)
      refine HMb.out.mono ?_
      rintro e w5 ⟨h1 | h1, hb5⟩
      · obtain ⟨hag, a, c5, rfl, ho5⟩ := h1
        have HAg := Lib.hid hag
        have HB5 := Lib.hid (HB.out.trans (hb5.mono HB.out.size))
        have H25 := Lib.hid (H2.out.later hb5)
        have H45 := Lib.hid (H4.out.later hb5)
        have HBy := Lib.hid (H.out.below HB5.out)
        obtain ⟨a', c', hva, hby⟩ := Bytes.own ho5 HEb.out
        cases hva
        have HEy := Lib.hid hby.2.1
        clear hag ho5 hb5 hby HB H2 H4 HMb
        go_wp2_with fail
        by_cases hE : ek = l
        · have HOK : Hid OK := HOk.out.1 ⟨HAg.out, hE⟩
          subst hE
          refine (equal_same ek 64 HL.out.symm _ _ _ _ _ HEy.out HBy.out).mono ?_
          rintro e wf ⟨rfl, rfl⟩
          go_wp2_with (first | (refine wpList_load_row rfl A4D (.tmp 4) rfl (w.heap.size + 1) rfl A4D CS (0, 0) _ H45.out hui rfl HII.out ?_) | (refine wpList_store_row rfl A4D (.tmp 2) (.tmp 55) rfl w.heap.size CS rfl rfl A4D _ H25.out HII.out (size_eqA HIZ.out HII.out) HOne.out ?_))
          have hrow : (w5.setRow w.heap.size CS).heap[w.heap.size]? = some (.cells CS A4D (0, 0)) := setRow_heap w5 w.heap.size _ _ _ _ H25.out
          refine bodyPost_ret (v := .tuple #[.agg CS, .int .i64 0]) ?_ rfl (HPost.out _ _ (.inl ⟨HOK.out, rfl⟩) (below_setRow HB5.out (Nat.le_refl _) _))
          simp [results, Try.results17, asAddr, run_loadVar_row _ _ A4D A4D CS (0, 0) _ hrow hui rfl HII.out]
        · have HNo : Hid (¬ OK) := fun h => hE (HOk.out.2 h).2
          refine (equal_ne ek l 64 64 (HEl.out HAg.out).symm HL.out.symm hE _ _ _ _ _ HEy.out HBy.out).mono ?_
          rintro e wf ⟨rfl, rfl⟩
          go_wp2_with (refine wpList_store_row rfl A4D (.tmp 2) (.tmp 54) rfl w.heap.size z8d rfl rfl A4D _ H25.out HIZ.out rfl HZ1.out ?_)
          have hrow : (w5.setRow w.heap.size z8d).heap[w.heap.size]? = some (.cells z8d A4D (0, 0)) := setRow_heap w5 w.heap.size _ _ _ _ H25.out
          refine bodyPost_ret (v := .tuple #[.agg z8d, .int .i64 100]) ?_ rfl (HPost.out _ _ (.inr ⟨HNo.out, rfl⟩) (below_setRow HB5.out (Nat.le_refl _) _))
          simp [results, Try.results17, asAddr, run_loadVar_row _ _ A4D A4D z8d (0, 0) _ hrow hui rfl HIZ.out]
      · obtain ⟨hag, rfl⟩ := h1
        have HNo : Hid (¬ OK) := fun h => hag (HOk.out.2 h).1
        have HB5 := Lib.hid (HB.out.trans (hb5.mono HB.out.size))
        have H25 := Lib.hid (H2.out.later hb5)
        clear hag hb5 HB H2 H4 HMb
        go_wp2_with (refine wpList_store_row rfl A4D (.tmp 2) (.tmp 54) rfl w.heap.size z8d rfl rfl A4D _ H25.out HIZ.out rfl HZ1.out ?_)
        have hrow : (w5.setRow w.heap.size z8d).heap[w.heap.size]? = some (.cells z8d A4D (0, 0)) := setRow_heap w5 w.heap.size _ _ _ _ H25.out
        refine bodyPost_ret (v := .tuple #[.agg z8d, .int .i64 100]) ?_ rfl (HPost.out _ _ (.inr ⟨HNo.out, rfl⟩) (below_setRow HB5.out (Nat.le_refl _) _))
        simp [results, Try.results17, asAddr, run_loadVar_row _ _ A4D A4D z8d (0, 0) _ hrow hui rfl HIZ.out]
end Go.Proofs.Ytagigeacjendiaa
