/-
  The document's Do.
-/
import Derived.Test.YtdnkeplmjimjcaaPk08
namespace Go.Proofs.Ytdnkeplmjimjcaa
open Go.RowKit

theorem do_app {wa w7 : World} {a7 : Option Addr} {n c7 : Nat} {xs : List Value} (hown : w7.ownsRow wa.heap.size RBT 5 (.slice a7 (0 + n) c7) (0 + n) ([] ++ xs)) (hg : (wa.alloc (.cells #[] RBT)).grownBy w7 (Value.slice (some ⟨wa.heap.size, 0, none⟩) 0 0).ownBlock) :
    w7.ownsRow wa.heap.size RBT 5 (.slice a7 n c7) n xs ∧ Below wa.heap.size wa w7 := by
  rw [Nat.zero_add, List.nil_append] at hown
  refine ⟨hown, ((Below.refl wa.heap.size wa).alloc (Nat.le_refl _) _).trans ((Out.of_grown hg (X := fun k => k = wa.heap.size) (fun k e => by cases e; rfl)).below (by simp) (fun k _ e => by omega))⟩
theorem do_set {w W8 : World} {t1 t2 t3 : TypeId} {cx cy cz : Array Value} {base g7 n c7 i : Nat} {L : List Bk} {t : Bk} (hB : Bx3 w t1 t2 t3 cx cy cz W8) (hb : w.heap.size + 3 ≤ base) (hO : W8.ownsRow base RBT 5 (.slice (some ⟨g7, 0, none⟩) n c7) n (flatD L)) (ht : L[i]? = some t) (s : Bk) :
    Bx3 w t1 t2 t3 cx cy cz (W8.setCells g7 (i * 5) (flatD [s])) ∧ DCv (W8.setCells g7 (i * 5) (flatD [s])) (some ⟨g7, 0, none⟩) n c7 (L.set i s) := by
  have hg : base ≤ g7 := (own_low hO rfl).1
  have ho := out_own W8 g7 (i * 5) (flatD [s])
  have hi : i < n := by
    have := hO.1
    rw [flatD_len] at this
    have := (List.getElem?_eq_some_iff.1 ht).1
    omega
  have h5 : (flatD [s]).length = 5 := flatD_len [s]
  refine ⟨⟨ho.blo hB.x (by omega), ho.blo hB.y (by omega), ho.blo hB.z (by omega), hB.b.trans (ho.below hB.b.size (fun k _ e => by omega))⟩, ?_⟩
  have := own_cells (off := i * 5) (vs := flatD [s]) hO (by omega)
  rw [flat_set ht] at this
  exact DCv.own this
set_option maxRecDepth 100000 in
set_option maxHeartbeats 4000000 in
theorem ddo_any (k : Int) (hkk : k = 3 ∨ k = 4 ∨ k = 5 ∨ k = 6) {room : Int} {a : Option Addr} {n cap : Nat} {L : List Bk} {w : World} {p : Int × Int} (h : DCv w a n cap L) (hn : n ≤ 4096) (hnd : (L.map Bk.key).Nodup) (hk : ∀ t ∈ L, wfK t.key) (hpn : ∀ t ∈ L, 0 ≤ t.pins ∧ t.pins ≤ 5000000000000000000) (hp : wfK p) :
    Calls Try.prog 15 #[.agg #[.int .i64 room, .slice a n cap], .int .i64 k, .agg #[.int .i64 p.1, .int .i64 p.2]] w (DcP w room (doK L k p)) := by
  obtain ⟨p1, p2⟩ := p
  have hp : wfK (p1, p2) := hp
  show Calls Try.prog 15 #[.agg #[.int .i64 room, .slice a n cap], .int .i64 k, .agg #[.int .i64 p1, .int .i64 p2]] w (DcP w room (doK L k (p1, p2)))
  have H := Lib.hid h
  have HN := Lib.hid hn
  have HD := Lib.hid hnd
  have HPn := Lib.hid hpn
  have HKk := Lib.hid hkk
  obtain ⟨w1, hw1⟩ : ∃ w1, w1 = ((w.alloc (.cells #[.int .i64 room, .slice a n cap] RCT)).alloc (.cells #[.int .i64 p1, .int .i64 p2] RKT)).alloc (.cells #[.int .i64 0, .slice none 0 0] RCT) := ⟨_, rfl⟩
  have HB0 : Hid (PtX w room (.slice a n cap) p1 p2 w1) := by rw [hw1]; exact Bx3.laid w _ _ _ _ _ _
  have c0 : w1.cell? ⟨w.heap.size, 0, none⟩ = some (.int .i64 room) := HB0.out.x.cell 0
  have c1 : w1.cell? ⟨w.heap.size, 1, none⟩ = some (.slice a n cap) := HB0.out.x.cell 1
  have k0 : w1.cell? ⟨w.heap.size + 1, 0, none⟩ = some (.int .i64 p1) := HB0.out.y.cell 0
  have k1 : w1.cell? ⟨w.heap.size + 1, 1, none⟩ = some (.int .i64 p2) := HB0.out.y.cell 1
  have HFn : Hid (Calls Try.prog 28 #[.agg #[.int .i64 room, .slice a n cap], .agg #[.int .i64 p1, .int .i64 p2]] w1 fun e w' => e = .returned (.int .i64 (ixK L (p1, p2))) ∧ Below w1.heap.size w1 w') := find_any room a n cap L (p1, p2) w1 (h.row.later HB0.out.b) (by omega) hp hk
  clear h hn hnd hk hp hkk hpn
  go_enter Try.func15, Try.ntmps15
  go_upto_region 1 with (fail)
  rw [← hw1]
  clear hw1
  go_wp2_with (fail)
  refine HFn.out.mono ?_
  rintro e w2 ⟨rfl, hb2⟩
  have HB2 := Lib.hid (HB0.out.later hb2)
  clear HFn c0 c1 k0 k1 hb2 HB0
  generalize hix : ixK L (p1, p2) = ix at *
  have HIx := Lib.hid hix
  clear hix
  by_cases h0 : ix < 0
  · obtain ⟨q1, q2, q3⟩ := ix_neg (L := L) (p := (p1, p2)) (by rw [HIx.out]; omega)
    have HE : Hid (doK L k (p1, p2) = (L, 2)) := by
      show _ = _
      unfold doK
      rw [q2]
    have HVa := Lib.hid (H.out.later HB2.out.b)
    have c1 : w2.cell? ⟨w.heap.size, 1, none⟩ = some (.slice a n cap) := HB2.out.x.cell 1
    have c0 : w2.cell? ⟨w.heap.size, 0, none⟩ = some (.int .i64 room) := HB2.out.x.cell 0
    have hg3 := HB2.out.z
    clear q1 q2 q3
    go_wp2_with (refine wpList_store_row rfl RCT (.tmp 6) (.tmp 15) rfl (w.heap.size + 2) #[.int .i64 room, .slice a n cap] (by first | rfl | simp [go_sem]) (by first | rfl | simp [go_sem]) RCT _ hg3 (by kernel_rfl) rfl (by simp [Value.oneCell']) ?_)
    (try simp only [Exit.inBlock, Exit.then])
    rw [HE.out]
    exact bodyPost_ret (results_row_tmp (p := 6) (u := 7) (ty := RCT) rfl _ _ (w.heap.size + 2) RCT #[.int .i64 room, .slice a n cap] _ (by simp) (HB2.out.row3 _).z Try.underlying30 rfl (by kernel_rfl)) rfl (dp_ret HB2.out HVa.out)
  · obtain ⟨i, t, e1, e2, e3⟩ := ix_some (L := L) (p := (p1, p2)) (by rw [HIx.out]; omega)
    obtain rfl : ix = (i : Int) := HIx.out.symm.trans e1
    have hin : i < n := by rw [H.out.row.len]; exact (List.getElem?_eq_some_iff.1 e2).1
    have hii : (i : Int) < (n : Int) := by omega
    have hi0 : (0 : Int) ≤ (i : Int) := by omega
    have HV2 := Lib.hid (H.out.later HB2.out.b)
    obtain ⟨g, rfl, x0, x1, x2, x3, x4⟩ := HV2.out.row.cells e2
    have HFi : Hid (findK L (p1, p2) = some t) := by
      show _ = _
      rw [← e3, find_at HD.out e2]
    have HI2 := Lib.hid e2
    have HIn := Lib.hid hin
    obtain ⟨hp0, hp9⟩ := HPn.out t (List.mem_of_getElem? e2)
    have HSt : Hid (∀ f : Bk → Bk, setK L (p1, p2) f = L.set i (f t)) := fun f => by rw [← e3]; exact set_at HD.out e2 f
    have HFl : Hid ((flatD L).length = n * 5) := by
      show _ = _
      rw [flatD_len, ← H.out.row.len]
    obtain ⟨tk, td, ti, tp⟩ := t
    have e3 : tk = (p1, p2) := e3
    subst e3
    have hp0 : 0 ≤ tp := hp0
    have hp9 : tp ≤ 5000000000000000000 := hp9
    have c1 : w2.cell? ⟨w.heap.size, 1, none⟩ = some (.slice (some ⟨g, 0, none⟩) n cap) := HB2.out.x.cell 1
    have c0 : w2.cell? ⟨w.heap.size, 0, none⟩ = some (.int .i64 room) := HB2.out.x.cell 0
    clear HIx HPn hin e1 e2 h0
    rcases HKk.out with rfl | rfl | rfl | rfl
    · have HE : Hid (doK L 3 (p1, p2) = (L.set i ⟨(p1, p2), td, false, tp⟩, 0)) := by
        show _ = _
        unfold doK
        rw [HFi.out]
        show (setK L (p1, p2) _, (0 : Int)) = _
        rw [HSt.out]
      go_upto_region 18 with (fail)
      obtain ⟨wa, hwa⟩ : ∃ wa, w2.alloc (.cells #[.int .i64 p1, .int .i64 p2, .string (strOf (dtL td)), .bool false, .int .i64 tp] RBT) = wa := ⟨_, rfl⟩
      rw [hwa]
      have HBa : Hid (Below w2.heap.size w2 wa) := by rw [← hwa]; exact (Below.refl _ _).alloc (Nat.le_refl _) _
      have HBb : Hid (Blo wa w2.heap.size RBT #[.int .i64 p1, .int .i64 p2, .string (strOf (dtL td)), .bool false, .int .i64 tp]) := by rw [← hwa]; exact blo_laid _ _ _
      have HB3 := Lib.hid (HB2.out.later HBa.out)
      have HV3 := Lib.hid (HV2.out.later HBa.out)
      clear hwa c0 c1 x0 x1 x2 x3 x4
      have y1 : wa.cell? ⟨w.heap.size, 1, none⟩ = some (.slice (some ⟨g, 0, none⟩) n cap) := HB3.out.x.cell 1
      have y2 : (wa.alloc (.cells #[] RBT)).cell? ⟨w.heap.size, 1, none⟩ = some (.slice (some ⟨g, 0, none⟩) n cap) := cell_later ((Below.refl wa.heap.size wa).alloc (Nat.le_refl _) _) y1
      have HSr : Hid (∀ ad, some (⟨g, 0, none⟩ : Addr) = some ad → ∀ j u, (flatD L)[j]? = some u → (wa.alloc (.cells #[] RBT)).cell? (ad.add j) = some u) := fun ad e j u hj => cell_later ((Below.refl wa.heap.size wa).alloc (Nat.le_refl _) _) (HV3.out.row.all ad e j u hj)
      have HRm : Hid (0 + n ≤ 1000000) := by
        show 0 + n ≤ 1000000
        have := HN.out
        omega
      have HNo : Hid (some (⟨g, 0, none⟩ : Addr) = none → n = 0 ∧ cap = 0) := fun h => by cases h
      go_upto_region 19 with (at_builtin; refine wp_append_rowO rfl (.tmp 50) (.tmp 52) RBS rfl wa.heap.size RBT (.agg #[.int .i64 0, .int .i64 0, .string ByteArray.empty, .bool false, .int .i64 0]) 5 48 Try.underlying28 info_rbt rfl (by decide) (by decide) (.slice (some ⟨wa.heap.size, 0, none⟩) 0 0) 0 [] rfl (own_empty wa wa.heap.size RBT 5 (Nat.le_refl _)) (some ⟨g, 0, none⟩) n cap (flatD L) rfl HFl.out HSr.out (flatD_one _) HNo.out HRm.out (((Below.refl wa.heap.size wa).alloc (Nat.le_refl _) (.cells #[] RBT)).size) ?_; intro a7 c7 w7 hown hgrow _; have HD := Lib.hid (do_app hown hgrow); clear hown hgrow; have y1 : w7.cell? ⟨w.heap.size, 1, none⟩ = some (.slice (some ⟨g, 0, none⟩) n cap) := (HB3.out.later HD.out.2).x.cell 1; have f1 : w7.frozen? ⟨w.heap.size, 1, none⟩ = false := (HB3.out.later HD.out.2).x.frozen 1)
      have HB7 := Lib.hid (HB3.out.later HD.out.2)
      have hb7 := HBb.out.later HD.out.2
      have hW7 : w.heap.size + 3 ≤ wa.heap.size := HB3.out.size
      have HB8 : Hid (PtX w room (.slice a7 n c7) p1 p2 (w7.setCell ⟨w.heap.size, 1, none⟩ (.slice a7 n c7))) := HB7.out.put1 1 _
      have HO8 := Lib.hid (own_boxc (k := w.heap.size) (i := 1) HD.out.1 (by omega) (.slice a7 n c7))
      have HX8 : Hid (Blo (w7.setCell ⟨w.heap.size, 1, none⟩ (.slice a7 n c7)) w2.heap.size RBT #[.int .i64 p1, .int .i64 p2, .string (strOf (dtL td)), .bool false, .int .i64 tp]) := hb7.far (by have := HB2.out.size; show _ ≠ w.heap.size; omega) _
      have HW7 := Lib.hid hW7
      clear HB7 hb7 hW7 HD y1 y2 HSr HRm HNo
      generalize w7.setCell ⟨w.heap.size, 1, none⟩ (.slice a7 n c7) = W8 at *
      obtain ⟨g7, rfl, -⟩ := (DRow.own HO8.out).1.key HI2.out
      have y1 : W8.cell? ⟨w.heap.size, 1, none⟩ = some (.slice (some ⟨g7, 0, none⟩) n c7) := HB8.out.x.cell 1
      have hgb := HX8.out
      have HTh := Lib.hid (own_there (off := i * 5) (k := 5) HO8.out (by have := HIn.out; omega))
      go_upto_region 20 with (first | (refine wpList_load_row rfl RBT (.tmp 9) rfl w2.heap.size rfl RBT #[.int .i64 p1, .int .i64 p2, .string (strOf (dtL td)), .bool false, .int .i64 tp] (0, 0) _ hgb Try.underlying72 rfl (by kernel_rfl) ?_) | (refine wpList_store_mid rfl RBT (.tmp 59) (.tmp 58) rfl g7 (i * 5) #[.int .i64 p1, .int .i64 p2, .string (strOf (dtL td)), .bool false, .int .i64 tp] (by first | rfl | simp [go_sem]) (by first | rfl | simp [go_sem]) HTh.out (by kernel_rfl) (by simp [Value.oneCell']) ?_))
      obtain ⟨W9, hw9⟩ : ∃ W9, W8.setCells g7 (i * 5) [.int .i64 p1, .int .i64 p2, .string (strOf (dtL td)), .bool false, .int .i64 tp] = W9 := ⟨_, rfl⟩
      rw [hw9]
      have HR : Hid (PtX w room (.slice (some ⟨g7, 0, none⟩) n c7) p1 p2 W9 ∧ DCv W9 (some ⟨g7, 0, none⟩) n c7 (L.set i ⟨(p1, p2), td, false, tp⟩)) := by rw [← hw9]; exact do_set HB8.out HW7.out HO8.out HI2.out ⟨(p1, p2), td, false, tp⟩
      clear hw9 HO8 HX8 HTh hgb y1 HB8 f1
      have c0 : W9.cell? ⟨w.heap.size, 0, none⟩ = some (.int .i64 room) := HR.out.1.x.cell 0
      have c1 : W9.cell? ⟨w.heap.size, 1, none⟩ = some (.slice (some ⟨g7, 0, none⟩) n c7) := HR.out.1.x.cell 1
      have hg3 := HR.out.1.z
      go_wp2_with (refine wpList_store_row rfl RCT (.tmp 6) (.tmp 60) rfl (w.heap.size + 2) #[.int .i64 room, .slice (some ⟨g7, 0, none⟩) n c7] (by first | rfl | simp [go_sem]) (by first | rfl | simp [go_sem]) RCT _ hg3 (by kernel_rfl) rfl (by simp [Value.oneCell']) ?_)
      (try simp only [Exit.inBlock, Exit.then])
      rw [HE.out]
      exact bodyPost_ret (results_row_tmp (p := 6) (u := 7) (ty := RCT) rfl _ _ (w.heap.size + 2) RCT #[.int .i64 room, .slice (some ⟨g7, 0, none⟩) n c7] _ (by simp) (HR.out.1.row3 _).z Try.underlying30 rfl (by kernel_rfl)) rfl (dp_ret HR.out.1 HR.out.2)
    · have HE : Hid (doK L 4 (p1, p2) = (L.set i ⟨(p1, p2), td, ti, tp + 1⟩, 0)) := by
        show _ = _
        unfold doK
        rw [HFi.out]
        show (setK L (p1, p2) _, (0 : Int)) = _
        rw [HSt.out]
      have hw1 : IntKind.i64.wrap (tp + 1) = tp + 1 := IntWalk.i64_in _ (by omega)
      go_upto_region 18 with (fail)
      obtain ⟨wa, hwa⟩ : ∃ wa, w2.alloc (.cells #[.int .i64 p1, .int .i64 p2, .string (strOf (dtL td)), .bool ti, .int .i64 (tp + 1)] RBT) = wa := ⟨_, rfl⟩
      rw [hwa]
      have HBa : Hid (Below w2.heap.size w2 wa) := by rw [← hwa]; exact (Below.refl _ _).alloc (Nat.le_refl _) _
      have HBb : Hid (Blo wa w2.heap.size RBT #[.int .i64 p1, .int .i64 p2, .string (strOf (dtL td)), .bool ti, .int .i64 (tp + 1)]) := by rw [← hwa]; exact blo_laid _ _ _
      have HB3 := Lib.hid (HB2.out.later HBa.out)
      have HV3 := Lib.hid (HV2.out.later HBa.out)
      clear hwa c0 c1 x0 x1 x2 x3 x4
      have y1 : wa.cell? ⟨w.heap.size, 1, none⟩ = some (.slice (some ⟨g, 0, none⟩) n cap) := HB3.out.x.cell 1
      have y2 : (wa.alloc (.cells #[] RBT)).cell? ⟨w.heap.size, 1, none⟩ = some (.slice (some ⟨g, 0, none⟩) n cap) := cell_later ((Below.refl wa.heap.size wa).alloc (Nat.le_refl _) _) y1
      have HSr : Hid (∀ ad, some (⟨g, 0, none⟩ : Addr) = some ad → ∀ j u, (flatD L)[j]? = some u → (wa.alloc (.cells #[] RBT)).cell? (ad.add j) = some u) := fun ad e j u hj => cell_later ((Below.refl wa.heap.size wa).alloc (Nat.le_refl _) _) (HV3.out.row.all ad e j u hj)
      have HRm : Hid (0 + n ≤ 1000000) := by
        show 0 + n ≤ 1000000
        have := HN.out
        omega
      have HNo : Hid (some (⟨g, 0, none⟩ : Addr) = none → n = 0 ∧ cap = 0) := fun h => by cases h
      go_upto_region 19 with (at_builtin; refine wp_append_rowO rfl (.tmp 50) (.tmp 52) RBS rfl wa.heap.size RBT (.agg #[.int .i64 0, .int .i64 0, .string ByteArray.empty, .bool false, .int .i64 0]) 5 48 Try.underlying28 info_rbt rfl (by decide) (by decide) (.slice (some ⟨wa.heap.size, 0, none⟩) 0 0) 0 [] rfl (own_empty wa wa.heap.size RBT 5 (Nat.le_refl _)) (some ⟨g, 0, none⟩) n cap (flatD L) rfl HFl.out HSr.out (flatD_one _) HNo.out HRm.out (((Below.refl wa.heap.size wa).alloc (Nat.le_refl _) (.cells #[] RBT)).size) ?_; intro a7 c7 w7 hown hgrow _; have HD := Lib.hid (do_app hown hgrow); clear hown hgrow; have y1 : w7.cell? ⟨w.heap.size, 1, none⟩ = some (.slice (some ⟨g, 0, none⟩) n cap) := (HB3.out.later HD.out.2).x.cell 1; have f1 : w7.frozen? ⟨w.heap.size, 1, none⟩ = false := (HB3.out.later HD.out.2).x.frozen 1)
      have HB7 := Lib.hid (HB3.out.later HD.out.2)
      have hb7 := HBb.out.later HD.out.2
      have hW7 : w.heap.size + 3 ≤ wa.heap.size := HB3.out.size
      have HB8 : Hid (PtX w room (.slice a7 n c7) p1 p2 (w7.setCell ⟨w.heap.size, 1, none⟩ (.slice a7 n c7))) := HB7.out.put1 1 _
      have HO8 := Lib.hid (own_boxc (k := w.heap.size) (i := 1) HD.out.1 (by omega) (.slice a7 n c7))
      have HX8 : Hid (Blo (w7.setCell ⟨w.heap.size, 1, none⟩ (.slice a7 n c7)) w2.heap.size RBT #[.int .i64 p1, .int .i64 p2, .string (strOf (dtL td)), .bool ti, .int .i64 (tp + 1)]) := hb7.far (by have := HB2.out.size; show _ ≠ w.heap.size; omega) _
      have HW7 := Lib.hid hW7
      clear HB7 hb7 hW7 HD y1 y2 HSr HRm HNo
      generalize w7.setCell ⟨w.heap.size, 1, none⟩ (.slice a7 n c7) = W8 at *
      obtain ⟨g7, rfl, -⟩ := (DRow.own HO8.out).1.key HI2.out
      have y1 : W8.cell? ⟨w.heap.size, 1, none⟩ = some (.slice (some ⟨g7, 0, none⟩) n c7) := HB8.out.x.cell 1
      have hgb := HX8.out
      have HTh := Lib.hid (own_there (off := i * 5) (k := 5) HO8.out (by have := HIn.out; omega))
      go_upto_region 20 with (first | (refine wpList_load_row rfl RBT (.tmp 9) rfl w2.heap.size rfl RBT #[.int .i64 p1, .int .i64 p2, .string (strOf (dtL td)), .bool ti, .int .i64 (tp + 1)] (0, 0) _ hgb Try.underlying72 rfl (by kernel_rfl) ?_) | (refine wpList_store_mid rfl RBT (.tmp 59) (.tmp 58) rfl g7 (i * 5) #[.int .i64 p1, .int .i64 p2, .string (strOf (dtL td)), .bool ti, .int .i64 (tp + 1)] (by first | rfl | simp [go_sem]) (by first | rfl | simp [go_sem]) HTh.out (by kernel_rfl) (by simp [Value.oneCell']) ?_))
      obtain ⟨W9, hw9⟩ : ∃ W9, W8.setCells g7 (i * 5) [.int .i64 p1, .int .i64 p2, .string (strOf (dtL td)), .bool ti, .int .i64 (tp + 1)] = W9 := ⟨_, rfl⟩
      rw [hw9]
      have HR : Hid (PtX w room (.slice (some ⟨g7, 0, none⟩) n c7) p1 p2 W9 ∧ DCv W9 (some ⟨g7, 0, none⟩) n c7 (L.set i ⟨(p1, p2), td, ti, (tp + 1)⟩)) := by rw [← hw9]; exact do_set HB8.out HW7.out HO8.out HI2.out ⟨(p1, p2), td, ti, (tp + 1)⟩
      clear hw9 HO8 HX8 HTh hgb y1 HB8 f1
      have c0 : W9.cell? ⟨w.heap.size, 0, none⟩ = some (.int .i64 room) := HR.out.1.x.cell 0
      have c1 : W9.cell? ⟨w.heap.size, 1, none⟩ = some (.slice (some ⟨g7, 0, none⟩) n c7) := HR.out.1.x.cell 1
      have hg3 := HR.out.1.z
      go_wp2_with (refine wpList_store_row rfl RCT (.tmp 6) (.tmp 60) rfl (w.heap.size + 2) #[.int .i64 room, .slice (some ⟨g7, 0, none⟩) n c7] (by first | rfl | simp [go_sem]) (by first | rfl | simp [go_sem]) RCT _ hg3 (by kernel_rfl) rfl (by simp [Value.oneCell']) ?_)
      (try simp only [Exit.inBlock, Exit.then])
      rw [HE.out]
      exact bodyPost_ret (results_row_tmp (p := 6) (u := 7) (ty := RCT) rfl _ _ (w.heap.size + 2) RCT #[.int .i64 room, .slice (some ⟨g7, 0, none⟩) n c7] _ (by simp) (HR.out.1.row3 _).z Try.underlying30 rfl (by kernel_rfl)) rfl (dp_ret HR.out.1 HR.out.2)
    · by_cases hz : tp = 0
      · have HE : Hid (doK L 5 (p1, p2) = (L, 22)) := by
          show _ = _
          unfold doK
          rw [HFi.out]
          show (if tp = 0 then (L, (22 : Int)) else _) = _
          rw [if_pos hz]
        subst hz
        go_upto_region 12 with (fail)
        obtain ⟨wa, hwa⟩ : ∃ wa, w2.alloc (.cells #[.int .i64 p1, .int .i64 p2, .string (strOf (dtL td)), .bool ti, .int .i64 0] RBT) = wa := ⟨_, rfl⟩
        rw [hwa]
        have HBa : Hid (Below w2.heap.size w2 wa) := by rw [← hwa]; exact (Below.refl _ _).alloc (Nat.le_refl _) _
        have HB3 := Lib.hid (HB2.out.later HBa.out)
        have HVa := Lib.hid (HV2.out.later HBa.out)
        clear hwa c0 c1 x0 x1 x2 x3 x4
        have c1 : wa.cell? ⟨w.heap.size, 1, none⟩ = some (.slice (some ⟨g, 0, none⟩) n cap) := HB3.out.x.cell 1
        have c0 : wa.cell? ⟨w.heap.size, 0, none⟩ = some (.int .i64 room) := HB3.out.x.cell 0
        have hg3 := HB3.out.z
        go_wp2_with (refine wpList_store_row rfl RCT (.tmp 6) (.tmp 36) rfl (w.heap.size + 2) #[.int .i64 room, .slice (some ⟨g, 0, none⟩) n cap] (by first | rfl | simp [go_sem]) (by first | rfl | simp [go_sem]) RCT _ hg3 (by kernel_rfl) rfl (by simp [Value.oneCell']) ?_)
        (try simp only [Exit.inBlock, Exit.then])
        rw [HE.out]
        exact bodyPost_ret (results_row_tmp (p := 6) (u := 7) (ty := RCT) rfl _ _ (w.heap.size + 2) RCT #[.int .i64 room, .slice (some ⟨g, 0, none⟩) n cap] _ (by simp) (HB3.out.row3 _).z Try.underlying30 rfl (by kernel_rfl)) rfl (dp_ret HB3.out HVa.out)
      · have HE : Hid (doK L 5 (p1, p2) = (L.set i ⟨(p1, p2), td, ti, tp - 1⟩, 0)) := by
          show _ = _
          unfold doK
          rw [HFi.out]
          show (if tp = 0 then (L, (22 : Int)) else (setK L (p1, p2) _, (0 : Int))) = _
          rw [if_neg hz, HSt.out]
        have hw1 : IntKind.i64.wrap (tp - 1) = tp - 1 := IntWalk.i64_in _ (by omega)
        go_upto_region 18 with (fail)
        obtain ⟨wa, hwa⟩ : ∃ wa, w2.alloc (.cells #[.int .i64 p1, .int .i64 p2, .string (strOf (dtL td)), .bool ti, .int .i64 (tp - 1)] RBT) = wa := ⟨_, rfl⟩
        rw [hwa]
        have HBa : Hid (Below w2.heap.size w2 wa) := by rw [← hwa]; exact (Below.refl _ _).alloc (Nat.le_refl _) _
        have HBb : Hid (Blo wa w2.heap.size RBT #[.int .i64 p1, .int .i64 p2, .string (strOf (dtL td)), .bool ti, .int .i64 (tp - 1)]) := by rw [← hwa]; exact blo_laid _ _ _
        have HB3 := Lib.hid (HB2.out.later HBa.out)
        have HV3 := Lib.hid (HV2.out.later HBa.out)
        clear hwa c0 c1 x0 x1 x2 x3 x4
        have y1 : wa.cell? ⟨w.heap.size, 1, none⟩ = some (.slice (some ⟨g, 0, none⟩) n cap) := HB3.out.x.cell 1
        have y2 : (wa.alloc (.cells #[] RBT)).cell? ⟨w.heap.size, 1, none⟩ = some (.slice (some ⟨g, 0, none⟩) n cap) := cell_later ((Below.refl wa.heap.size wa).alloc (Nat.le_refl _) _) y1
        have HSr : Hid (∀ ad, some (⟨g, 0, none⟩ : Addr) = some ad → ∀ j u, (flatD L)[j]? = some u → (wa.alloc (.cells #[] RBT)).cell? (ad.add j) = some u) := fun ad e j u hj => cell_later ((Below.refl wa.heap.size wa).alloc (Nat.le_refl _) _) (HV3.out.row.all ad e j u hj)
        have HRm : Hid (0 + n ≤ 1000000) := by
          show 0 + n ≤ 1000000
          have := HN.out
          omega
        have HNo : Hid (some (⟨g, 0, none⟩ : Addr) = none → n = 0 ∧ cap = 0) := fun h => by cases h
        go_upto_region 19 with (at_builtin; refine wp_append_rowO rfl (.tmp 50) (.tmp 52) RBS rfl wa.heap.size RBT (.agg #[.int .i64 0, .int .i64 0, .string ByteArray.empty, .bool false, .int .i64 0]) 5 48 Try.underlying28 info_rbt rfl (by decide) (by decide) (.slice (some ⟨wa.heap.size, 0, none⟩) 0 0) 0 [] rfl (own_empty wa wa.heap.size RBT 5 (Nat.le_refl _)) (some ⟨g, 0, none⟩) n cap (flatD L) rfl HFl.out HSr.out (flatD_one _) HNo.out HRm.out (((Below.refl wa.heap.size wa).alloc (Nat.le_refl _) (.cells #[] RBT)).size) ?_; intro a7 c7 w7 hown hgrow _; have HD := Lib.hid (do_app hown hgrow); clear hown hgrow; have y1 : w7.cell? ⟨w.heap.size, 1, none⟩ = some (.slice (some ⟨g, 0, none⟩) n cap) := (HB3.out.later HD.out.2).x.cell 1; have f1 : w7.frozen? ⟨w.heap.size, 1, none⟩ = false := (HB3.out.later HD.out.2).x.frozen 1)
        have HB7 := Lib.hid (HB3.out.later HD.out.2)
        have hb7 := HBb.out.later HD.out.2
        have hW7 : w.heap.size + 3 ≤ wa.heap.size := HB3.out.size
        have HB8 : Hid (PtX w room (.slice a7 n c7) p1 p2 (w7.setCell ⟨w.heap.size, 1, none⟩ (.slice a7 n c7))) := HB7.out.put1 1 _
        have HO8 := Lib.hid (own_boxc (k := w.heap.size) (i := 1) HD.out.1 (by omega) (.slice a7 n c7))
        have HX8 : Hid (Blo (w7.setCell ⟨w.heap.size, 1, none⟩ (.slice a7 n c7)) w2.heap.size RBT #[.int .i64 p1, .int .i64 p2, .string (strOf (dtL td)), .bool ti, .int .i64 (tp - 1)]) := hb7.far (by have := HB2.out.size; show _ ≠ w.heap.size; omega) _
        have HW7 := Lib.hid hW7
        clear HB7 hb7 hW7 HD y1 y2 HSr HRm HNo
        generalize w7.setCell ⟨w.heap.size, 1, none⟩ (.slice a7 n c7) = W8 at *
        obtain ⟨g7, rfl, -⟩ := (DRow.own HO8.out).1.key HI2.out
        have y1 : W8.cell? ⟨w.heap.size, 1, none⟩ = some (.slice (some ⟨g7, 0, none⟩) n c7) := HB8.out.x.cell 1
        have hgb := HX8.out
        have HTh := Lib.hid (own_there (off := i * 5) (k := 5) HO8.out (by have := HIn.out; omega))
        go_upto_region 20 with (first | (refine wpList_load_row rfl RBT (.tmp 9) rfl w2.heap.size rfl RBT #[.int .i64 p1, .int .i64 p2, .string (strOf (dtL td)), .bool ti, .int .i64 (tp - 1)] (0, 0) _ hgb Try.underlying72 rfl (by kernel_rfl) ?_) | (refine wpList_store_mid rfl RBT (.tmp 59) (.tmp 58) rfl g7 (i * 5) #[.int .i64 p1, .int .i64 p2, .string (strOf (dtL td)), .bool ti, .int .i64 (tp - 1)] (by first | rfl | simp [go_sem]) (by first | rfl | simp [go_sem]) HTh.out (by kernel_rfl) (by simp [Value.oneCell']) ?_))
        obtain ⟨W9, hw9⟩ : ∃ W9, W8.setCells g7 (i * 5) [.int .i64 p1, .int .i64 p2, .string (strOf (dtL td)), .bool ti, .int .i64 (tp - 1)] = W9 := ⟨_, rfl⟩
        rw [hw9]
        have HR : Hid (PtX w room (.slice (some ⟨g7, 0, none⟩) n c7) p1 p2 W9 ∧ DCv W9 (some ⟨g7, 0, none⟩) n c7 (L.set i ⟨(p1, p2), td, ti, (tp - 1)⟩)) := by rw [← hw9]; exact do_set HB8.out HW7.out HO8.out HI2.out ⟨(p1, p2), td, ti, (tp - 1)⟩
        clear hw9 HO8 HX8 HTh hgb y1 HB8 f1
        have c0 : W9.cell? ⟨w.heap.size, 0, none⟩ = some (.int .i64 room) := HR.out.1.x.cell 0
        have c1 : W9.cell? ⟨w.heap.size, 1, none⟩ = some (.slice (some ⟨g7, 0, none⟩) n c7) := HR.out.1.x.cell 1
        have hg3 := HR.out.1.z
        go_wp2_with (refine wpList_store_row rfl RCT (.tmp 6) (.tmp 60) rfl (w.heap.size + 2) #[.int .i64 room, .slice (some ⟨g7, 0, none⟩) n c7] (by first | rfl | simp [go_sem]) (by first | rfl | simp [go_sem]) RCT _ hg3 (by kernel_rfl) rfl (by simp [Value.oneCell']) ?_)
        (try simp only [Exit.inBlock, Exit.then])
        rw [HE.out]
        exact bodyPost_ret (results_row_tmp (p := 6) (u := 7) (ty := RCT) rfl _ _ (w.heap.size + 2) RCT #[.int .i64 room, .slice (some ⟨g7, 0, none⟩) n c7] _ (by simp) (HR.out.1.row3 _).z Try.underlying30 rfl (by kernel_rfl)) rfl (dp_ret HR.out.1 HR.out.2)
    · by_cases hz : 0 < tp
      · have HE : Hid (doK L 6 (p1, p2) = (L, 16)) := by
          show _ = _
          unfold doK
          rw [HFi.out]
          show (if 0 < tp then (L, (16 : Int)) else _) = _
          rw [if_pos hz]
        go_upto_region 16 with (fail)
        obtain ⟨wa, hwa⟩ : ∃ wa, w2.alloc (.cells #[.int .i64 p1, .int .i64 p2, .string (strOf (dtL td)), .bool ti, .int .i64 tp] RBT) = wa := ⟨_, rfl⟩
        rw [hwa]
        have HBa : Hid (Below w2.heap.size w2 wa) := by rw [← hwa]; exact (Below.refl _ _).alloc (Nat.le_refl _) _
        have HB3 := Lib.hid (HB2.out.later HBa.out)
        have HVa := Lib.hid (HV2.out.later HBa.out)
        clear hwa c0 c1 x0 x1 x2 x3 x4
        have c1 : wa.cell? ⟨w.heap.size, 1, none⟩ = some (.slice (some ⟨g, 0, none⟩) n cap) := HB3.out.x.cell 1
        have c0 : wa.cell? ⟨w.heap.size, 0, none⟩ = some (.int .i64 room) := HB3.out.x.cell 0
        have hg3 := HB3.out.z
        go_wp2_with (refine wpList_store_row rfl RCT (.tmp 6) (.tmp 46) rfl (w.heap.size + 2) #[.int .i64 room, .slice (some ⟨g, 0, none⟩) n cap] (by first | rfl | simp [go_sem]) (by first | rfl | simp [go_sem]) RCT _ hg3 (by kernel_rfl) rfl (by simp [Value.oneCell']) ?_)
        (try simp only [Exit.inBlock, Exit.then])
        rw [HE.out]
        exact bodyPost_ret (results_row_tmp (p := 6) (u := 7) (ty := RCT) rfl _ _ (w.heap.size + 2) RCT #[.int .i64 room, .slice (some ⟨g, 0, none⟩) n cap] _ (by simp) (HB3.out.row3 _).z Try.underlying30 rfl (by kernel_rfl)) rfl (dp_ret HB3.out HVa.out)
      · have HE : Hid (doK L 6 (p1, p2) = (woK L (p1, p2), 0)) := by
          show _ = _
          unfold doK
          rw [HFi.out]
          show (if 0 < tp then (L, (16 : Int)) else (woK L (p1, p2), (0 : Int))) = _
          rw [if_neg hz]
        go_upto_region 17 with (fail)
        obtain ⟨wa, hwa⟩ : ∃ wa, w2.alloc (.cells #[.int .i64 p1, .int .i64 p2, .string (strOf (dtL td)), .bool ti, .int .i64 tp] RBT) = wa := ⟨_, rfl⟩
        rw [hwa]
        have HBa : Hid (Below w2.heap.size w2 wa) := by rw [← hwa]; exact (Below.refl _ _).alloc (Nat.le_refl _) _
        have HB3 := Lib.hid (HB2.out.later HBa.out)
        have HW : Hid (Calls Try.prog 30 #[.agg #[.int .i64 room, .slice (some ⟨g, 0, none⟩) n cap], .int .i64 (i : Int)] wa (DcO wa room (woK L (p1, p2)))) := without_at (room := room) (HV2.out.later HBa.out) (by have := HN.out; omega) HD.out HI2.out
        clear hwa c0 c1 x0 x1 x2 x3 x4
        have c1 : wa.cell? ⟨w.heap.size, 1, none⟩ = some (.slice (some ⟨g, 0, none⟩) n cap) := HB3.out.x.cell 1
        have c0 : wa.cell? ⟨w.heap.size, 0, none⟩ = some (.int .i64 room) := HB3.out.x.cell 0
        go_wp2_with (fail)
        refine HW.out.mono ?_
        rintro e w3 ⟨a3, n3, c3, rfl, hv, hb3⟩
        have HB4 := Lib.hid (HB3.out.later hb3)
        have HV3 := Lib.hid hv
        clear HW hv hb3 c0 c1
        have hg3 := HB4.out.z
        go_wp2_with (refine wpList_store_row rfl RCT (.tmp 6) (.tmp 49) rfl (w.heap.size + 2) #[.int .i64 room, .slice a3 n3 c3] (by first | rfl | simp [go_sem]) (by first | rfl | simp [go_sem]) RCT _ hg3 (by kernel_rfl) rfl (by simp [Value.oneCell']) ?_)
        (try simp only [Exit.inBlock, Exit.then])
        rw [HE.out]
        exact bodyPost_ret (results_row_tmp (p := 6) (u := 7) (ty := RCT) rfl _ _ (w.heap.size + 2) RCT #[.int .i64 room, .slice a3 n3 c3] _ (by simp) (HB4.out.row3 _).z Try.underlying30 rfl (by kernel_rfl)) rfl (dp_ret HB4.out HV3.out)
end Go.Proofs.Ytdnkeplmjimjcaa
