/-
  The walks of points: Decode.
-/
import Derived.Test.YtmkhliabmodbdaaPtEnc
import Derived.Test.YtmkhliabmodbdaaEqB
import Derived.Deep.DeepCutAuto
namespace Go.Proofs.Ytmkhliabmodbdaa
open Go.RowKit

set_option maxHeartbeats 1000000 in
theorem get_d (x0 x1 g k n cap : Nat) (w : World) (hn : 2 ≤ n) (hn2 : n ≤ 1000) (h0 : x0 < 256) (h1 : x1 < 256) (c0 : w.cell? ⟨g, k, none⟩ = some (.int .u8 (x0 : Int))) (c1 : w.cell? ⟨g, k + 1, none⟩ = some (.int .u8 (x1 : Int))) :
    Calls Try.prog 51 #[.slice (some ⟨g, k, none⟩) n cap] w fun e w' => e = .returned (.int .i64 ((x0 + x1 * 256 : Nat) : Int)) ∧ w' = w.drew := by
  have hor := or16 x0 x1 h0 h1
  have n1 : (1 : Int) < (n : Int) := by omega
  have n0 : (0 : Int) < (n : Int) := by omega
  have HOr := Lib.hid hor
  clear hor
  go_enter Try.func51, Try.ntmps51
  go_wp2_with fail
  go_region
  all_goals
    go_wp2
    go_ret
    refine ⟨?_, rfl⟩
    show Ending.returned (Value.int .i64 (bits BinOp.or IntKind.i64 (x0 : Int) ((x1 : Int) * 256))) = _
    rw [HOr.out]
theorem BBlk.bytes {w : World} {g : Nat} {l : List Nat} (h : BBlk w g l) : Bytes w (some ⟨g, 0, none⟩) l := ⟨h.2.2, by rw [h.2.1]; decide, fun _ => ⟨g, 0, rfl, fun i hi => by
  rw [Nat.zero_add, h.1.cell, List.getElem?_toArray, cellsB_get _ _ hi]⟩⟩
theorem dec_fin {W : World} {g : Nat} {t : TypeId} {a b c d x0 x1 x2 x3 : Value} (h : Blo W g t #[x0, x1, x2, x3]) : Blo ((((W.setCell ⟨g, 0, none⟩ a).setCell ⟨g, 1, none⟩ b).setCell ⟨g, 2, none⟩ c).setCell ⟨g, 3, none⟩ d) g t #[a, b, c, d] :=
  (((h.put 0 a).put 1 b).put 2 c).put 3 d
theorem below_4 {B : Nat} {w0 W : World} {g : Nat} {a b c d : Value} (h : Below B w0 W) (hg : B ≤ g) : Below B w0 ((((W.setCell ⟨g, 0, none⟩ a).setCell ⟨g, 1, none⟩ b).setCell ⟨g, 2, none⟩ c).setCell ⟨g, 3, none⟩ d) :=
  (((h.setCell (p := ⟨g, 0, none⟩) hg a).setCell (p := ⟨g, 1, none⟩) hg b).setCell (p := ⟨g, 2, none⟩) hg c).setCell (p := ⟨g, 3, none⟩) hg d
abbrev zp4 : Array Value := #[.int .i64 0, .int .i64 0, .int .i64 0, .int .i64 0]
def DecO (w : World) (p : Pt) (code : Int) (e : Ending) (w' : World) : Prop := e = .returned (.tuple #[.agg (ptA p), .int .i64 code]) ∧ Below w.heap.size w w'
set_option maxHeartbeats 1000000 in
theorem decode_len (a : Option Addr) (n cap : Nat) (w : World) (hn : n ≠ 64) (hm : n ≤ 9223372036854775807) : Calls Try.prog 31 #[.slice a n cap] w (DecO w ⟨0, 0, 0, 0⟩ 100) := by
  have hne : ((n : Int) != 64) = true := by simpa using (by omega : ¬ (n : Int) = 64)
  go_enter Try.func31, Try.ntmps31
  go_wp2
  exact bodyPost_ret (v := .tuple #[.agg (ptA ⟨0, 0, 0, 0⟩), .int .i64 100]) (by simp [results, Try.results31, go_sem, ptA]) rfl ⟨rfl, by first | exact sup_pt _ _ | exact below_4 (sup_pt _ _) (Nat.le_refl _)⟩
set_option maxRecDepth 100000 in
set_option maxHeartbeats 4000000 in
theorem decode_64 (a : Option Addr) (cap : Nat) (l : List Nat) (w : World) (hl : l.length = 64) (hcap : 64 ≤ cap) (h : Bytes w a l) (p : Pt) (code : Int) (hp : (decP l = some p ∧ code = 0) ∨ (decP l = none ∧ p = ⟨0, 0, 0, 0⟩ ∧ code = 100)) :
    Calls Try.prog 31 #[.slice a 64 cap] w (DecO w p code) := by
  have HLen := Lib.hid hl
  have HBy := Lib.hid h
  have HP := Lib.hid hp
  obtain ⟨b, o, rfl, hc⟩ := h.2.2 (fun e => by rw [e] at hl; cases hl)
  have xb : ∀ j, l.getD j 0 < 256 := fun j => getD_b h.1 j
  have HX := Lib.hid xb
  have hb0 := sup_pt w (.cells zp4 PNT)
  have HB0 := Lib.hid hb0
  have HC : Hid (∀ W, Below (w.alloc (.cells zp4 PNT)).heap.size (w.alloc (.cells zp4 PNT)) W → ∀ i, i < 64 → W.cell? ⟨b, o + i, none⟩ = some (.int .u8 (l.getD i 0 : Nat))) := fun W hb i hi => by
    obtain ⟨b', o', e', hc'⟩ := (h.below (hb0.trans (hb.mono hb0.size))).2.2 (fun e => by rw [e] at hl; cases hl)
    cases e'
    exact hc' i (by rw [hl]; exact hi)
  have HG0 := Lib.hid (blo_laid w PNT zp4)
  have hr0 := cut_l8 b o 64 cap 0 (by omega) hcap (by omega)
  have hr2 := cut_l8 b o 64 cap 2 (by omega) hcap (by omega)
  have hr5 := cut_l8 b o 64 cap 5 (by omega) hcap (by omega)
  have hr7 := cut_l8 b o 64 cap 7 (by omega) hcap (by omega)
  simp only [Nat.add_zero, Nat.sub_zero, Int.natCast_zero, Int.cast_ofNat_Int] at hr0 hr2 hr5 hr7
  have HGet : Hid (∀ (k : Nat) (n cap : Nat) (W : World), k + 1 < 64 → 2 ≤ n → n ≤ 1000 → Below (w.alloc (.cells zp4 PNT)).heap.size (w.alloc (.cells zp4 PNT)) W → Calls Try.prog 51 #[.slice (some ⟨b, o + k, none⟩) n cap] W fun e w' => e = .returned (.int .i64 ((l.getD k 0 + l.getD (k + 1) 0 * 256 : Nat) : Int)) ∧ w' = W.drew) := fun k n cap W h1 h2 h3 hb =>
    get_d _ _ b (o + k) n cap W h2 h3 (HX.out k) (HX.out (k + 1)) (HC.out W hb k (by omega)) (by rw [Nat.add_assoc]; exact HC.out W hb (k + 1) h1)
  have HG7 : Hid (∀ (n cap : Nat) (W : World), 2 ≤ n → n ≤ 1000 → Below (w.alloc (.cells zp4 PNT)).heap.size (w.alloc (.cells zp4 PNT)) W → Calls Try.prog 51 #[.slice (some ⟨b, o + 7, none⟩) n cap] W fun e w' => e = .returned (.int .i64 ((l.getD 7 0 + l.getD 8 0 * 256 : Nat) : Int)) ∧ w' = W.drew) := fun n cap W => HGet.out 7 n cap W (by decide)
  have HG5 : Hid (∀ (n cap : Nat) (W : World), 2 ≤ n → n ≤ 1000 → Below (w.alloc (.cells zp4 PNT)).heap.size (w.alloc (.cells zp4 PNT)) W → Calls Try.prog 51 #[.slice (some ⟨b, o + 5, none⟩) n cap] W fun e w' => e = .returned (.int .i64 ((l.getD 5 0 + l.getD 6 0 * 256 : Nat) : Int)) ∧ w' = W.drew) := fun n cap W => HGet.out 5 n cap W (by decide)
  have HG2 : Hid (∀ (n cap : Nat) (W : World), 2 ≤ n → n ≤ 1000 → Below (w.alloc (.cells zp4 PNT)).heap.size (w.alloc (.cells zp4 PNT)) W → Calls Try.prog 51 #[.slice (some ⟨b, o + 2, none⟩) n cap] W fun e w' => e = .returned (.int .i64 ((l.getD 2 0 + l.getD 3 0 * 256 : Nat) : Int)) ∧ w' = W.drew) := fun n cap W => HGet.out 2 n cap W (by decide)
  have HGa : Hid (∀ (n cap : Nat) (W : World), 2 ≤ n → n ≤ 1000 → Below (w.alloc (.cells zp4 PNT)).heap.size (w.alloc (.cells zp4 PNT)) W → Calls Try.prog 51 #[.slice (some ⟨b, o, none⟩) n cap] W fun e w' => e = .returned (.int .i64 ((l.getD 0 0 + l.getD 1 0 * 256 : Nat) : Int)) ∧ w' = W.drew) := fun n cap W => HGet.out 0 n cap W (by decide)
  clear HGet
  generalize hv0 : l.getD 0 0 + l.getD 1 0 * 256 = v0 at HGa
  generalize hv1 : l.getD 2 0 + l.getD 3 0 * 256 = v1 at HG2
  generalize hv2 : l.getD 5 0 + l.getD 6 0 * 256 = v2 at HG5
  generalize hv3 : l.getD 7 0 + l.getD 8 0 * 256 = v3 at HG7
  have HRd : Hid (rdP l = ⟨v0, v1, v2, v3⟩) := by
    show rdP l = _
    unfold rdP
    rw [hv0, hv1, hv2, hv3]
  clear hv0 hv1 hv2 hv3
  clear hl h hp hc xb hb0
  go_enter Try.func31, Try.ntmps31
  go_wp2_with fail
  generalize hw1 : (w.alloc (Obj.cells zp4 PNT)) = w1 at *
  have HHz : Hid (w.heap.size < w1.heap.size) := by show w.heap.size < w1.heap.size; rw [← hw1]; simp
  clear hw1
  go_cut [4] (fun v W => ∃ gb, v = .pointer (some ⟨gb, 0, none⟩) ∧ w1.heap.size ≤ gb ∧ Blo W gb PNT #[.int .i64 v0, .int .i64 v1, .int .i64 v2, .int .i64 v3] ∧ Below w1.heap.size w1 W)
  case first =>
    refine wp_region_held_drew (S := fun W => Below w1.heap.size w1 W) (by kernel_rfl) ((Below.refl w1.heap.size w1).drew) (fun hHeld => ?_)
    refine wpAnyH_take (i := 0) (oi := ⟨some 11, _, _, _, _, _⟩) (v := ?_) rfl (by kernel_rfl) (by kernel_rfl) (by kernel_rfl) (fun _ _ _ h => h) (Or.inl ⟨by rfl, fun W hW => ?_⟩) (by assumption) ?_
    rotate_left
    · skip; go_simp; try with_reducible rfl
    simp only [Act.put, List.setIfInBounds_toArray, List.set_cons_zero, List.set_cons_succ]
    refine wpAnyH_take (i := 1) (oi := ⟨some 12, _, _, _, _, _⟩) (v := ?_) rfl (by kernel_rfl) (by kernel_rfl) (by kernel_rfl) (fun _ _ _ h => h) (Or.inl ⟨by rfl, fun W hW => ?_⟩) (by assumption) ?_
    rotate_left
    · skip; go_simp; try with_reducible rfl
    simp only [Act.put, List.setIfInBounds_toArray, List.set_cons_zero, List.set_cons_succ]
    refine wpAnyH_take (i := 3) (oi := ⟨some 14, _, _, _, _, _⟩) (v := ?_) rfl (by kernel_rfl) (by kernel_rfl) (by kernel_rfl) (fun _ _ _ h => h) (Or.inl ⟨by rfl, fun W hW => ?_⟩) (by assumption) ?_
    rotate_left
    · skip; go_simp; try with_reducible rfl
    simp only [Act.put, List.setIfInBounds_toArray, List.set_cons_zero, List.set_cons_succ]
    refine wpAnyH_take (i := 4) (oi := ⟨some 15, _, _, _, _, _⟩) (v := ?_) rfl (by kernel_rfl) (by kernel_rfl) (by kernel_rfl) (fun _ _ _ h => h) (Or.inl ⟨by rfl, fun W hW => ?_⟩) (by assumption) ?_
    rotate_left
    · skip; go_simp; try with_reducible rfl
    simp only [Act.put, List.setIfInBounds_toArray, List.set_cons_zero, List.set_cons_succ]
    refine wpAnyH_take (i := 6) (oi := ⟨some 17, _, _, _, _, _⟩) (v := ?_) rfl (by kernel_rfl) (by kernel_rfl) (by kernel_rfl) (fun _ _ _ h => h) (Or.inl ⟨by rfl, fun W hW => ?_⟩) (by assumption) ?_
    rotate_left
    · skip; go_simp; try with_reducible rfl
    simp only [Act.put, List.setIfInBounds_toArray, List.set_cons_zero, List.set_cons_succ]
    refine wpAnyH_take (i := 7) (oi := ⟨some 18, _, _, _, _, _⟩) (v := ?_) rfl (by kernel_rfl) (by kernel_rfl) (by kernel_rfl) (fun _ _ _ h => h) (Or.inl ⟨by rfl, fun W hW => ?_⟩) (by assumption) ?_
    rotate_left
    · skip; go_simp; try with_reducible rfl
    simp only [Act.put, List.setIfInBounds_toArray, List.set_cons_zero, List.set_cons_succ]
    refine wpAnyH_take (i := 9) (oi := ⟨some 20, _, _, _, _, _⟩) (v := ?_) rfl (by kernel_rfl) (by kernel_rfl) (by kernel_rfl) (fun _ _ _ h => h) (Or.inl ⟨by rfl, fun W hW => ?_⟩) (by assumption) ?_
    rotate_left
    · skip; go_simp; try with_reducible rfl
    simp only [Act.put, List.setIfInBounds_toArray, List.set_cons_zero, List.set_cons_succ]
    refine wpAnyH_take (i := 10) (oi := ⟨some 21, _, _, _, _, _⟩) (v := ?_) rfl (by kernel_rfl) (by kernel_rfl) (by kernel_rfl) (fun _ _ _ h => h) (Or.inl ⟨by rfl, fun W hW => ?_⟩) (by assumption) ?_
    rotate_left
    · skip; go_simp; try with_reducible rfl
    simp only [Act.put, List.setIfInBounds_toArray, List.set_cons_zero, List.set_cons_succ]
    refine wpAnyH_ready (rs := [2, 13]) (by kernel_rfl) (by simp) ?_
    refine AllReadyH.cons (o := ⟨some 13, _, _, _, _, _⟩) rfl (fun K hK => ?_) ?_
    · go_simp
      go_wp2_with (go_at_call 51; (refine (HGa.out _ _ _ (by omega) (by omega) ?_).mono ?_); exact hHeld; rintro e9 w9 ⟨rfl, rfl⟩)
      refine hK.out _ _ (by repeat (with_reducible first | exact Below.refl _ _ | apply Below.drew | refine Below.alloc ?_ (Nat.le_refl _) _)) (fun hHeld => ?_)
      clear hK K
      try simp only [Act.put, List.setIfInBounds_toArray, List.set_cons_zero, List.set_cons_succ]
      refine wpAnyH_ready (rs := [5, 13]) (by kernel_rfl) (by simp) ?_
      refine AllReadyH.cons (o := ⟨some 16, _, _, _, _, _⟩) rfl (fun K hK => ?_) ?_
      · go_simp
        go_wp2_with (go_at_call 51; (refine (HG2.out _ _ _ (by omega) (by omega) ?_).mono ?_); exact hHeld; rintro e9 w9 ⟨rfl, rfl⟩)
        refine hK.out _ _ (by repeat (with_reducible first | exact Below.refl _ _ | apply Below.drew | refine Below.alloc ?_ (Nat.le_refl _) _)) (fun hHeld => ?_)
        clear hK K
        try simp only [Act.put, List.setIfInBounds_toArray, List.set_cons_zero, List.set_cons_succ]
        refine wpAnyH_ready (rs := [8, 13]) (by kernel_rfl) (by simp) ?_
        refine AllReadyH.cons (o := ⟨some 19, _, _, _, _, _⟩) rfl (fun K hK => ?_) ?_
        · go_simp
          go_wp2_with (go_at_call 51; (refine (HG5.out _ _ _ (by omega) (by omega) ?_).mono ?_); exact hHeld; rintro e9 w9 ⟨rfl, rfl⟩)
          refine hK.out _ _ (by repeat (with_reducible first | exact Below.refl _ _ | apply Below.drew | refine Below.alloc ?_ (Nat.le_refl _) _)) (fun hHeld => ?_)
          clear hK K
          try simp only [Act.put, List.setIfInBounds_toArray, List.set_cons_zero, List.set_cons_succ]
          refine wpAnyH_ready (rs := [11, 13]) (by kernel_rfl) (by simp) ?_
          refine AllReadyH.cons (o := ⟨some 22, _, _, _, _, _⟩) rfl (fun K hK => ?_) ?_
          · go_simp
            go_wp2_with (go_at_call 51; (refine (HG7.out _ _ _ (by omega) (by omega) ?_).mono ?_); exact hHeld; rintro e9 w9 ⟨rfl, rfl⟩)
            refine hK.out _ _ (by repeat (with_reducible first | exact Below.refl _ _ | apply Below.drew | refine Below.alloc ?_ (Nat.le_refl _) _)) (fun hHeld => ?_)
            clear hK K
            try simp only [Act.put, List.setIfInBounds_toArray, List.set_cons_zero, List.set_cons_succ]
            refine wpAnyH_take (i := 12) (oi := ⟨some 23, _, _, _, _, _⟩) (v := ?_) rfl (by kernel_rfl) (by kernel_rfl) (by kernel_rfl) (fun _ _ _ h => h) (Or.inl ⟨by rfl, fun W hW => ?_⟩) (by assumption) ?_
            rotate_left
            · skip; go_simp; try with_reducible rfl
            simp only [Act.put, List.setIfInBounds_toArray, List.set_cons_zero, List.set_cons_succ]
            refine wpAnyH_ready (rs := [13]) (by kernel_rfl) (by simp) ?_
            refine AllReadyH.cons (o := ⟨some 4, _, _, _, _, _⟩) rfl (fun K hK => ?_) AllReadyH.nil
            go_simp
            refine hK.out _ _ (by repeat (with_reducible first | exact Below.refl _ _ | apply Below.drew | refine Below.alloc ?_ (Nat.le_refl _) _)) (fun hHeld => ?_)
            clear hK K
            try simp only [Act.put, List.setIfInBounds_toArray, List.set_cons_zero, List.set_cons_succ]
            refine wpAnyH_ready (rs := [14]) (by kernel_rfl) (by simp) ?_
            refine AllReadyH.cons (o := ⟨none, _, _, _, _, _⟩) rfl (fun K hK => ?_) AllReadyH.nil
            go_simp
            refine hK.out _ _ (by repeat (with_reducible first | exact Below.refl _ _ | apply Below.drew | refine Below.alloc ?_ (Nat.le_refl _) _)) (fun hHeld => ?_)
            clear hK K
            try simp only [Act.put, List.setIfInBounds_toArray, List.set_cons_zero, List.set_cons_succ]
            refine wpAnyH_done (by kernel_rfl) ?_ _
            go_wp2_with fail
            go_meet
            exact ⟨w1.heap.size, rfl, Nat.le_refl _, blo_laid w1 PNT #[.int .i64 v0, .int .i64 v1, .int .i64 v2, .int .i64 v3], (by repeat (with_reducible first | exact Below.refl _ _ | apply Below.drew | refine Below.alloc ?_ (Nat.le_refl _) _))⟩
          refine AllReadyH.cons (o := ⟨some 4, _, _, _, _, _⟩) rfl (fun K hK => ?_) AllReadyH.nil
          go_simp
          refine hK.out _ _ (by repeat (with_reducible first | exact Below.refl _ _ | apply Below.drew | refine Below.alloc ?_ (Nat.le_refl _) _)) (fun hHeld => ?_)
          clear hK K
          try simp only [Act.put, List.setIfInBounds_toArray, List.set_cons_zero, List.set_cons_succ]
          refine wpAnyH_ready (rs := [11]) (by kernel_rfl) (by simp) ?_
          refine AllReadyH.cons (o := ⟨some 22, _, _, _, _, _⟩) rfl (fun K hK => ?_) AllReadyH.nil
          go_simp
          go_wp2_with (go_at_call 51; (refine (HG7.out _ _ _ (by omega) (by omega) ?_).mono ?_); exact hHeld; rintro e9 w9 ⟨rfl, rfl⟩)
          refine hK.out _ _ (by repeat (with_reducible first | exact Below.refl _ _ | apply Below.drew | refine Below.alloc ?_ (Nat.le_refl _) _)) (fun hHeld => ?_)
          clear hK K
          try simp only [Act.put, List.setIfInBounds_toArray, List.set_cons_zero, List.set_cons_succ]
          refine wpAnyH_take (i := 12) (oi := ⟨some 23, _, _, _, _, _⟩) (v := ?_) rfl (by kernel_rfl) (by kernel_rfl) (by kernel_rfl) (fun _ _ _ h => h) (Or.inl ⟨by rfl, fun W hW => ?_⟩) (by assumption) ?_
          rotate_left
          · skip; go_simp; try with_reducible rfl
          simp only [Act.put, List.setIfInBounds_toArray, List.set_cons_zero, List.set_cons_succ]
          refine wpAnyH_ready (rs := [14]) (by kernel_rfl) (by simp) ?_
          refine AllReadyH.cons (o := ⟨none, _, _, _, _, _⟩) rfl (fun K hK => ?_) AllReadyH.nil
          go_simp
          refine hK.out _ _ (by repeat (with_reducible first | exact Below.refl _ _ | apply Below.drew | refine Below.alloc ?_ (Nat.le_refl _) _)) (fun hHeld => ?_)
          clear hK K
          try simp only [Act.put, List.setIfInBounds_toArray, List.set_cons_zero, List.set_cons_succ]
          refine wpAnyH_done (by kernel_rfl) ?_ _
          go_wp2_with fail
          go_meet
          exact ⟨w1.heap.size, rfl, Nat.le_refl _, blo_laid w1 PNT #[.int .i64 v0, .int .i64 v1, .int .i64 v2, .int .i64 v3], (by repeat (with_reducible first | exact Below.refl _ _ | apply Below.drew | refine Below.alloc ?_ (Nat.le_refl _) _))⟩
        refine AllReadyH.cons (o := ⟨some 4, _, _, _, _, _⟩) rfl (fun K hK => ?_) AllReadyH.nil
        go_simp
        refine hK.out _ _ (by repeat (with_reducible first | exact Below.refl _ _ | apply Below.drew | refine Below.alloc ?_ (Nat.le_refl _) _)) (fun hHeld => ?_)
        clear hK K
        try simp only [Act.put, List.setIfInBounds_toArray, List.set_cons_zero, List.set_cons_succ]
        refine wpAnyH_ready (rs := [8]) (by kernel_rfl) (by simp) ?_
        refine AllReadyH.cons (o := ⟨some 19, _, _, _, _, _⟩) rfl (fun K hK => ?_) AllReadyH.nil
        go_simp
        go_wp2_with (go_at_call 51; (refine (HG5.out _ _ _ (by omega) (by omega) ?_).mono ?_); exact hHeld; rintro e9 w9 ⟨rfl, rfl⟩)
        refine hK.out _ _ (by repeat (with_reducible first | exact Below.refl _ _ | apply Below.drew | refine Below.alloc ?_ (Nat.le_refl _) _)) (fun hHeld => ?_)
        clear hK K
        try simp only [Act.put, List.setIfInBounds_toArray, List.set_cons_zero, List.set_cons_succ]
        refine wpAnyH_ready (rs := [11]) (by kernel_rfl) (by simp) ?_
        refine AllReadyH.cons (o := ⟨some 22, _, _, _, _, _⟩) rfl (fun K hK => ?_) AllReadyH.nil
        go_simp
        go_wp2_with (go_at_call 51; (refine (HG7.out _ _ _ (by omega) (by omega) ?_).mono ?_); exact hHeld; rintro e9 w9 ⟨rfl, rfl⟩)
        refine hK.out _ _ (by repeat (with_reducible first | exact Below.refl _ _ | apply Below.drew | refine Below.alloc ?_ (Nat.le_refl _) _)) (fun hHeld => ?_)
        clear hK K
        try simp only [Act.put, List.setIfInBounds_toArray, List.set_cons_zero, List.set_cons_succ]
        refine wpAnyH_take (i := 12) (oi := ⟨some 23, _, _, _, _, _⟩) (v := ?_) rfl (by kernel_rfl) (by kernel_rfl) (by kernel_rfl) (fun _ _ _ h => h) (Or.inl ⟨by rfl, fun W hW => ?_⟩) (by assumption) ?_
        rotate_left
        · skip; go_simp; try with_reducible rfl
        simp only [Act.put, List.setIfInBounds_toArray, List.set_cons_zero, List.set_cons_succ]
        refine wpAnyH_ready (rs := [14]) (by kernel_rfl) (by simp) ?_
        refine AllReadyH.cons (o := ⟨none, _, _, _, _, _⟩) rfl (fun K hK => ?_) AllReadyH.nil
        go_simp
        refine hK.out _ _ (by repeat (with_reducible first | exact Below.refl _ _ | apply Below.drew | refine Below.alloc ?_ (Nat.le_refl _) _)) (fun hHeld => ?_)
        clear hK K
        try simp only [Act.put, List.setIfInBounds_toArray, List.set_cons_zero, List.set_cons_succ]
        refine wpAnyH_done (by kernel_rfl) ?_ _
        go_wp2_with fail
        go_meet
        exact ⟨w1.heap.size, rfl, Nat.le_refl _, blo_laid w1 PNT #[.int .i64 v0, .int .i64 v1, .int .i64 v2, .int .i64 v3], (by repeat (with_reducible first | exact Below.refl _ _ | apply Below.drew | refine Below.alloc ?_ (Nat.le_refl _) _))⟩
      refine AllReadyH.cons (o := ⟨some 4, _, _, _, _, _⟩) rfl (fun K hK => ?_) AllReadyH.nil
      go_simp
      refine hK.out _ _ (by repeat (with_reducible first | exact Below.refl _ _ | apply Below.drew | refine Below.alloc ?_ (Nat.le_refl _) _)) (fun hHeld => ?_)
      clear hK K
      try simp only [Act.put, List.setIfInBounds_toArray, List.set_cons_zero, List.set_cons_succ]
      refine wpAnyH_ready (rs := [5]) (by kernel_rfl) (by simp) ?_
      refine AllReadyH.cons (o := ⟨some 16, _, _, _, _, _⟩) rfl (fun K hK => ?_) AllReadyH.nil
      go_simp
      go_wp2_with (go_at_call 51; (refine (HG2.out _ _ _ (by omega) (by omega) ?_).mono ?_); exact hHeld; rintro e9 w9 ⟨rfl, rfl⟩)
      refine hK.out _ _ (by repeat (with_reducible first | exact Below.refl _ _ | apply Below.drew | refine Below.alloc ?_ (Nat.le_refl _) _)) (fun hHeld => ?_)
      clear hK K
      try simp only [Act.put, List.setIfInBounds_toArray, List.set_cons_zero, List.set_cons_succ]
      refine wpAnyH_ready (rs := [8]) (by kernel_rfl) (by simp) ?_
      refine AllReadyH.cons (o := ⟨some 19, _, _, _, _, _⟩) rfl (fun K hK => ?_) AllReadyH.nil
      go_simp
      go_wp2_with (go_at_call 51; (refine (HG5.out _ _ _ (by omega) (by omega) ?_).mono ?_); exact hHeld; rintro e9 w9 ⟨rfl, rfl⟩)
      refine hK.out _ _ (by repeat (with_reducible first | exact Below.refl _ _ | apply Below.drew | refine Below.alloc ?_ (Nat.le_refl _) _)) (fun hHeld => ?_)
      clear hK K
      try simp only [Act.put, List.setIfInBounds_toArray, List.set_cons_zero, List.set_cons_succ]
      refine wpAnyH_ready (rs := [11]) (by kernel_rfl) (by simp) ?_
      refine AllReadyH.cons (o := ⟨some 22, _, _, _, _, _⟩) rfl (fun K hK => ?_) AllReadyH.nil
      go_simp
      go_wp2_with (go_at_call 51; (refine (HG7.out _ _ _ (by omega) (by omega) ?_).mono ?_); exact hHeld; rintro e9 w9 ⟨rfl, rfl⟩)
      refine hK.out _ _ (by repeat (with_reducible first | exact Below.refl _ _ | apply Below.drew | refine Below.alloc ?_ (Nat.le_refl _) _)) (fun hHeld => ?_)
      clear hK K
      try simp only [Act.put, List.setIfInBounds_toArray, List.set_cons_zero, List.set_cons_succ]
      refine wpAnyH_take (i := 12) (oi := ⟨some 23, _, _, _, _, _⟩) (v := ?_) rfl (by kernel_rfl) (by kernel_rfl) (by kernel_rfl) (fun _ _ _ h => h) (Or.inl ⟨by rfl, fun W hW => ?_⟩) (by assumption) ?_
      rotate_left
      · skip; go_simp; try with_reducible rfl
      simp only [Act.put, List.setIfInBounds_toArray, List.set_cons_zero, List.set_cons_succ]
      refine wpAnyH_ready (rs := [14]) (by kernel_rfl) (by simp) ?_
      refine AllReadyH.cons (o := ⟨none, _, _, _, _, _⟩) rfl (fun K hK => ?_) AllReadyH.nil
      go_simp
      refine hK.out _ _ (by repeat (with_reducible first | exact Below.refl _ _ | apply Below.drew | refine Below.alloc ?_ (Nat.le_refl _) _)) (fun hHeld => ?_)
      clear hK K
      try simp only [Act.put, List.setIfInBounds_toArray, List.set_cons_zero, List.set_cons_succ]
      refine wpAnyH_done (by kernel_rfl) ?_ _
      go_wp2_with fail
      go_meet
      exact ⟨w1.heap.size, rfl, Nat.le_refl _, blo_laid w1 PNT #[.int .i64 v0, .int .i64 v1, .int .i64 v2, .int .i64 v3], (by repeat (with_reducible first | exact Below.refl _ _ | apply Below.drew | refine Below.alloc ?_ (Nat.le_refl _) _))⟩
    refine AllReadyH.cons (o := ⟨some 4, _, _, _, _, _⟩) rfl (fun K hK => ?_) AllReadyH.nil
    go_simp
    refine hK.out _ _ (by repeat (with_reducible first | exact Below.refl _ _ | apply Below.drew | refine Below.alloc ?_ (Nat.le_refl _) _)) (fun hHeld => ?_)
    clear hK K
    try simp only [Act.put, List.setIfInBounds_toArray, List.set_cons_zero, List.set_cons_succ]
    refine wpAnyH_ready (rs := [2]) (by kernel_rfl) (by simp) ?_
    refine AllReadyH.cons (o := ⟨some 13, _, _, _, _, _⟩) rfl (fun K hK => ?_) AllReadyH.nil
    go_simp
    go_wp2_with (go_at_call 51; (refine (HGa.out _ _ _ (by omega) (by omega) ?_).mono ?_); exact hHeld; rintro e9 w9 ⟨rfl, rfl⟩)
    refine hK.out _ _ (by repeat (with_reducible first | exact Below.refl _ _ | apply Below.drew | refine Below.alloc ?_ (Nat.le_refl _) _)) (fun hHeld => ?_)
    clear hK K
    try simp only [Act.put, List.setIfInBounds_toArray, List.set_cons_zero, List.set_cons_succ]
    refine wpAnyH_ready (rs := [5]) (by kernel_rfl) (by simp) ?_
    refine AllReadyH.cons (o := ⟨some 16, _, _, _, _, _⟩) rfl (fun K hK => ?_) AllReadyH.nil
    go_simp
    go_wp2_with (go_at_call 51; (refine (HG2.out _ _ _ (by omega) (by omega) ?_).mono ?_); exact hHeld; rintro e9 w9 ⟨rfl, rfl⟩)
    refine hK.out _ _ (by repeat (with_reducible first | exact Below.refl _ _ | apply Below.drew | refine Below.alloc ?_ (Nat.le_refl _) _)) (fun hHeld => ?_)
    clear hK K
    try simp only [Act.put, List.setIfInBounds_toArray, List.set_cons_zero, List.set_cons_succ]
    refine wpAnyH_ready (rs := [8]) (by kernel_rfl) (by simp) ?_
    refine AllReadyH.cons (o := ⟨some 19, _, _, _, _, _⟩) rfl (fun K hK => ?_) AllReadyH.nil
    go_simp
    go_wp2_with (go_at_call 51; (refine (HG5.out _ _ _ (by omega) (by omega) ?_).mono ?_); exact hHeld; rintro e9 w9 ⟨rfl, rfl⟩)
    refine hK.out _ _ (by repeat (with_reducible first | exact Below.refl _ _ | apply Below.drew | refine Below.alloc ?_ (Nat.le_refl _) _)) (fun hHeld => ?_)
    clear hK K
    try simp only [Act.put, List.setIfInBounds_toArray, List.set_cons_zero, List.set_cons_succ]
    refine wpAnyH_ready (rs := [11]) (by kernel_rfl) (by simp) ?_
    refine AllReadyH.cons (o := ⟨some 22, _, _, _, _, _⟩) rfl (fun K hK => ?_) AllReadyH.nil
    go_simp
    go_wp2_with (go_at_call 51; (refine (HG7.out _ _ _ (by omega) (by omega) ?_).mono ?_); exact hHeld; rintro e9 w9 ⟨rfl, rfl⟩)
    refine hK.out _ _ (by repeat (with_reducible first | exact Below.refl _ _ | apply Below.drew | refine Below.alloc ?_ (Nat.le_refl _) _)) (fun hHeld => ?_)
    clear hK K
    try simp only [Act.put, List.setIfInBounds_toArray, List.set_cons_zero, List.set_cons_succ]
    refine wpAnyH_take (i := 12) (oi := ⟨some 23, _, _, _, _, _⟩) (v := ?_) rfl (by kernel_rfl) (by kernel_rfl) (by kernel_rfl) (fun _ _ _ h => h) (Or.inl ⟨by rfl, fun W hW => ?_⟩) (by assumption) ?_
    rotate_left
    · skip; go_simp; try with_reducible rfl
    simp only [Act.put, List.setIfInBounds_toArray, List.set_cons_zero, List.set_cons_succ]
    refine wpAnyH_ready (rs := [14]) (by kernel_rfl) (by simp) ?_
    refine AllReadyH.cons (o := ⟨none, _, _, _, _, _⟩) rfl (fun K hK => ?_) AllReadyH.nil
    go_simp
    refine hK.out _ _ (by repeat (with_reducible first | exact Below.refl _ _ | apply Below.drew | refine Below.alloc ?_ (Nat.le_refl _) _)) (fun hHeld => ?_)
    clear hK K
    try simp only [Act.put, List.setIfInBounds_toArray, List.set_cons_zero, List.set_cons_succ]
    refine wpAnyH_done (by kernel_rfl) ?_ _
    go_wp2_with fail
    go_meet
    exact ⟨w1.heap.size, rfl, Nat.le_refl _, blo_laid w1 PNT #[.int .i64 v0, .int .i64 v1, .int .i64 v2, .int .i64 v3], (by repeat (with_reducible first | exact Below.refl _ _ | apply Below.drew | refine Below.alloc ?_ (Nat.le_refl _) _))⟩
  case rest =>
    obtain ⟨gb, rfl, hgb, hG, hb⟩ := hcut
    have HGb := Lib.hid hG
    have HBw : Hid (Below w.heap.size w wc) := HB0.out.trans (hb.mono HB0.out.size)
    have HZ := Lib.hid (HG0.out.later hb)
    have hgn : w.heap.size ≠ gb := by have := HHz.out; omega
    have HGn := Lib.hid hgn
    have HGe : Hid (w.heap.size ≤ gb) := by show w.heap.size ≤ gb; have := HHz.out; omega
    have g0 := hG.cell 0
    have g1 := hG.cell 1
    have g2 := hG.cell 2
    have g3 := hG.cell 3
    simp at g0 g1 g2 g3
    clear hG hb hgb hgn hr0 hr2 hr5 hr7 HGa HG2 HG5 HG7 HC HG0
    by_cases hgd : Good4 ⟨v0, v1, v2, v3⟩
    · have HEn : Hid (∀ W, Calls Try.prog 29 #[.agg #[.int .i64 v0, .int .i64 v1, .int .i64 v2, .int .i64 v3]] W (EncO W (encP ⟨v0, v1, v2, v3⟩))) := fun W => encode_good ⟨v0, v1, v2, v3⟩ W hgd
      have HEb := Lib.hid (encP_byte hgd)
      go_wp2_with fail
      refine (HEn.out _).mono ?_
      rintro e w3 ⟨g7, rfl, hx7, hg7, hb7⟩
      have HX7 := Lib.hid hx7
      have HB7 := Lib.hid (HBw.out.trans (hb7.mono HBw.out.size))
      have HGb7 := Lib.hid (HGb.out.later hb7)
      have HZ7 := Lib.hid (HZ.out.later hb7)
      clear hx7 hg7 hb7 HEn HBw HGb HZ g0 g1 g2 g3
      by_cases heq : encP ⟨v0, v1, v2, v3⟩ = l
      · have hd : decP l = some ⟨v0, v1, v2, v3⟩ := by
          unfold decP
          rw [HRd.out, if_pos ⟨HLen.out, hgd, heq⟩]
        have hpp : p = ⟨v0, v1, v2, v3⟩ ∧ code = 0 := by
          rcases HP.out with ⟨h1, h2⟩ | ⟨h1, _⟩
          · rw [hd] at h1; cases h1; exact ⟨rfl, h2⟩
          · rw [hd] at h1; cases h1
        obtain ⟨rfl, rfl⟩ := hpp
        have HEq : Hid (Calls Try.prog 52 #[.slice (some ⟨g7, 0, none⟩) 64 64, .slice (some ⟨b, o, none⟩) 64 cap] w3 fun e w' => e = .returned (.bool true) ∧ w3 = w') :=
          equal_same l 64 HLen.out.symm _ _ 64 cap _ (by rw [← heq]; exact HX7.out.bytes) (HBy.out.below HB7.out)
        have g0 := HGb7.out.cell 0
        have g1 := HGb7.out.cell 1
        have g2 := HGb7.out.cell 2
        have g3 := HGb7.out.cell 3
        have z0 := HZ7.out.cell 0
        have z1 := HZ7.out.cell 1
        have z2 := HZ7.out.cell 2
        have z3 := HZ7.out.cell 3
        have f0 := HZ7.out.frozen 0
        have f1 := HZ7.out.frozen 1
        have f2 := HZ7.out.frozen 2
        have f3 := HZ7.out.frozen 3
        simp at g0 g1 g2 g3 z0 z1 z2 z3
        clear hd heq HX7 HRd HP HEb
        go_wp2_with fail
        refine HEq.out.mono ?_
        rintro e w4 ⟨rfl, rfl⟩
        clear HEq
        go_wp2
        refine bodyPost_ret (v := .tuple #[.agg (ptA ⟨v0, v1, v2, v3⟩), .int .i64 0]) ?_ rfl ⟨rfl, ?_⟩
        · simp [results, Try.results31, go_sem, ptA, z0, z1, z2, z3]
        · exact below_4 HB7.out (Nat.le_refl _)
      · have hd : decP l = none := by
          unfold decP
          rw [HRd.out, if_neg (fun h => heq h.2.2)]
        have hpp : p = ⟨0, 0, 0, 0⟩ ∧ code = 100 := by
          rcases HP.out with ⟨h1, h2⟩ | ⟨_, h2⟩
          · rw [hd] at h1; cases h1
          · exact h2
        obtain ⟨rfl, rfl⟩ := hpp
        have HEq : Hid (Calls Try.prog 52 #[.slice (some ⟨g7, 0, none⟩) 64 64, .slice (some ⟨b, o, none⟩) 64 cap] w3 fun e w' => e = .returned (.bool false) ∧ w3 = w') :=
          equal_ne _ l 64 64 (encP_length _).symm HLen.out.symm heq _ _ 64 cap _ HX7.out.bytes (HBy.out.below HB7.out)
        have z0 := HZ7.out.cell 0
        have z1 := HZ7.out.cell 1
        have z2 := HZ7.out.cell 2
        have z3 := HZ7.out.cell 3
        have f0 := HZ7.out.frozen 0
        have f1 := HZ7.out.frozen 1
        have f2 := HZ7.out.frozen 2
        have f3 := HZ7.out.frozen 3
        simp at z0 z1 z2 z3
        clear hd heq HX7 HRd HP HEb
        go_wp2_with fail
        refine HEq.out.mono ?_
        rintro e w4 ⟨rfl, rfl⟩
        clear HEq
        go_wp2
        refine bodyPost_ret (v := .tuple #[.agg (ptA ⟨0, 0, 0, 0⟩), .int .i64 100]) ?_ rfl ⟨rfl, ?_⟩
        · simp [results, Try.results31, go_sem, ptA, z0, z1, z2, z3]
        · exact below_4 HB7.out (Nat.le_refl _)
    · have HEn : Hid (∀ W, Calls Try.prog 29 #[.agg #[.int .i64 v0, .int .i64 v1, .int .i64 v2, .int .i64 v3]] W fun e w' => e = .returned (.tuple #[.slice none 0 0, .int .i64 22]) ∧ Below W.heap.size W w') := fun W => encode_bad _ _ _ _ W hgd
      have hd : decP l = none := by
        unfold decP
        rw [HRd.out, if_neg (fun h => hgd h.2.1)]
      have hpp : p = ⟨0, 0, 0, 0⟩ ∧ code = 100 := by
        rcases HP.out with ⟨h1, h2⟩ | ⟨_, h2⟩
        · rw [hd] at h1; cases h1
        · exact h2
      obtain ⟨rfl, rfl⟩ := hpp
      clear hd HP HRd hgd
      go_wp2_with fail
      refine (HEn.out _).mono ?_
      rintro e w3 ⟨rfl, hb7⟩
      have HB7 := Lib.hid (HBw.out.trans (hb7.mono HBw.out.size))
      have HZ7 := Lib.hid (HZ.out.later hb7)
      have z0 := HZ7.out.cell 0
      have z1 := HZ7.out.cell 1
      have z2 := HZ7.out.cell 2
      have z3 := HZ7.out.cell 3
      have f0 := HZ7.out.frozen 0
      have f1 := HZ7.out.frozen 1
      have f2 := HZ7.out.frozen 2
      have f3 := HZ7.out.frozen 3
      simp at z0 z1 z2 z3
      clear hb7 HEn HBw HGb HZ g0 g1 g2 g3
      go_wp2
      refine bodyPost_ret (v := .tuple #[.agg (ptA ⟨0, 0, 0, 0⟩), .int .i64 100]) ?_ rfl ⟨rfl, ?_⟩
      · simp [results, Try.results31, go_sem, ptA, z0, z1, z2, z3]
      · exact below_4 HB7.out (Nat.le_refl _)
end Go.Proofs.Ytmkhliabmodbdaa
