/-
  The document's points: Decode.
-/
import Derived.Test.YtmkhliabmodbdaaPtRefE
import Derived.Test.YtmkhliabmodbdaaDrCrash
import Derived.Test.YtmkhliabmodbdaaPtEq
import Derived.BigRegion
import Derived.StillTailTactics
import Derived.Deep.RegionHeld
namespace Go.Proofs.Ytmkhliabmodbdaa
open Go.RowKit

theorem rencode_any (p : Pt) (w : World) (h : Good4 p) : Calls Try.prog 25 #[.agg (ptA p)] w fun e' w' => e' = .returned (.string (strOf (encP p))) ∧ Below w.heap.size w w' := by
  obtain ⟨⟨h1, h2⟩, ⟨h3, h4⟩, ⟨h5, h6⟩, ⟨h7, h8⟩⟩ := id h
  obtain ⟨e, c, n, f⟩ := p
  simp only at h1 h2 h3 h4 h5 h6 h7 h8
  obtain ⟨e, rfl⟩ : ∃ k : Nat, e = (k : Int) := ⟨e.toNat, by omega⟩
  obtain ⟨c, rfl⟩ : ∃ k : Nat, c = (k : Int) := ⟨c.toNat, by omega⟩
  obtain ⟨n, rfl⟩ : ∃ k : Nat, n = (k : Int) := ⟨n.toNat, by omega⟩
  obtain ⟨f, rfl⟩ : ∃ k : Nat, f = (k : Int) := ⟨f.toNat, by omega⟩
  have := rencode_nat e c n f w h
  simpa [encP, ptA] using this
theorem get_strOf (l : List Nat) (j : Nat) (hj : j < l.length) (hb : ∀ x ∈ l, x < 256) (hjs : j < (strOf l).size) : ((strOf l)[j]'hjs).toNat = l.getD j 0 := by
  have h2 : (strOf l)[j]'hjs = (strOf l).data.toList[j]'(by rw [strOf_toList, List.length_map]; exact hj) := by rfl
  rw [h2]
  have h3 : (strOf l).data.toList[j]? = some (UInt8.ofNat (l.getD j 0)) := by
    rw [strOf_toList, List.getElem?_map, List.getElem?_eq_getElem hj, List.getD_eq_getElem?_getD, List.getElem?_eq_getElem hj]; rfl
  rw [List.getElem?_eq_getElem (by rw [strOf_toList, List.length_map]; exact hj)] at h3
  rw [Option.some.inj h3, UInt8.toNat_ofNat']
  exact Nat.mod_eq_of_lt (getD_b hb j)
theorem index_strOf (l : List Nat) (j : Nat) (hj : j < l.length) (hb : ∀ x ∈ l, x < 256) (W : World) : (Instr.index 9 (.string (strOf l)) (.int .i64 (j : Int))).run Try.prog W = .ok (.int .u8 (l.getD j 0 : Nat)) W := by
  have hs := strOf_size l
  have h1 : (0 : Int) ≤ (j : Int) ∧ (j : Int) < ((strOf l).size : Int) := by rw [hs]; omega
  have hjs : j < (strOf l).size := by omega
  rw [run_index_string W _ _ _ _ Try.underlying9]
  have e : ((strOf l)[j]'hjs).toNat = l.getD j 0 := by
    have h2 : (strOf l)[j]'hjs = (strOf l).data.toList[j]'(by rw [strOf_toList, List.length_map]; exact hj) := by rfl
    rw [h2]
    have h3 : (strOf l).data.toList[j]? = some (UInt8.ofNat (l.getD j 0)) := by
      rw [strOf_toList, List.getElem?_map, List.getElem?_eq_getElem hj, List.getD_eq_getElem?_getD, List.getElem?_eq_getElem hj]; rfl
    rw [List.getElem?_eq_getElem (by rw [strOf_toList, List.length_map]; exact hj)] at h3
    rw [Option.some.inj h3, UInt8.toNat_ofNat']
    exact Nat.mod_eq_of_lt (getD_b hb j)
  simp [h1, hjs, e]
def RDecO (w : World) (p : Pt) (code : Int) (e : Ending) (w' : World) : Prop := e = .returned (.tuple #[.agg (ptA p), .int .i64 code]) ∧ Below w.heap.size w w'
theorem rdecode_len (l : List Nat) (w : World) (hn : l.length ≠ 64) : Calls Try.prog 32 #[.string (strOf l)] w (RDecO w ⟨0, 0, 0, 0⟩ 100) := by
  have hs := strOf_size l
  have hne : (((strOf l).size : Int) != 64) = true := by rw [hs, bne_iff_ne]; omega
  clear hs
  go_enter Try.func32, Try.ntmps32
  go_wp2
  exact bodyPost_ret (v := .tuple #[.agg (ptA ⟨0, 0, 0, 0⟩), .int .i64 100]) (by simp [results, Try.results32, go_sem, ptA]) rfl ⟨rfl, by first | exact sup_pt _ _ | exact below_4 (sup_pt _ _) (Nat.le_refl _)⟩
theorem lit_sum (x y : Nat) : ((x + y * 256 : Nat) : Int) = (x : Int) + 256 * (y : Int) := by omega
set_option maxRecDepth 100000 in
set_option maxHeartbeats 4000000 in
theorem rdecode_64 (l : List Nat) (w : World) (hl : l.length = 64) (hb : ∀ x ∈ l, x < 256) (p : Pt) (code : Int) (hp : (decP l = some p ∧ code = 0) ∨ (decP l = none ∧ p = ⟨0, 0, 0, 0⟩ ∧ code = 100)) :
    Calls Try.prog 32 #[.string (strOf l)] w (RDecO w p code) := by
  have hs := strOf_size l
  rw [hl] at hs
  have HLen := Lib.hid hl
  have HBy := Lib.hid hb
  have HP := Lib.hid hp
  have q0 := get_strOf l 0 (by omega) hb
  have q1 := get_strOf l 1 (by omega) hb
  have q2 := get_strOf l 2 (by omega) hb
  have q3 := get_strOf l 3 (by omega) hb
  have q5 := get_strOf l 5 (by omega) hb
  have q6 := get_strOf l 6 (by omega) hb
  have q7 := get_strOf l 7 (by omega) hb
  have q8 := get_strOf l 8 (by omega) hb
  have b0 := getD_b hb 0
  have b1 := getD_b hb 1
  have b2 := getD_b hb 2
  have b3 := getD_b hb 3
  have b5 := getD_b hb 5
  have b6 := getD_b hb 6
  have b7 := getD_b hb 7
  have b8 := getD_b hb 8
  have HRd : Hid (rdP l = ⟨(l.getD 0 0 : Int) + 256 * (l.getD 1 0 : Int), (l.getD 2 0 : Int) + 256 * (l.getD 3 0 : Int), (l.getD 5 0 : Int) + 256 * (l.getD 6 0 : Int), (l.getD 7 0 : Int) + 256 * (l.getD 8 0 : Int)⟩) := by
    show rdP l = _
    unfold rdP
    simp only [lit_sum]
  clear hl hb hp
  generalize l.getD 0 0 = x0 at *
  generalize l.getD 1 0 = x1 at *
  generalize l.getD 2 0 = x2 at *
  generalize l.getD 3 0 = x3 at *
  generalize l.getD 5 0 = x5 at *
  generalize l.getD 6 0 = x6 at *
  generalize l.getD 7 0 = x7 at *
  generalize l.getD 8 0 = x8 at *
  go_enter Try.func32, Try.ntmps32
  go_wp2_with fail
  have w0 : IntKind.i64.wrap (x0 : Int) = (x0 : Int) := IntWalk.i64_in _ (by omega)
  have w1 : IntKind.i64.wrap (x1 : Int) = (x1 : Int) := IntWalk.i64_in _ (by omega)
  have w2 : IntKind.i64.wrap (x2 : Int) = (x2 : Int) := IntWalk.i64_in _ (by omega)
  have w3 : IntKind.i64.wrap (x3 : Int) = (x3 : Int) := IntWalk.i64_in _ (by omega)
  have w5 : IntKind.i64.wrap (x5 : Int) = (x5 : Int) := IntWalk.i64_in _ (by omega)
  have w6 : IntKind.i64.wrap (x6 : Int) = (x6 : Int) := IntWalk.i64_in _ (by omega)
  have w7 : IntKind.i64.wrap (x7 : Int) = (x7 : Int) := IntWalk.i64_in _ (by omega)
  have w8 : IntKind.i64.wrap (x8 : Int) = (x8 : Int) := IntWalk.i64_in _ (by omega)
  have m1 : IntKind.i64.wrap (256 * (x1 : Int)) = 256 * (x1 : Int) := IntWalk.i64_in _ (by omega)
  have m3 : IntKind.i64.wrap (256 * (x3 : Int)) = 256 * (x3 : Int) := IntWalk.i64_in _ (by omega)
  have m6 : IntKind.i64.wrap (256 * (x6 : Int)) = 256 * (x6 : Int) := IntWalk.i64_in _ (by omega)
  have m8 : IntKind.i64.wrap (256 * (x8 : Int)) = 256 * (x8 : Int) := IntWalk.i64_in _ (by omega)
  have s1 : IntKind.i64.wrap ((x0 : Int) + 256 * (x1 : Int)) = (x0 : Int) + 256 * (x1 : Int) := IntWalk.i64_in _ (by omega)
  have s3 : IntKind.i64.wrap ((x2 : Int) + 256 * (x3 : Int)) = (x2 : Int) + 256 * (x3 : Int) := IntWalk.i64_in _ (by omega)
  have s6 : IntKind.i64.wrap ((x5 : Int) + 256 * (x6 : Int)) = (x5 : Int) + 256 * (x6 : Int) := IntWalk.i64_in _ (by omega)
  have s8 : IntKind.i64.wrap ((x7 : Int) + 256 * (x8 : Int)) = (x7 : Int) + 256 * (x8 : Int) := IntWalk.i64_in _ (by omega)
  refine wp_region_held_drew (S := (fun _ => True)) (by kernel_rfl) trivial (fun hHeld => ?_)
  refine wpAnyH_take (i := 0) (oi := ⟨some 9, _, _, _, _, _⟩) (v := ?_) rfl (by kernel_rfl) (by kernel_rfl) (by kernel_rfl) (fun _ _ _ h => h) (Or.inl ⟨by rfl, fun W hW => ?_⟩) (by assumption) ?_
  rotate_left
  · skip; go_simp; try with_reducible rfl
  simp only [Act.put, List.setIfInBounds_toArray, List.set_cons_zero, List.set_cons_succ]
  refine wpAnyH_take (i := 1) (oi := ⟨some 10, _, _, _, _, _⟩) (v := ?_) rfl (by kernel_rfl) (by kernel_rfl) (by kernel_rfl) (fun _ _ _ h => h) (Or.inl ⟨by rfl, fun W hW => ?_⟩) (by assumption) ?_
  rotate_left
  · skip; go_simp; try with_reducible rfl
  simp only [Act.put, List.setIfInBounds_toArray, List.set_cons_zero, List.set_cons_succ]
  refine wpAnyH_take (i := 2) (oi := ⟨some 11, _, _, _, _, _⟩) (v := ?_) rfl (by kernel_rfl) (by kernel_rfl) (by kernel_rfl) (fun _ _ _ h => h) (Or.inl ⟨by rfl, fun W hW => ?_⟩) (by assumption) ?_
  rotate_left
  · skip; go_simp; try with_reducible rfl
  simp only [Act.put, List.setIfInBounds_toArray, List.set_cons_zero, List.set_cons_succ]
  refine wpAnyH_take (i := 3) (oi := ⟨some 12, _, _, _, _, _⟩) (v := ?_) rfl (by kernel_rfl) (by kernel_rfl) (by kernel_rfl) (fun _ _ _ h => h) (Or.inl ⟨by rfl, fun W hW => ?_⟩) (by assumption) ?_
  rotate_left
  · skip; go_simp; try with_reducible rfl
  simp only [Act.put, List.setIfInBounds_toArray, List.set_cons_zero, List.set_cons_succ]
  refine wpAnyH_take (i := 4) (oi := ⟨some 13, _, _, _, _, _⟩) (v := ?_) rfl (by kernel_rfl) (by kernel_rfl) (by kernel_rfl) (fun _ _ _ h => h) (Or.inl ⟨by rfl, fun W hW => ?_⟩) (by assumption) ?_
  rotate_left
  · skip; go_simp; try with_reducible rfl
  simp only [Act.put, List.setIfInBounds_toArray, List.set_cons_zero, List.set_cons_succ]
  refine wpAnyH_take (i := 5) (oi := ⟨some 14, _, _, _, _, _⟩) (v := ?_) rfl (by kernel_rfl) (by kernel_rfl) (by kernel_rfl) (fun _ _ _ h => h) (Or.inl ⟨by rfl, fun W hW => ?_⟩) (by assumption) ?_
  rotate_left
  · skip; go_simp; try with_reducible rfl
  simp only [Act.put, List.setIfInBounds_toArray, List.set_cons_zero, List.set_cons_succ]
  refine wpAnyH_take (i := 6) (oi := ⟨some 15, _, _, _, _, _⟩) (v := ?_) rfl (by kernel_rfl) (by kernel_rfl) (by kernel_rfl) (fun _ _ _ h => h) (Or.inl ⟨by rfl, fun W hW => ?_⟩) (by assumption) ?_
  rotate_left
  · skip; go_simp; try with_reducible rfl
  simp only [Act.put, List.setIfInBounds_toArray, List.set_cons_zero, List.set_cons_succ]
  refine wpAnyH_take (i := 7) (oi := ⟨some 16, _, _, _, _, _⟩) (v := ?_) rfl (by kernel_rfl) (by kernel_rfl) (by kernel_rfl) (fun _ _ _ h => h) (Or.inl ⟨by rfl, fun W hW => ?_⟩) (by assumption) ?_
  rotate_left
  · skip; go_simp; try with_reducible rfl
  simp only [Act.put, List.setIfInBounds_toArray, List.set_cons_zero, List.set_cons_succ]
  refine wpAnyH_take (i := 8) (oi := ⟨some 17, _, _, _, _, _⟩) (v := ?_) rfl (by kernel_rfl) (by kernel_rfl) (by kernel_rfl) (fun _ _ _ h => h) (Or.inl ⟨by rfl, fun W hW => ?_⟩) (by assumption) ?_
  rotate_left
  · skip; go_simp; try with_reducible rfl
  simp only [Act.put, List.setIfInBounds_toArray, List.set_cons_zero, List.set_cons_succ]
  refine wpAnyH_take (i := 9) (oi := ⟨some 18, _, _, _, _, _⟩) (v := ?_) rfl (by kernel_rfl) (by kernel_rfl) (by kernel_rfl) (fun _ _ _ h => h) (Or.inl ⟨by rfl, fun W hW => ?_⟩) (by assumption) ?_
  rotate_left
  · skip; go_simp; try with_reducible rfl
  simp only [Act.put, List.setIfInBounds_toArray, List.set_cons_zero, List.set_cons_succ]
  refine wpAnyH_take (i := 10) (oi := ⟨some 19, _, _, _, _, _⟩) (v := ?_) rfl (by kernel_rfl) (by kernel_rfl) (by kernel_rfl) (fun _ _ _ h => h) (Or.inl ⟨by rfl, fun W hW => ?_⟩) (by assumption) ?_
  rotate_left
  · skip; go_simp; try with_reducible rfl
  simp only [Act.put, List.setIfInBounds_toArray, List.set_cons_zero, List.set_cons_succ]
  refine wpAnyH_take (i := 11) (oi := ⟨some 20, _, _, _, _, _⟩) (v := ?_) rfl (by kernel_rfl) (by kernel_rfl) (by kernel_rfl) (fun _ _ _ h => h) (Or.inl ⟨by rfl, fun W hW => ?_⟩) (by assumption) ?_
  rotate_left
  · skip; go_simp; try with_reducible rfl
  simp only [Act.put, List.setIfInBounds_toArray, List.set_cons_zero, List.set_cons_succ]
  refine wpAnyH_take (i := 12) (oi := ⟨some 21, _, _, _, _, _⟩) (v := ?_) rfl (by kernel_rfl) (by kernel_rfl) (by kernel_rfl) (fun _ _ _ h => h) (Or.inl ⟨by rfl, fun W hW => ?_⟩) (by assumption) ?_
  rotate_left
  · skip; go_simp; try with_reducible rfl
  simp only [Act.put, List.setIfInBounds_toArray, List.set_cons_zero, List.set_cons_succ]
  refine wpAnyH_take (i := 13) (oi := ⟨some 22, _, _, _, _, _⟩) (v := ?_) rfl (by kernel_rfl) (by kernel_rfl) (by kernel_rfl) (fun _ _ _ h => h) (Or.inl ⟨by rfl, fun W hW => ?_⟩) (by assumption) ?_
  rotate_left
  · skip; go_simp; try with_reducible rfl
  simp only [Act.put, List.setIfInBounds_toArray, List.set_cons_zero, List.set_cons_succ]
  refine wpAnyH_take (i := 14) (oi := ⟨some 23, _, _, _, _, _⟩) (v := ?_) rfl (by kernel_rfl) (by kernel_rfl) (by kernel_rfl) (fun _ _ _ h => h) (Or.inl ⟨by rfl, fun W hW => ?_⟩) (by assumption) ?_
  rotate_left
  · skip; go_simp; try with_reducible rfl
  simp only [Act.put, List.setIfInBounds_toArray, List.set_cons_zero, List.set_cons_succ]
  refine wpAnyH_take (i := 15) (oi := ⟨some 24, _, _, _, _, _⟩) (v := ?_) rfl (by kernel_rfl) (by kernel_rfl) (by kernel_rfl) (fun _ _ _ h => h) (Or.inl ⟨by rfl, fun W hW => ?_⟩) (by assumption) ?_
  rotate_left
  · skip; go_simp; try with_reducible rfl
  simp only [Act.put, List.setIfInBounds_toArray, List.set_cons_zero, List.set_cons_succ]
  refine wpAnyH_take (i := 16) (oi := ⟨some 25, _, _, _, _, _⟩) (v := ?_) rfl (by kernel_rfl) (by kernel_rfl) (by kernel_rfl) (fun _ _ _ h => h) (Or.inl ⟨by rfl, fun W hW => ?_⟩) (by assumption) ?_
  rotate_left
  · skip; go_simp; try with_reducible rfl
  simp only [Act.put, List.setIfInBounds_toArray, List.set_cons_zero, List.set_cons_succ]
  refine wpAnyH_take (i := 17) (oi := ⟨some 26, _, _, _, _, _⟩) (v := ?_) rfl (by kernel_rfl) (by kernel_rfl) (by kernel_rfl) (fun _ _ _ h => h) (Or.inl ⟨by rfl, fun W hW => ?_⟩) (by assumption) ?_
  rotate_left
  · skip; go_simp; try with_reducible rfl
  simp only [Act.put, List.setIfInBounds_toArray, List.set_cons_zero, List.set_cons_succ]
  refine wpAnyH_take (i := 18) (oi := ⟨some 27, _, _, _, _, _⟩) (v := ?_) rfl (by kernel_rfl) (by kernel_rfl) (by kernel_rfl) (fun _ _ _ h => h) (Or.inl ⟨by rfl, fun W hW => ?_⟩) (by assumption) ?_
  rotate_left
  · skip; go_simp; try with_reducible rfl
  simp only [Act.put, List.setIfInBounds_toArray, List.set_cons_zero, List.set_cons_succ]
  refine wpAnyH_take (i := 19) (oi := ⟨some 28, _, _, _, _, _⟩) (v := ?_) rfl (by kernel_rfl) (by kernel_rfl) (by kernel_rfl) (fun _ _ _ h => h) (Or.inl ⟨by rfl, fun W hW => ?_⟩) (by assumption) ?_
  rotate_left
  · skip; go_simp; try with_reducible rfl
  simp only [Act.put, List.setIfInBounds_toArray, List.set_cons_zero, List.set_cons_succ]
  refine wpAnyH_take (i := 20) (oi := ⟨some 29, _, _, _, _, _⟩) (v := ?_) rfl (by kernel_rfl) (by kernel_rfl) (by kernel_rfl) (fun _ _ _ h => h) (Or.inl ⟨by rfl, fun W hW => ?_⟩) (by assumption) ?_
  rotate_left
  · skip; go_simp; try with_reducible rfl
  simp only [Act.put, List.setIfInBounds_toArray, List.set_cons_zero, List.set_cons_succ]
  refine wpAnyH_take (i := 21) (oi := ⟨some 30, _, _, _, _, _⟩) (v := ?_) rfl (by kernel_rfl) (by kernel_rfl) (by kernel_rfl) (fun _ _ _ h => h) (Or.inl ⟨by rfl, fun W hW => ?_⟩) (by assumption) ?_
  rotate_left
  · skip; go_simp; try with_reducible rfl
  simp only [Act.put, List.setIfInBounds_toArray, List.set_cons_zero, List.set_cons_succ]
  refine wpAnyH_take (i := 22) (oi := ⟨some 31, _, _, _, _, _⟩) (v := ?_) rfl (by kernel_rfl) (by kernel_rfl) (by kernel_rfl) (fun _ _ _ h => h) (Or.inl ⟨by rfl, fun W hW => ?_⟩) (by assumption) ?_
  rotate_left
  · skip; go_simp; try with_reducible rfl
  simp only [Act.put, List.setIfInBounds_toArray, List.set_cons_zero, List.set_cons_succ]
  refine wpAnyH_take (i := 23) (oi := ⟨some 32, _, _, _, _, _⟩) (v := ?_) rfl (by kernel_rfl) (by kernel_rfl) (by kernel_rfl) (fun _ _ _ h => h) (Or.inl ⟨by rfl, fun W hW => ?_⟩) (by assumption) ?_
  rotate_left
  · skip; go_simp; try with_reducible rfl
  simp only [Act.put, List.setIfInBounds_toArray, List.set_cons_zero, List.set_cons_succ]
  refine wpAnyH_take (i := 24) (oi := ⟨some 33, _, _, _, _, _⟩) (v := ?_) rfl (by kernel_rfl) (by kernel_rfl) (by kernel_rfl) (fun _ _ _ h => h) (Or.inl ⟨by rfl, fun W hW => ?_⟩) (by assumption) ?_
  rotate_left
  · skip; go_simp; try with_reducible rfl
  simp only [Act.put, List.setIfInBounds_toArray, List.set_cons_zero, List.set_cons_succ]
  refine wpAnyH_take (i := 25) (oi := ⟨some 34, _, _, _, _, _⟩) (v := ?_) rfl (by kernel_rfl) (by kernel_rfl) (by kernel_rfl) (fun _ _ _ h => h) (Or.inl ⟨by rfl, fun W hW => ?_⟩) (by assumption) ?_
  rotate_left
  · skip; go_simp; try with_reducible rfl
  simp only [Act.put, List.setIfInBounds_toArray, List.set_cons_zero, List.set_cons_succ]
  refine wpAnyH_take (i := 26) (oi := ⟨some 35, _, _, _, _, _⟩) (v := ?_) rfl (by kernel_rfl) (by kernel_rfl) (by kernel_rfl) (fun _ _ _ h => h) (Or.inl ⟨by rfl, fun W hW => ?_⟩) (by assumption) ?_
  rotate_left
  · skip; go_simp; try with_reducible rfl
  simp only [Act.put, List.setIfInBounds_toArray, List.set_cons_zero, List.set_cons_succ]
  refine wpAnyH_take (i := 27) (oi := ⟨some 36, _, _, _, _, _⟩) (v := ?_) rfl (by kernel_rfl) (by kernel_rfl) (by kernel_rfl) (fun _ _ _ h => h) (Or.inl ⟨by rfl, fun W hW => ?_⟩) (by assumption) ?_
  rotate_left
  · skip; go_simp; try with_reducible rfl
  simp only [Act.put, List.setIfInBounds_toArray, List.set_cons_zero, List.set_cons_succ]
  refine wpAnyH_take (i := 28) (oi := ⟨some 37, _, _, _, _, _⟩) (v := ?_) rfl (by kernel_rfl) (by kernel_rfl) (by kernel_rfl) (fun _ _ _ h => h) (Or.inl ⟨by rfl, fun W hW => ?_⟩) (by assumption) ?_
  rotate_left
  · skip; go_simp; try with_reducible rfl
  simp only [Act.put, List.setIfInBounds_toArray, List.set_cons_zero, List.set_cons_succ]
  refine wpAnyH_take (i := 29) (oi := ⟨some 38, _, _, _, _, _⟩) (v := ?_) rfl (by kernel_rfl) (by kernel_rfl) (by kernel_rfl) (fun _ _ _ h => h) (Or.inl ⟨by rfl, fun W hW => ?_⟩) (by assumption) ?_
  rotate_left
  · skip; go_simp; try with_reducible rfl
  simp only [Act.put, List.setIfInBounds_toArray, List.set_cons_zero, List.set_cons_succ]
  refine wpAnyH_take (i := 30) (oi := ⟨some 39, _, _, _, _, _⟩) (v := ?_) rfl (by kernel_rfl) (by kernel_rfl) (by kernel_rfl) (fun _ _ _ h => h) (Or.inl ⟨by rfl, fun W hW => ?_⟩) (by assumption) ?_
  rotate_left
  · skip; go_simp; try with_reducible rfl
  simp only [Act.put, List.setIfInBounds_toArray, List.set_cons_zero, List.set_cons_succ]
  refine wpAnyH_take (i := 31) (oi := ⟨some 40, _, _, _, _, _⟩) (v := ?_) rfl (by kernel_rfl) (by kernel_rfl) (by kernel_rfl) (fun _ _ _ h => h) (Or.inl ⟨by rfl, fun W hW => ?_⟩) (by assumption) ?_
  rotate_left
  · skip; go_simp; try with_reducible rfl
  simp only [Act.put, List.setIfInBounds_toArray, List.set_cons_zero, List.set_cons_succ]
  refine wpAnyH_take (i := 32) (oi := ⟨some 41, _, _, _, _, _⟩) (v := ?_) rfl (by kernel_rfl) (by kernel_rfl) (by kernel_rfl) (fun _ _ _ h => h) (Or.inl ⟨by rfl, fun W hW => ?_⟩) (by assumption) ?_
  rotate_left
  · skip; go_simp; try with_reducible rfl
  simp only [Act.put, List.setIfInBounds_toArray, List.set_cons_zero, List.set_cons_succ]
  refine wpAnyH_ready (rs := [33]) (by kernel_rfl) (by simp) ?_
  refine AllReadyH.cons (o := ⟨some 4, _, _, _, _, _⟩) rfl (fun K hK => ?_) AllReadyH.nil
  go_simp
  refine hK.out _ _ trivial (fun hHeld => ?_)
  clear hK K
  try simp only [Act.put, List.setIfInBounds_toArray, List.set_cons_zero, List.set_cons_succ]
  refine wpAnyH_ready (rs := [34]) (by kernel_rfl) (by simp) ?_
  refine AllReadyH.cons (o := ⟨none, _, _, _, _, _⟩) rfl (fun K hK => ?_) AllReadyH.nil
  go_simp
  refine hK.out _ _ trivial (fun hHeld => ?_)
  clear hK K
  try simp only [Act.put, List.setIfInBounds_toArray, List.set_cons_zero, List.set_cons_succ]
  refine wpAnyH_done (by kernel_rfl) ?_ _
  clear w0 w1 w2 w3 w5 w6 w7 w8 m1 m3 m6 m8 s1 s3 s6 s8 q0 q1 q2 q3 q5 q6 q7 q8 b0 b1 b2 b3 b5 b6 b7 b8 hs
  generalize (x0 : Int) + 256 * (x1 : Int) = re at *
  generalize (x2 : Int) + 256 * (x3 : Int) = rc at *
  generalize (x5 : Int) + 256 * (x6 : Int) = rn at *
  generalize (x7 : Int) + 256 * (x8 : Int) = rf at *
  have HZ : Hid (Blo ((w.alloc (.cells #[.int .i64 0, .int .i64 0, .int .i64 0, .int .i64 0] RPT)).alloc (.cells #[.int .i64 re, .int .i64 rc, .int .i64 rn, .int .i64 rf] RPT)).drew w.heap.size RPT #[.int .i64 0, .int .i64 0, .int .i64 0, .int .i64 0]) := ((blo_laid w RPT _).alloc _).drew
  have HV : Hid (Blo ((w.alloc (.cells #[.int .i64 0, .int .i64 0, .int .i64 0, .int .i64 0] RPT)).alloc (.cells #[.int .i64 re, .int .i64 rc, .int .i64 rn, .int .i64 rf] RPT)).drew (w.heap.size + 1) RPT #[.int .i64 re, .int .i64 rc, .int .i64 rn, .int .i64 rf]) := by
    have h := blo_laid (w.alloc (.cells #[.int .i64 0, .int .i64 0, .int .i64 0, .int .i64 0] RPT)) RPT #[.int .i64 re, .int .i64 rc, .int .i64 rn, .int .i64 rf]
    rw [show (w.alloc (.cells #[.int .i64 0, .int .i64 0, .int .i64 0, .int .i64 0] RPT)).heap.size = w.heap.size + 1 by simp] at h
    exact h.drew
  have HB : Hid (Below w.heap.size w ((w.alloc (.cells #[.int .i64 0, .int .i64 0, .int .i64 0, .int .i64 0] RPT)).alloc (.cells #[.int .i64 re, .int .i64 rc, .int .i64 rn, .int .i64 rf] RPT)).drew) := (((Below.refl _ _).alloc (Nat.le_refl _) _).alloc (by simp) _).drew
  generalize ((w.alloc (.cells #[.int .i64 0, .int .i64 0, .int .i64 0, .int .i64 0] RPT)).alloc (.cells #[.int .i64 re, .int .i64 rc, .int .i64 rn, .int .i64 rf] RPT)).drew = wa at *
  have v0 := HV.out.cell 0
  have v1 := HV.out.cell 1
  have v2 := HV.out.cell 2
  have v3 := HV.out.cell 3
  simp at v0 v1 v2 v3
  go_wp2_with fail
  refine (rgood_any re rc rn rf wa).mono ?_
  rintro e wb ⟨rfl, hb⟩
  have HZb := Lib.hid (HZ.out.later hb)
  have HVb := Lib.hid (HV.out.later hb)
  have HBb := Lib.hid (HB.out.trans (hb.mono HB.out.size))
  clear hb HZ HV HB v0 v1 v2 v3
  by_cases hg : Good4 ⟨re, rc, rn, rf⟩
  · rw [decide_eq_true hg]
    have v0 := HVb.out.cell 0
    have v1 := HVb.out.cell 1
    have v2 := HVb.out.cell 2
    have v3 := HVb.out.cell 3
    simp at v0 v1 v2 v3
    have HG := Lib.hid hg
    clear hg
    go_wp2_with fail
    refine (rencode_any ⟨re, rc, rn, rf⟩ wb HG.out).mono ?_
    rintro e wd ⟨rfl, hb⟩
    have HZd := Lib.hid (HZb.out.later hb)
    have HVd := Lib.hid (HVb.out.later hb)
    have HBd := Lib.hid (HBb.out.trans (hb.mono HBb.out.size))
    clear hb HZb HVb HBb v0 v1 v2 v3
    have z0 := HZd.out.cell 0
    have z1 := HZd.out.cell 1
    have z2 := HZd.out.cell 2
    have z3 := HZd.out.cell 3
    have f0 := HZd.out.frozen 0
    have f1 := HZd.out.frozen 1
    have f2 := HZd.out.frozen 2
    have f3 := HZd.out.frozen 3
    have v0 := HVd.out.cell 0
    have v1 := HVd.out.cell 1
    have v2 := HVd.out.cell 2
    have v3 := HVd.out.cell 3
    simp at v0 v1 v2 v3 z0 z1 z2 z3
    by_cases he : encP ⟨re, rc, rn, rf⟩ = l
    · have hpe : Hid (p = ⟨re, rc, rn, rf⟩ ∧ code = 0) := by
        have hd : decP l = some (rdP l) := by unfold decP; rw [HRd.out, if_pos ⟨HLen.out, HG.out, he⟩]
        rcases HP.out with ⟨h1, h2⟩ | ⟨h1, _⟩
        · rw [hd, HRd.out] at h1
          exact ⟨(Option.some.inj h1).symm, h2⟩
        · rw [hd] at h1; cases h1
      have hs2 : ((strOf (encP ⟨re, rc, rn, rf⟩)).toList != (strOf l).toList) = false := by rw [he]; simp
      have hs1 : ((strOf (encP ⟨re, rc, rn, rf⟩)).toList == (strOf l).toList) = true := by rw [he]; simp
      have HE := Lib.hid he
      clear he
      go_wp2
      refine bodyPost_ret (v := .tuple #[.agg #[.int .i64 re, .int .i64 rc, .int .i64 rn, .int .i64 rf], .int .i64 0]) ?_ rfl ⟨?_, below_4 HBd.out (Nat.le_refl _)⟩
      · simp [results, Try.results32, go_sem, z0, z1, z2, z3]
      · rw [hpe.out.1, hpe.out.2]; rfl
    · have hpe : Hid (p = ⟨0, 0, 0, 0⟩ ∧ code = 100) := by
        have hd : decP l = none := by unfold decP; rw [HRd.out, if_neg (fun h => he h.2.2)]
        rcases HP.out with ⟨h1, _⟩ | ⟨_, h2⟩
        · rw [hd] at h1; cases h1
        · exact h2
      have hs1 : ((strOf (encP ⟨re, rc, rn, rf⟩)).toList == (strOf l).toList) = false := str_ne (encP_byte HG.out) HBy.out he
      have hs2 : ((strOf (encP ⟨re, rc, rn, rf⟩)).toList != (strOf l).toList) = true := by simp only [bne, hs1]; rfl
      have HE := Lib.hid he
      clear he
      go_wp2
      refine bodyPost_ret (v := .tuple #[.agg #[.int .i64 0, .int .i64 0, .int .i64 0, .int .i64 0], .int .i64 100]) ?_ rfl ⟨?_, below_4 HBd.out (Nat.le_refl _)⟩
      · simp [results, Try.results32, go_sem, z0, z1, z2, z3]
      · rw [hpe.out.1, hpe.out.2]; rfl
  · have hpe : Hid (p = ⟨0, 0, 0, 0⟩ ∧ code = 100) := by
      have hd : decP l = none := by unfold decP; rw [HRd.out, if_neg (fun h => hg h.2.1)]
      rcases HP.out with ⟨h1, _⟩ | ⟨_, h2⟩
      · rw [hd] at h1; cases h1
      · exact h2
    rw [decide_eq_false hg]
    clear hg
    have z0 := HZb.out.cell 0
    have z1 := HZb.out.cell 1
    have z2 := HZb.out.cell 2
    have z3 := HZb.out.cell 3
    have f0 := HZb.out.frozen 0
    have f1 := HZb.out.frozen 1
    have f2 := HZb.out.frozen 2
    have f3 := HZb.out.frozen 3
    simp at z0 z1 z2 z3
    go_wp2
    refine bodyPost_ret (v := .tuple #[.agg #[.int .i64 0, .int .i64 0, .int .i64 0, .int .i64 0], .int .i64 100]) ?_ rfl ⟨?_, below_4 HBb.out (Nat.le_refl _)⟩
    · simp [results, Try.results32, go_sem, z0, z1, z2, z3]
    · rw [hpe.out.1, hpe.out.2]; rfl
end Go.Proofs.Ytmkhliabmodbdaa
