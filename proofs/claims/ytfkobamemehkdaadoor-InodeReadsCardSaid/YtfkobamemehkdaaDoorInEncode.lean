/-
  The walk of an inode's Encode.
-/
import Derived.Test.YtfkobamemehkdaaDoorInCheck
import Derived.Deep.RegionHeld3
namespace Go.Proofs.YtfkobamemehkdaaDoor
open Go.RowKit

set_option maxHeartbeats 800000 in
theorem encode_bad (a b c d s : Int) (p0 p1 p2 p3 p4 p5 p6 p7 p8 : Nat) (w : World) (h : ¬ GoodI a b c d s) :
    Calls Tryd.prog 11 #[.agg (ino a b c d s p0 p1 p2 p3 p4 p5 p6 p7 p8)] w fun e w' => e = .returned (.tuple #[.slice none 0 0, .int .i64 22]) ∧ Below w.heap.size w w' := by
  have HB := Lib.hid (sup_below w)
  have HC := Lib.hid (fun W => check_bad a b c d s p0 p1 p2 p3 p4 p5 p6 p7 p8 W h)
  clear h
  go_enter Tryd.func11, Tryd.ntmps11
  go_wp2_with fail
  refine (HC.out _).mono ?_
  rintro e w1 ⟨rfl, hb1⟩
  have HB1 : Hid (Below w.heap.size w w1) := (HB.out _).trans (hb1.mono (by simp))
  clear hb1
  go_wp2
  go_ret2
  exact ⟨rfl, HB1.out⟩
theorem cut_tail (g n k r : Nat) (hk : k + r = n) (hr : 0 < r) (hn : n ≤ 1000) (W : World) :
    (Instr.slice 27 (.slice (some ⟨g, 0, none⟩) n n) (some (.int .i64 (k : Int))) none none).run Tryd.prog W = .ok (.slice (some ⟨g, k, none⟩) r r) W := by
  have ht' : Tryd.prog.underlying 27 = some (.slice (Tryd.prog.elem 27)) := by simp [Program.elem, Tryd.underlying27]
  have he : Tryd.prog.elem 27 = 5 := by simp [Program.elem, Tryd.underlying27]
  have e1 : n - k = r := by omega
  have e2 : ¬ n = k := by omega
  rw [run_slice_l W 27 _ _ _ ht' .i64 _ (by omega) (by omega), he, size_u8]
  simp [Result.andThen, sliced, Addr.add_lit, e1, e2]
theorem cut_four (g k r : Nat) (hr : 4 ≤ r) (hn : r ≤ 1000) (W : World) :
    (Instr.slice 27 (.slice (some ⟨g, k, none⟩) r r) none (some (.int .i64 4)) none).run Tryd.prog W = .ok (.slice (some ⟨g, k, none⟩) 4 r) W := by
  have ht' : Tryd.prog.underlying 27 = some (.slice (Tryd.prog.elem 27)) := by simp [Program.elem, Tryd.underlying27]
  have he : Tryd.prog.elem 27 = 5 := by simp [Program.elem, Tryd.underlying27]
  have e2 : ¬ r = 0 := by omega
  rw [run_slice_h W 27 _ _ _ ht' .i64 4 (by omega) (by omega), he, size_u8]
  simp [Result.andThen, sliced, Addr.add, e2]
def zrow (n : Nat) : Array Value := (cellsB (List.replicate n 0)).toArray
def EncodedI (w : World) (l : List Nat) (e : Ending) (w' : World) : Prop :=
  ∃ g, e = .returned (.tuple #[.slice (some ⟨g, 0, none⟩) 64 64, .int .i64 0]) ∧ Row w' g (sealN l) ∧ w.heap.size ≤ g ∧ Below w.heap.size w w'
set_option maxRecDepth 20000 in
set_option maxHeartbeats 4000000 in
theorem encode_good (a b c d s p0 p1 p2 p3 p4 p5 p6 p7 p8 : Nat) (w : World) (ht : Tab w) (hz : 0 < w.heap.size) (h : GoodI a b c d s)
    (q0 : p0 < 4294967296) (q1 : p1 < 4294967296) (q2 : p2 < 4294967296) (q3 : p3 < 4294967296) (q4 : p4 < 4294967296) (q5 : p5 < 4294967296) (q6 : p6 < 4294967296) (q7 : p7 < 4294967296) (q8 : p8 < 4294967296) :
    Calls Tryd.prog 11 #[.agg (ino a b c d s p0 p1 p2 p3 p4 p5 p6 p7 p8)] w (EncodedI w (inoN a b c d s p0 p1 p2 p3 p4 p5 p6 p7 p8)) := by
  have HB := Lib.hid (sup_below w)
  have HC := Lib.hid (fun W => check_good a b c d s p0 p1 p2 p3 p4 p5 p6 p7 p8 W h)
  have G0 := Lib.hid (blo_laid w 25 (ino a b c d s p0 p1 p2 p3 p4 p5 p6 p7 p8))
  have HT := Lib.hid ht
  have ha : a < 65536 := by have := h.2.1; omega
  have hb : b < 65536 := by have := h.2.2.2.1; omega
  have hc : c < 256 := by have := h.2.2.2.2.2.1; omega
  have hd : d < 256 := by have := h.2.2.2.2.2.2.2.1; omega
  have hs : s < 4294967296 := by have := h.2.2.2.2.2.2.2.2.2; omega
  clear h ht
  go_enter Tryd.func11, Tryd.ntmps11
  go_wp2_with fail
  refine (HC.out _).mono ?_
  rintro e w1 ⟨rfl, hb1⟩
  have HB1 : Hid (Below w.heap.size w w1) := (HB.out _).trans (hb1.mono (by simp))
  have G1 := Lib.hid (G0.out.later hb1)
  have hz1 : w.heap.size < w1.heap.size := G1.out.lt
  clear hb1 HC G0
  have hmk : (Instr.makeSlice 27 (.int .i64 60) (.int .i64 60)).run Tryd.prog w1 = .ok (.slice (some ⟨w1.heap.size, 0, none⟩) 60 60) (w1.alloc (.cells (zrow 60) 5)) := run_make_bytes (P := Tryd.prog) 27 5 Tryd.underlying27 info_u8 w1 60 60 rfl (by omega)
  have HR2 : Hid (Row (w1.alloc (.cells (zrow 60) 5)) w1.heap.size (List.replicate 60 0)) := row_laid w1 _
  have HB2 : Hid (Below w1.heap.size w1 (w1.alloc (.cells (zrow 60) 5))) := sup_below w1 _
  go_wp2_with fail
  clear hmk
  generalize (w1.alloc (.cells (zrow 60) 5)) = w2 at *
  generalize hg : w1.heap.size = g at *
  have HG := Lib.hid hg
  clear hg
  have KC : Hid (∀ W, Below g w1 W → Blo W w.heap.size 25 (ino a b c d s p0 p1 p2 p3 p4 p5 p6 p7 p8)) := fun W h => G1.out.below h hz1
  have KC0 : Hid (∀ W, Below g w1 W → W.cell? ⟨w.heap.size, 0, none⟩ = some (.int .i64 a)) := fun W h => by simpa using (KC.out W h).cell 0
  go_region_held3 (fun W => W.cell? ⟨w.heap.size, 0, none⟩ = some (.int .i64 a)) (first | exact KC0.out _ HB3.out | exact KC0.out _ HB2.out.drew | fail)
    ((go_at_call 22; refine (put2_row a _ g 0 _ w2.drew ha HR2.out (by simp [set1_length, set2_length, set4_length])).mono ?_; rintro e w3 ⟨rfl, hr, hbx⟩; have HB3 : Hid (Below g w1 w3) := HB2.out.trans (((Below.refl g _).drew).trans hbx); have HR3 := Lib.hid hr; clear hr hbx))
  clear KC0 HB2 HR2
  go_wp2_with fail
  have KC1 : Hid (∀ W, Below g w1 W → W.cell? ⟨w.heap.size, 1, none⟩ = some (.int .i64 b)) := fun W h => by simpa using (KC.out W h).cell 1
  go_region_held3 (fun W => W.cell? ⟨w.heap.size, 1, none⟩ = some (.int .i64 b)) (first | exact KC1.out _ HB4.out | exact KC1.out _ HB3.out.drew | fail)
    ((go_at_call 22; refine (put2_row b _ g 2 _ w3.drew hb HR3.out (by simp [set1_length, set2_length, set4_length])).mono ?_; rintro e w4 ⟨rfl, hr, hbx⟩; have HB4 : Hid (Below g w1 w4) := HB3.out.trans (((Below.refl g _).drew).trans hbx); have HR4 := Lib.hid hr; clear hr hbx))
  clear KC1 HB3 HR3
  go_wp2_with fail
  have KC2 : Hid (∀ W, Below g w1 W → W.cell? ⟨w.heap.size, 2, none⟩ = some (.int .i64 c)) := fun W h => by simpa using (KC.out W h).cell 2
  go_region_held3 (fun W => W.cell? ⟨w.heap.size, 2, none⟩ = some (.int .i64 c)) (first | exact KC2.out _ HB5.out | exact KC2.out _ HB4.out.drew | fail)
    ((go_at_call 22; refine (put1_row c _ g 4 _ w4.drew hc HR4.out (by simp [set1_length, set2_length, set4_length])).mono ?_; rintro e w5 ⟨rfl, hr, hbx⟩; have HB5 : Hid (Below g w1 w5) := HB4.out.trans (((Below.refl g _).drew).trans hbx); have HR5 := Lib.hid hr; clear hr hbx))
  clear KC2 HB4 HR4
  go_wp2_with fail
  have KC3 : Hid (∀ W, Below g w1 W → W.cell? ⟨w.heap.size, 3, none⟩ = some (.int .i64 d)) := fun W h => by simpa using (KC.out W h).cell 3
  go_region_held3 (fun W => W.cell? ⟨w.heap.size, 3, none⟩ = some (.int .i64 d)) (first | exact KC3.out _ HB6.out | exact KC3.out _ HB5.out.drew | fail)
    ((go_at_call 22; refine (put1_row d _ g 5 _ w5.drew hd HR5.out (by simp [set1_length, set2_length, set4_length])).mono ?_; rintro e w6 ⟨rfl, hr, hbx⟩; have HB6 : Hid (Below g w1 w6) := HB5.out.trans (((Below.refl g _).drew).trans hbx); have HR6 := Lib.hid hr; clear hr hbx))
  clear KC3 HB5 HR5
  go_wp2_with fail
  have KC4 : Hid (∀ W, Below g w1 W → W.cell? ⟨w.heap.size, 4, none⟩ = some (.int .i64 s)) := fun W h => by simpa using (KC.out W h).cell 4
  go_region_held3 (fun W => W.cell? ⟨w.heap.size, 4, none⟩ = some (.int .i64 s)) (first | exact KC4.out _ HB7.out | exact KC4.out _ HB6.out.drew | fail)
    ((go_at_call 22; refine (put4_row s _ g 6 _ w6.drew hs HR6.out (by simp [set1_length, set2_length, set4_length])).mono ?_; rintro e w7 ⟨rfl, hr, hbx⟩; have HB7 : Hid (Below g w1 w7) := HB6.out.trans (((Below.refl g _).drew).trans hbx); have HR7 := Lib.hid hr; clear hr hbx))
  clear KC4 HB6 HR6
  have x0 : w7.cell? ⟨w.heap.size, 5, none⟩ = some (.int .u32 p0) := by simpa using (KC.out _ HB7.out).cell 5
  have x1 : w7.cell? ⟨w.heap.size, 6, none⟩ = some (.int .u32 p1) := by simpa using (KC.out _ HB7.out).cell 6
  have x2 : w7.cell? ⟨w.heap.size, 7, none⟩ = some (.int .u32 p2) := by simpa using (KC.out _ HB7.out).cell 7
  have x3 : w7.cell? ⟨w.heap.size, 8, none⟩ = some (.int .u32 p3) := by simpa using (KC.out _ HB7.out).cell 8
  have x4 : w7.cell? ⟨w.heap.size, 9, none⟩ = some (.int .u32 p4) := by simpa using (KC.out _ HB7.out).cell 9
  have x5 : w7.cell? ⟨w.heap.size, 10, none⟩ = some (.int .u32 p5) := by simpa using (KC.out _ HB7.out).cell 10
  have x6 : w7.cell? ⟨w.heap.size, 11, none⟩ = some (.int .u32 p6) := by simpa using (KC.out _ HB7.out).cell 11
  have x7 : w7.cell? ⟨w.heap.size, 12, none⟩ = some (.int .u32 p7) := by simpa using (KC.out _ HB7.out).cell 12
  have x8 : w7.cell? ⟨w.heap.size, 13, none⟩ = some (.int .u32 p8) := by simpa using (KC.out _ HB7.out).cell 13
  go_wp2_with fail
  clear x0 x1 x2 x3 x4 x5 x6 x7 x8
  have i0 : ∀ W, (Instr.index 23 (.agg #[.int .u32 p0, .int .u32 p1, .int .u32 p2, .int .u32 p3, .int .u32 p4, .int .u32 p5, .int .u32 p6, .int .u32 p7, .int .u32 p8]) (.int .i64 0)).run Tryd.prog W = .ok (.int .u32 p0) W := fun _ => by kernel_rfl
  have i1 : ∀ W, (Instr.index 23 (.agg #[.int .u32 p0, .int .u32 p1, .int .u32 p2, .int .u32 p3, .int .u32 p4, .int .u32 p5, .int .u32 p6, .int .u32 p7, .int .u32 p8]) (.int .i64 1)).run Tryd.prog W = .ok (.int .u32 p1) W := fun _ => by kernel_rfl
  have i2 : ∀ W, (Instr.index 23 (.agg #[.int .u32 p0, .int .u32 p1, .int .u32 p2, .int .u32 p3, .int .u32 p4, .int .u32 p5, .int .u32 p6, .int .u32 p7, .int .u32 p8]) (.int .i64 2)).run Tryd.prog W = .ok (.int .u32 p2) W := fun _ => by kernel_rfl
  have i3 : ∀ W, (Instr.index 23 (.agg #[.int .u32 p0, .int .u32 p1, .int .u32 p2, .int .u32 p3, .int .u32 p4, .int .u32 p5, .int .u32 p6, .int .u32 p7, .int .u32 p8]) (.int .i64 3)).run Tryd.prog W = .ok (.int .u32 p3) W := fun _ => by kernel_rfl
  have i4 : ∀ W, (Instr.index 23 (.agg #[.int .u32 p0, .int .u32 p1, .int .u32 p2, .int .u32 p3, .int .u32 p4, .int .u32 p5, .int .u32 p6, .int .u32 p7, .int .u32 p8]) (.int .i64 4)).run Tryd.prog W = .ok (.int .u32 p4) W := fun _ => by kernel_rfl
  have i5 : ∀ W, (Instr.index 23 (.agg #[.int .u32 p0, .int .u32 p1, .int .u32 p2, .int .u32 p3, .int .u32 p4, .int .u32 p5, .int .u32 p6, .int .u32 p7, .int .u32 p8]) (.int .i64 5)).run Tryd.prog W = .ok (.int .u32 p5) W := fun _ => by kernel_rfl
  have i6 : ∀ W, (Instr.index 23 (.agg #[.int .u32 p0, .int .u32 p1, .int .u32 p2, .int .u32 p3, .int .u32 p4, .int .u32 p5, .int .u32 p6, .int .u32 p7, .int .u32 p8]) (.int .i64 6)).run Tryd.prog W = .ok (.int .u32 p6) W := fun _ => by kernel_rfl
  have i7 : ∀ W, (Instr.index 23 (.agg #[.int .u32 p0, .int .u32 p1, .int .u32 p2, .int .u32 p3, .int .u32 p4, .int .u32 p5, .int .u32 p6, .int .u32 p7, .int .u32 p8]) (.int .i64 7)).run Tryd.prog W = .ok (.int .u32 p7) W := fun _ => by kernel_rfl
  have i8 : ∀ W, (Instr.index 23 (.agg #[.int .u32 p0, .int .u32 p1, .int .u32 p2, .int .u32 p3, .int .u32 p4, .int .u32 p5, .int .u32 p6, .int .u32 p7, .int .u32 p8]) (.int .i64 8)).run Tryd.prog W = .ok (.int .u32 p8) W := fun _ => by kernel_rfl
  have s0 : ∀ W, (Instr.slice 27 (.slice (some ⟨g, 0, none⟩) 60 60) (some (.int .i64 10)) none none).run Tryd.prog W = .ok (.slice (some ⟨g, 10, none⟩) 50 50) W := cut_tail g 60 10 50 rfl (by decide) (by decide)
  have h0 : ∀ W, (Instr.slice 27 (.slice (some ⟨g, 10, none⟩) 50 50) none (some (.int .i64 4)) none).run Tryd.prog W = .ok (.slice (some ⟨g, 10, none⟩) 4 50) W := cut_four g 10 50 (by decide) (by decide)
  have s1 : ∀ W, (Instr.slice 27 (.slice (some ⟨g, 0, none⟩) 60 60) (some (.int .i64 14)) none none).run Tryd.prog W = .ok (.slice (some ⟨g, 14, none⟩) 46 46) W := cut_tail g 60 14 46 rfl (by decide) (by decide)
  have h1 : ∀ W, (Instr.slice 27 (.slice (some ⟨g, 14, none⟩) 46 46) none (some (.int .i64 4)) none).run Tryd.prog W = .ok (.slice (some ⟨g, 14, none⟩) 4 46) W := cut_four g 14 46 (by decide) (by decide)
  have s2 : ∀ W, (Instr.slice 27 (.slice (some ⟨g, 0, none⟩) 60 60) (some (.int .i64 18)) none none).run Tryd.prog W = .ok (.slice (some ⟨g, 18, none⟩) 42 42) W := cut_tail g 60 18 42 rfl (by decide) (by decide)
  have h2 : ∀ W, (Instr.slice 27 (.slice (some ⟨g, 18, none⟩) 42 42) none (some (.int .i64 4)) none).run Tryd.prog W = .ok (.slice (some ⟨g, 18, none⟩) 4 42) W := cut_four g 18 42 (by decide) (by decide)
  have s3 : ∀ W, (Instr.slice 27 (.slice (some ⟨g, 0, none⟩) 60 60) (some (.int .i64 22)) none none).run Tryd.prog W = .ok (.slice (some ⟨g, 22, none⟩) 38 38) W := cut_tail g 60 22 38 rfl (by decide) (by decide)
  have h3 : ∀ W, (Instr.slice 27 (.slice (some ⟨g, 22, none⟩) 38 38) none (some (.int .i64 4)) none).run Tryd.prog W = .ok (.slice (some ⟨g, 22, none⟩) 4 38) W := cut_four g 22 38 (by decide) (by decide)
  have s4 : ∀ W, (Instr.slice 27 (.slice (some ⟨g, 0, none⟩) 60 60) (some (.int .i64 26)) none none).run Tryd.prog W = .ok (.slice (some ⟨g, 26, none⟩) 34 34) W := cut_tail g 60 26 34 rfl (by decide) (by decide)
  have h4 : ∀ W, (Instr.slice 27 (.slice (some ⟨g, 26, none⟩) 34 34) none (some (.int .i64 4)) none).run Tryd.prog W = .ok (.slice (some ⟨g, 26, none⟩) 4 34) W := cut_four g 26 34 (by decide) (by decide)
  have s5 : ∀ W, (Instr.slice 27 (.slice (some ⟨g, 0, none⟩) 60 60) (some (.int .i64 30)) none none).run Tryd.prog W = .ok (.slice (some ⟨g, 30, none⟩) 30 30) W := cut_tail g 60 30 30 rfl (by decide) (by decide)
  have h5 : ∀ W, (Instr.slice 27 (.slice (some ⟨g, 30, none⟩) 30 30) none (some (.int .i64 4)) none).run Tryd.prog W = .ok (.slice (some ⟨g, 30, none⟩) 4 30) W := cut_four g 30 30 (by decide) (by decide)
  have s6 : ∀ W, (Instr.slice 27 (.slice (some ⟨g, 0, none⟩) 60 60) (some (.int .i64 34)) none none).run Tryd.prog W = .ok (.slice (some ⟨g, 34, none⟩) 26 26) W := cut_tail g 60 34 26 rfl (by decide) (by decide)
  have h6 : ∀ W, (Instr.slice 27 (.slice (some ⟨g, 34, none⟩) 26 26) none (some (.int .i64 4)) none).run Tryd.prog W = .ok (.slice (some ⟨g, 34, none⟩) 4 26) W := cut_four g 34 26 (by decide) (by decide)
  have s7 : ∀ W, (Instr.slice 27 (.slice (some ⟨g, 0, none⟩) 60 60) (some (.int .i64 38)) none none).run Tryd.prog W = .ok (.slice (some ⟨g, 38, none⟩) 22 22) W := cut_tail g 60 38 22 rfl (by decide) (by decide)
  have h7 : ∀ W, (Instr.slice 27 (.slice (some ⟨g, 38, none⟩) 22 22) none (some (.int .i64 4)) none).run Tryd.prog W = .ok (.slice (some ⟨g, 38, none⟩) 4 22) W := cut_four g 38 22 (by decide) (by decide)
  have s8 : ∀ W, (Instr.slice 27 (.slice (some ⟨g, 0, none⟩) 60 60) (some (.int .i64 42)) none none).run Tryd.prog W = .ok (.slice (some ⟨g, 42, none⟩) 18 18) W := cut_tail g 60 42 18 rfl (by decide) (by decide)
  have h8 : ∀ W, (Instr.slice 27 (.slice (some ⟨g, 42, none⟩) 18 18) none (some (.int .i64 4)) none).run Tryd.prog W = .ok (.slice (some ⟨g, 42, none⟩) 4 18) W := cut_four g 42 18 (by decide) (by decide)
  refine wp_loop_rounds 10 ?_
  rw [rounds_succ]
  go_wp2_with fail
  refine (put4_row p0 _ g 10 _ w7 q0 HR7.out (by simp [set1_length, set2_length, set4_length])).mono ?_
  rintro e w8 ⟨rfl, hr, hbx⟩
  have HB8 : Hid (Below g w1 w8) := HB7.out.trans hbx
  have HR8 := Lib.hid hr
  clear hr hbx HB7 HR7
  go_wp2_with fail
  rw [rounds_succ]
  go_wp2_with fail
  refine (put4_row p1 _ g 14 _ w8 q1 HR8.out (by simp [set1_length, set2_length, set4_length])).mono ?_
  rintro e w9 ⟨rfl, hr, hbx⟩
  have HB9 : Hid (Below g w1 w9) := HB8.out.trans hbx
  have HR9 := Lib.hid hr
  clear hr hbx HB8 HR8
  go_wp2_with fail
  rw [rounds_succ]
  go_wp2_with fail
  refine (put4_row p2 _ g 18 _ w9 q2 HR9.out (by simp [set1_length, set2_length, set4_length])).mono ?_
  rintro e w10 ⟨rfl, hr, hbx⟩
  have HB10 : Hid (Below g w1 w10) := HB9.out.trans hbx
  have HR10 := Lib.hid hr
  clear hr hbx HB9 HR9
  go_wp2_with fail
  rw [rounds_succ]
  go_wp2_with fail
  refine (put4_row p3 _ g 22 _ w10 q3 HR10.out (by simp [set1_length, set2_length, set4_length])).mono ?_
  rintro e w11 ⟨rfl, hr, hbx⟩
  have HB11 : Hid (Below g w1 w11) := HB10.out.trans hbx
  have HR11 := Lib.hid hr
  clear hr hbx HB10 HR10
  go_wp2_with fail
  rw [rounds_succ]
  go_wp2_with fail
  refine (put4_row p4 _ g 26 _ w11 q4 HR11.out (by simp [set1_length, set2_length, set4_length])).mono ?_
  rintro e w12 ⟨rfl, hr, hbx⟩
  have HB12 : Hid (Below g w1 w12) := HB11.out.trans hbx
  have HR12 := Lib.hid hr
  clear hr hbx HB11 HR11
  go_wp2_with fail
  rw [rounds_succ]
  go_wp2_with fail
  refine (put4_row p5 _ g 30 _ w12 q5 HR12.out (by simp [set1_length, set2_length, set4_length])).mono ?_
  rintro e w13 ⟨rfl, hr, hbx⟩
  have HB13 : Hid (Below g w1 w13) := HB12.out.trans hbx
  have HR13 := Lib.hid hr
  clear hr hbx HB12 HR12
  go_wp2_with fail
  rw [rounds_succ]
  go_wp2_with fail
  refine (put4_row p6 _ g 34 _ w13 q6 HR13.out (by simp [set1_length, set2_length, set4_length])).mono ?_
  rintro e w14 ⟨rfl, hr, hbx⟩
  have HB14 : Hid (Below g w1 w14) := HB13.out.trans hbx
  have HR14 := Lib.hid hr
  clear hr hbx HB13 HR13
  go_wp2_with fail
  rw [rounds_succ]
  go_wp2_with fail
  refine (put4_row p7 _ g 38 _ w14 q7 HR14.out (by simp [set1_length, set2_length, set4_length])).mono ?_
  rintro e w15 ⟨rfl, hr, hbx⟩
  have HB15 : Hid (Below g w1 w15) := HB14.out.trans hbx
  have HR15 := Lib.hid hr
  clear hr hbx HB14 HR14
  go_wp2_with fail
  rw [rounds_succ]
  go_wp2_with fail
  refine (put4_row p8 _ g 42 _ w15 q8 HR15.out (by simp [set1_length, set2_length, set4_length])).mono ?_
  rintro e w16 ⟨rfl, hr, hbx⟩
  have HB16 : Hid (Below g w1 w16) := HB15.out.trans hbx
  have HR16 := Lib.hid hr
  clear hr hbx HB15 HR15
  go_wp2_with fail
  rw [rounds_succ]
  go_wp2_with fail
  have hbody := HR16.out
  rw [ino_put] at hbody
  have HRb := Lib.hid hbody
  have HD : Hid (Below w.heap.size w w16) := HB1.out.trans (HB16.out.mono (by rw [← HG.out]; exact HB1.out.size))
  have hgs : w.heap.size ≤ w16.heap.size := HD.out.size
  clear hbody i0 s0 h0 i1 s1 h1 i2 s2 h2 i3 s3 h3 i4 s4 h4 i5 s5 h5 i6 s6 h6 i7 s7 h7 i8 s8 h8
  refine (seal_any (inoN a b c d s p0 p1 p2 p3 p4 p5 p6 p7 p8) 60 (inoN_length a b c d s p0 p1 p2 p3 p4 p5 p6 p7 p8).symm (by decide) _ 60 _ (HT.out.below HD.out hz) (by have := HD.out.size; omega) (HRb.out.bytes (inoN_lt a b c d s p0 p1 p2 p3 p4 p5 p6 p7 p8) (by rw [inoN_length]; decide))).mono ?_
  rintro e wf ⟨rfl, hrf, hbf⟩
  have HRf := Lib.hid hrf
  have HDf : Hid (Below w.heap.size w wf) := HD.out.trans (hbf.mono HD.out.size)
  clear hrf hbf
  go_wp2
  go_ret2
  exact ⟨w16.heap.size, rfl, HRf.out, hgs, HDf.out⟩
end Go.Proofs.YtfkobamemehkdaaDoor
