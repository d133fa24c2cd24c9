/-
  The document's disk: Put.
-/
import Derived.Test.YtmkhliabmodbdaaDrRow
import Derived.Deep.Cut
namespace Go.Proofs.Ytmkhliabmodbdaa
open Go.RowKit

theorem dr_four (w w1 : World) (a b c d : Value) (g : Nat) (h : Below w.heap.size w w1) (hg : w.heap.size ≤ g) : Below w.heap.size w ((((w1.setCell ⟨g, 0, none⟩ a).setCell ⟨g, 1, none⟩ b).setCell ⟨g, 2, none⟩ c).setCell ⟨g, 3, none⟩ d) :=
  (((h.setCell (p := ⟨g, 0, none⟩) hg a).setCell (p := ⟨g, 1, none⟩) hg b).setCell (p := ⟨g, 2, none⟩) hg c).setCell (p := ⟨g, 3, none⟩) hg d
set_option maxHeartbeats 1000000 in
theorem rput_low (sa qa : Option Addr) (n sc m qc : Nat) (st lf k : Int) (s : ByteArray) (hk : k < 0) (w : World) :
    Calls Try.prog 23 #[.agg #[.slice sa n sc, .slice qa m qc, .int .i64 st, .int .i64 lf], .int .i64 k, .string s] w fun e w' => e = .returned (.tuple #[.agg #[.slice sa n sc, .slice qa m qc, .int .i64 st, .int .i64 lf], .int .i64 22]) ∧ Below w.heap.size w w' := by
  go_enter Try.func23, Try.ntmps23
  go_wp2
  refine bodyPost_ret (v := .tuple #[.agg #[.slice sa n sc, .slice qa m qc, .int .i64 st, .int .i64 lf], .int .i64 22]) ?_ rfl ⟨rfl, dr_two _ _ _⟩
  simp [results, Try.results23, go_sem]
set_option maxHeartbeats 1000000 in
theorem rput_high (sa qa : Option Addr) (n sc m qc : Nat) (st lf k : Int) (s : ByteArray) (hk0 : ¬ k < 0) (hk : (n : Int) ≤ k) (w : World) :
    Calls Try.prog 23 #[.agg #[.slice sa n sc, .slice qa m qc, .int .i64 st, .int .i64 lf], .int .i64 k, .string s] w fun e w' => e = .returned (.tuple #[.agg #[.slice sa n sc, .slice qa m qc, .int .i64 st, .int .i64 lf], .int .i64 22]) ∧ Below w.heap.size w w' := by
  go_enter Try.func23, Try.ntmps23
  go_wp2
  refine bodyPost_ret (v := .tuple #[.agg #[.slice sa n sc, .slice qa m qc, .int .i64 st, .int .i64 lf], .int .i64 22]) ?_ rfl ⟨rfl, dr_two _ _ _⟩
  simp [results, Try.results23, go_sem]
set_option maxHeartbeats 1000000 in
theorem rput_len (sa qa : Option Addr) (n sc m qc : Nat) (st lf k : Int) (s : ByteArray) (hk0 : ¬ k < 0) (hk : ¬ (n : Int) ≤ k) (hs : ((s.size : Int) != 64) = true) (w : World) :
    Calls Try.prog 23 #[.agg #[.slice sa n sc, .slice qa m qc, .int .i64 st, .int .i64 lf], .int .i64 k, .string s] w fun e w' => e = .returned (.tuple #[.agg #[.slice sa n sc, .slice qa m qc, .int .i64 st, .int .i64 lf], .int .i64 22]) ∧ Below w.heap.size w w' := by
  go_enter Try.func23, Try.ntmps23
  go_wp2
  refine bodyPost_ret (v := .tuple #[.agg #[.slice sa n sc, .slice qa m qc, .int .i64 st, .int .i64 lf], .int .i64 22]) ?_ rfl ⟨rfl, dr_two _ _ _⟩
  simp [results, Try.results23, go_sem]
set_option maxRecDepth 100000 in
set_option maxHeartbeats 2000000 in
theorem rput_dead (sa qa : Option Addr) (n sc m qc : Nat) (st lf st2 lf2 k : Int) (s : ByteArray) (hk0 : ¬ k < 0) (hk : ¬ (n : Int) ≤ k) (hs : ((s.size : Int) != 64) = false) (w : World)
    (hstep : ∀ W, Calls Try.prog 43 #[.agg #[.slice sa n sc, .slice qa m qc, .int .i64 st, .int .i64 lf]] W fun e w' => e = .returned (.tuple #[.agg #[.slice sa n sc, .slice qa m qc, .int .i64 st2, .int .i64 lf2], .bool false]) ∧ Below W.heap.size W w') :
    Calls Try.prog 23 #[.agg #[.slice sa n sc, .slice qa m qc, .int .i64 st, .int .i64 lf], .int .i64 k, .string s] w fun e w' => e = .returned (.tuple #[.agg #[.slice sa n sc, .slice qa m qc, .int .i64 st2, .int .i64 lf2], .int .i64 102]) ∧ Below w.heap.size w w' := by
  have HS := Lib.hid hstep
  have hb2 := dr_two w (.cells #[.slice sa n sc, .slice qa m qc, .int .i64 st, .int .i64 lf] RDT) (.cells #[.slice none 0 0, .slice none 0 0, .int .i64 0, .int .i64 0] RDT)
  have HB2 := Lib.hid hb2
  have HX := Lib.hid ((blo_laid w RDT #[.slice sa n sc, .slice qa m qc, .int .i64 st, .int .i64 lf]).alloc (.cells #[.slice none 0 0, .slice none 0 0, .int .i64 0, .int .i64 0] RDT))
  have HZ : Hid (Blo ((w.alloc (.cells #[.slice sa n sc, .slice qa m qc, .int .i64 st, .int .i64 lf] RDT)).alloc (.cells #[.slice none 0 0, .slice none 0 0, .int .i64 0, .int .i64 0] RDT)) (w.heap.size + 1) RDT #[.slice none 0 0, .slice none 0 0, .int .i64 0, .int .i64 0]) := by
    have h := blo_laid (w.alloc (.cells #[.slice sa n sc, .slice qa m qc, .int .i64 st, .int .i64 lf] RDT)) RDT #[.slice none 0 0, .slice none 0 0, .int .i64 0, .int .i64 0]
    rw [show (w.alloc (.cells #[.slice sa n sc, .slice qa m qc, .int .i64 st, .int .i64 lf] RDT)).heap.size = w.heap.size + 1 by simp] at h
    exact h
  clear hstep hb2
  go_enter Try.func23, Try.ntmps23
  go_wp2_with fail
  refine (HS.out _).mono ?_
  rintro e w1 ⟨rfl, hb1⟩
  have HB3 := Lib.hid (HB2.out.trans (hb1.mono HB2.out.size))
  have HY := Lib.hid (HX.out.later hb1)
  have x0 := HY.out.cell 0
  have x1 := HY.out.cell 1
  have x2 := HY.out.cell 2
  have x3 := HY.out.cell 3
  have f0 := HY.out.frozen 0
  have f1 := HY.out.frozen 1
  have f2 := HY.out.frozen 2
  have f3 := HY.out.frozen 3
  have HW := Lib.hid (HZ.out.later hb1)
  have z0 := HW.out.cell 0
  have z1 := HW.out.cell 1
  have z2 := HW.out.cell 2
  have z3 := HW.out.cell 3
  have e0 := HW.out.frozen 0
  have e1 := HW.out.frozen 1
  have e2 := HW.out.frozen 2
  have e3 := HW.out.frozen 3
  simp at x0 x1 x2 x3 z0 z1 z2 z3
  clear hb1 HX HZ HS HB2 HY HW
  go_wp2
  refine bodyPost_ret (v := .tuple #[.agg #[.slice sa n sc, .slice qa m qc, .int .i64 st2, .int .i64 lf2], .int .i64 102]) ?_ rfl ⟨rfl, dr_four _ _ _ _ _ _ _ (dr_four _ _ _ _ _ _ _ HB3.out (Nat.le_refl _)) (Nat.le_succ _)⟩
  simp [results, Try.results23, go_sem, x0, x1, x2, x3, z0, z1, z2, z3]
theorem dr_fin {W : World} {g : Nat} {t : TypeId} {a b c d x0 x1 x2 x3 : Value} (h : Blo W g t #[x0, x1, x2, x3]) : Blo ((((W.setCell ⟨g, 0, none⟩ a).setCell ⟨g, 1, none⟩ b).setCell ⟨g, 2, none⟩ c).setCell ⟨g, 3, none⟩ d) g t #[a, b, c, d] :=
  (((h.put 0 a).put 1 b).put 2 c).put 3 d
theorem one2 (w : World) (i : Nat) (l : List Nat) : Rds (w.alloc (.cells #[.int .i64 (i : Int), .string (strOf l)] RWT)) (some ⟨w.heap.size, 0, none⟩) (cells2 [(i, l)]) := fun j u hj => by
  have hb := blo_laid w RWT #[.int .i64 (i : Int), .string (strOf l)]
  refine ⟨w.heap.size, 0, rfl, ?_⟩
  rw [Nat.zero_add, hb.cell]
  simpa [cells2, wr2] using hj
theorem own_off {w : World} {base : Nat} {e : TypeId} {size : Nat} {v : Value} {n : Nat} {xs : List Value} (h : w.ownsRow base e size v n xs) {p : Addr} (hp : p.block < base) (u : Value) : (w.setCell p u).ownsRow base e size v n xs :=
  own_far h (fun e => by have := (own_lt h e.symm).1; omega) u
set_option maxRecDepth 100000 in
set_option maxHeartbeats 2000000 in
theorem rput_yes (sa qa : Option Addr) (n sc m qc : Nat) (st lf st2 lf2 : Int) (i : Nat) (l : List Nat) (Q : List (Nat × List Nat)) (hk : ¬ (n : Int) ≤ (i : Int)) (hs : (((strOf l).size : Int) != 64) = false) (w : World)
    (hstep : ∀ W, Calls Try.prog 43 #[.agg #[.slice sa n sc, .slice qa m qc, .int .i64 st, .int .i64 lf]] W fun e w' => e = .returned (.tuple #[.agg #[.slice sa n sc, .slice qa m qc, .int .i64 st2, .int .i64 lf2], .bool true]) ∧ Below W.heap.size W w')
    (hm : m = Q.length) (hQ : Rds w qa (cells2 Q)) (hnone : qa = none → m = 0 ∧ qc = 0) (hroom : m ≤ 100000) :
    Calls Try.prog 23 #[.agg #[.slice sa n sc, .slice qa m qc, .int .i64 st, .int .i64 lf], .int .i64 i, .string (strOf l)] w fun e w' => ∃ a5 c5, e = .returned (.tuple #[.agg #[.slice sa n sc, .slice a5 (m + 1) c5, .int .i64 st2, .int .i64 lf2], .int .i64 0]) ∧ (∃ base, w'.ownsRow base RWT 2 (.slice a5 (m + 1) c5) (m + 1) (cells2 (Q ++ [(i, l)]))) ∧ (a5 = none → m + 1 = 0 ∧ c5 = 0) ∧ Below w.heap.size w w' := by
  obtain ⟨z, hzi, hzs⟩ := info_rwt
  have HS := Lib.hid hstep
  have HQ := Lib.hid hQ
  have HM : Hid ((cells2 Q).length = m * 2) := by
    show (cells2 Q).length = m * 2
    rw [cells2_length, hm]
  have HNn := Lib.hid hnone
  have k0 : ¬ (i : Int) < 0 := by omega
  have hb2 := dr_two w (.cells #[.slice sa n sc, .slice qa m qc, .int .i64 st, .int .i64 lf] RDT) (.cells #[.slice none 0 0, .slice none 0 0, .int .i64 0, .int .i64 0] RDT)
  have HB2 := Lib.hid hb2
  have HX := Lib.hid ((blo_laid w RDT #[.slice sa n sc, .slice qa m qc, .int .i64 st, .int .i64 lf]).alloc (.cells #[.slice none 0 0, .slice none 0 0, .int .i64 0, .int .i64 0] RDT))
  have HZ : Hid (Blo ((w.alloc (.cells #[.slice sa n sc, .slice qa m qc, .int .i64 st, .int .i64 lf] RDT)).alloc (.cells #[.slice none 0 0, .slice none 0 0, .int .i64 0, .int .i64 0] RDT)) (w.heap.size + 1) RDT #[.slice none 0 0, .slice none 0 0, .int .i64 0, .int .i64 0]) := by
    have h := blo_laid (w.alloc (.cells #[.slice sa n sc, .slice qa m qc, .int .i64 st, .int .i64 lf] RDT)) RDT #[.slice none 0 0, .slice none 0 0, .int .i64 0, .int .i64 0]
    rw [show (w.alloc (.cells #[.slice sa n sc, .slice qa m qc, .int .i64 st, .int .i64 lf] RDT)).heap.size = w.heap.size + 1 by simp] at h
    exact h
  clear hstep hb2 hQ hm hnone
  go_enter Try.func23, Try.ntmps23
  go_wp2_with fail
  refine (HS.out _).mono ?_
  rintro e w1 ⟨rfl, hb1⟩
  have HB3 := Lib.hid (HB2.out.trans (hb1.mono HB2.out.size))
  have HY := Lib.hid (HX.out.later hb1)
  have x0 := HY.out.cell 0
  have x1 := HY.out.cell 1
  have x2 := HY.out.cell 2
  have x3 := HY.out.cell 3
  have f0 := HY.out.frozen 0
  have f1 := HY.out.frozen 1
  have f2 := HY.out.frozen 2
  have f3 := HY.out.frozen 3
  have HW := Lib.hid (HZ.out.later hb1)
  simp at x0 x1 x2 x3
  clear hb1 HX HZ HS HB2
  go_upto_region 6 with (fail)
  have HY2 : Hid (Blo ((((w1.setCell ⟨w.heap.size, 0, none⟩ (.slice sa n sc)).setCell ⟨w.heap.size, 1, none⟩ (.slice qa m qc)).setCell ⟨w.heap.size, 2, none⟩ (.int .i64 st2)).setCell ⟨w.heap.size, 3, none⟩ (.int .i64 lf2)) w.heap.size RDT #[.slice sa n sc, .slice qa m qc, .int .i64 st2, .int .i64 lf2]) := dr_fin HY.out
  have HW2 : Hid (Blo ((((w1.setCell ⟨w.heap.size, 0, none⟩ (.slice sa n sc)).setCell ⟨w.heap.size, 1, none⟩ (.slice qa m qc)).setCell ⟨w.heap.size, 2, none⟩ (.int .i64 st2)).setCell ⟨w.heap.size, 3, none⟩ (.int .i64 lf2)) (w.heap.size + 1) RDT #[.slice none 0 0, .slice none 0 0, .int .i64 0, .int .i64 0]) := (((HW.out.far (p := ⟨w.heap.size, 0, none⟩) (by simp) _).far (p := ⟨w.heap.size, 1, none⟩) (by simp) _).far (p := ⟨w.heap.size, 2, none⟩) (by simp) _).far (p := ⟨w.heap.size, 3, none⟩) (by simp) _
  have HB4 : Hid (Below w.heap.size w ((((w1.setCell ⟨w.heap.size, 0, none⟩ (.slice sa n sc)).setCell ⟨w.heap.size, 1, none⟩ (.slice qa m qc)).setCell ⟨w.heap.size, 2, none⟩ (.int .i64 st2)).setCell ⟨w.heap.size, 3, none⟩ (.int .i64 lf2))) := dr_four _ _ _ _ _ _ _ HB3.out (Nat.le_refl _)
  have HQ2 := Lib.hid (HQ.out.later HB4.out)
  have hlt := HW2.out.lt
  clear x0 x1 x2 x3 f0 f1 f2 f3 HY HW HB3 HQ
  generalize ((((w1.setCell ⟨w.heap.size, 0, none⟩ (.slice sa n sc)).setCell ⟨w.heap.size, 1, none⟩ (.slice qa m qc)).setCell ⟨w.heap.size, 2, none⟩ (.int .i64 st2)).setCell ⟨w.heap.size, 3, none⟩ (.int .i64 lf2)) = w2 at *
  have y1 := HY2.out.cell 1
  simp at y1
  have hal : Below w2.heap.size w2 (w2.alloc (.cells #[] RWT)) := (Below.refl _ _).alloc (Nat.le_refl _) _
  have y1b := (HY2.out.later hal).cell 1
  simp at y1b
  go_wp2_with (first | (at_builtin; refine wp_append_row rfl (.tmp 32) (.tmp 34) 29 rfl w2.heap.size RWT z 2 24 Try.underlying29 hzi hzs (by decide) (by decide) _ 0 [] rfl (World.ownsRow_lit w2 #[] 0 (Nat.le_refl _) (by unfold maxLen; omega) rfl) qa m qc (cells2 Q) rfl HM.out (HQ2.out.later hal).add (cells2_one Q) HNn.out (by omega) (by simp) ?_; intro a3 c3 w3 hown hgrow; rw [Nat.zero_add, List.nil_append] at hown; rw [Nat.zero_add]; have HO3 := Lib.hid hown; have HB5 := Lib.hid (hal.grown hgrow (by simp) (fun q hq => by cases hq; exact Nat.le_refl _)); clear hown hgrow) | (at_builtin; refine wp_append_row rfl (.tmp 35) (.tmp 39) 29 rfl w2.heap.size RWT z 2 24 Try.underlying29 hzi hzs (by decide) (by decide) (.slice a3 m c3) m (cells2 Q) rfl (own_later HO3.out ((Below.refl _ _).alloc (Nat.le_refl _) (.cells #[.int .i64 (i : Int), .string (strOf l)] RWT))) (some ⟨w3.heap.size, 0, none⟩) 1 1 (cells2 [(i, l)]) rfl rfl (one2 w3 i l).add (cells2_one _) (fun h => by cases h) (by omega) (Nat.le_trans HB5.out.size (by simp)) ?_; intro a5 c5 w5 hown hgrow; rw [cells2_append] at hown; have HO5 := Lib.hid hown; have HB7 := Lib.hid ((HB5.out.trans (((Below.refl _ _).alloc (Nat.le_refl _) (.cells #[.int .i64 (i : Int), .string (strOf l)] RWT)).mono HB5.out.size)).grown hgrow (Nat.le_trans HB5.out.size (by simp)) (fun q hq => (own_lt HO3.out hq).1)); have HY7 := Lib.hid (HY2.out.later HB7.out); have HW7 := Lib.hid (HW2.out.later HB7.out); have y0 := HY7.out.cell 0; have y1 := HY7.out.cell 1; have y2 := HY7.out.cell 2; have y3 := HY7.out.cell 3; have f1 := HY7.out.frozen 1; have z0 := HW7.out.cell 0; have z1 := HW7.out.cell 1; have z2 := HW7.out.cell 2; have z3 := HW7.out.cell 3; have e0 := HW7.out.frozen 0; have e1 := HW7.out.frozen 1; have e2 := HW7.out.frozen 2; have e3 := HW7.out.frozen 3; simp at y0 y1 y2 y3 z0 z1 z2 z3; clear hown hgrow))
  refine bodyPost_ret (v := .tuple #[.agg #[.slice sa n sc, .slice a5 (m + 1) c5, .int .i64 st2, .int .i64 lf2], .int .i64 0]) ?_ rfl ⟨a5, c5, rfl, ?_, fun h => ?_, ?_⟩
  · simp [results, Try.results23, go_sem, y0, y1, y2, y3, z0, z1, z2, z3]
  · exact ⟨_, (own_off (own_off (own_off (own_off (own_off HO5.out (Nat.lt_of_succ_lt hlt) _) hlt _) hlt _) hlt _) hlt _)⟩
  · rcases id HO5.out.2 with ⟨h1, _⟩ | ⟨g, c, cur, h1, _⟩
    · cases h1
    · cases h1; cases h
  · exact dr_four _ _ _ _ _ _ _ ((HB4.out.trans (HB7.out.mono HB4.out.size)).setCell (p := ⟨w.heap.size, 1, none⟩) (Nat.le_refl _) _) (Nat.le_succ _)
end Go.Proofs.Ytmkhliabmodbdaa
