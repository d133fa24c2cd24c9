/-
  Pack: inode.
-/
import Derived.Test.YtonlhkhjdnaojaaPcMid
import Derived.Deep.Cut
namespace Go.Proofs.Ytonlhkhjdnaojaa
open Go.RowKit

section
variable {sz : Int} {s : Pl} {x : It} {w : World} {base g : Nat} {I V : Nat → Int}
theorem size_ino (W : World) (b : Nat) : Calls Try.prog 28 #[part 0 0 0 0 0 none 0 0 (some ⟨b, 0, none⟩) 1 1] W fun e W' => e = .returned (.int .i64 11) ∧ Below W.heap.size W W' :=
  size_any (l := []) 0 0 0 0 0 none 0 0 _ 1 1 (Fis.nil _ _) rfl (by decide) (by decide)
theorem one_cell (w : World) (n : Int) : (w.alloc (.cells #[.int .i64 n] IT)).cell? ⟨w.heap.size, 0, none⟩ = some (.int .i64 n) := (blo_laid w IT #[.int .i64 n]).cell 0
/-- Whether it comes into the piece at hand. -/
def InoT (base g : Nat) (sz : Int) (I V : Nat → Int) (s : Pl) (n : Int) (w0 : World) (t : Value) (wx : World) : Prop :=
  (t = .bool false ∧ PreQ ET base g sz I V s ⟨0, n⟩ w0 wx) ∨ (t = .bool true ∧ fitsP s ⟨0, n⟩ = false ∧ Pq wx base g sz I V s ∧ Below base w0 wx)
theorem ino_take {n : Int} {w0 w : World} (hO : PlOk sz s) (hq : Pq w base g sz I V s) (hB : Below base w0 w) (hw : base ≤ w0.heap.size) :
    Calls Try.prog 30 #[.pointer (some ⟨g, 0, none⟩), .int .i64 1] w fun e w' => ∃ t, e = .returned (.bool t) ∧ InoT base g sz I V s n w0 (.bool (!t)) w' := by
  obtain ⟨pv, fv, av, hk⟩ := hq
  have hw1 := Nat.le_trans hw hB.size
  cases ht : takeB s.left (blS s) (wdS s) (opS s) 1 with
  | true =>
    refine (take_t hk hO.bd 1 hw1 (by decide) ht).mono fun e w' ⟨h1, h2, h3, _⟩ => ⟨true, h1, .inl ⟨rfl, ino_put hO (by rw [fits_ino]; exact ht) h2 (hB.trans h3)⟩⟩
  | false =>
    refine (take_f hk hO.bd 1 hw1 (by decide) (by decide) ht).mono fun e w' ⟨h1, h2, h3, _⟩ => ⟨false, h1, .inr ⟨rfl, by rw [fits_ino]; exact ht, ⟨_, _, _, h2⟩, hB.trans h3⟩⟩
/-- The next piece, and room in it. -/
def FreshW (base g : Nat) (sz : Int) (I V : Nat → Int) (s : Pl) (w0 wx : World) : Prop :=
  PkO (fun _ => False) w0 base g sz (if left1 s < 3 then sz else left1 s) 2 10 true I V (s.N + 1) (upd s.nw s.N (decide (left1 s < 3))) (upd (zS s) s.N z0) wx
theorem pq_next {w0 w : World} (hO : PlOk sz s) (hq : Pq w base g sz I V s) (hB : Below base w0 w) (hw : base ≤ w0.heap.size) :
    Calls Try.prog 31 #[.pointer (some ⟨g, 0, none⟩)] w fun e w' => e = .returned (.tuple #[]) ∧ FreshW base g sz I V s w0 w' := by
  obtain ⟨pv, fv, av, hk⟩ := hq
  have hw1 := Nat.le_trans hw hB.size
  have := next_any hk hO.bd hw1 (by have := hO.n; omega)
  rw [left1_nx] at this
  exact this.mono fun e w' ⟨h1, ⟨p, f, a, h2, _⟩, h3⟩ => ⟨h1, ⟨p, f, a, h2, fun _ _ _ h => h.elim⟩, hB.trans h3⟩
theorem fresh_take {w0 w : World} (c : Int) (hc0 : 0 ≤ c) (hc : c ≤ 78) (hO : PlOk sz s) (hq : FreshW base g sz I V s w0 w) (hw : base ≤ w0.heap.size) :
    Calls Try.prog 30 #[.pointer (some ⟨g, 0, none⟩), .int .i64 c] w fun e w' => e = .returned (.bool true) ∧ (∃ pv fv av, Pk w' base g sz (if left1 s < 3 then sz else left1 s) (2 + 1) (10 + c) true pv fv av I V (s.N + 1) (upd s.nw s.N (decide (left1 s < 3))) (upd (zS s) s.N z0)) ∧ Below base w0 w' := by
  obtain ⟨⟨pv, fv, av, hk, -⟩, hB⟩ := hq
  have hw1 := Nat.le_trans hw hB.size
  obtain ⟨h1, h2⟩ := take_first hO c hc
  exact (take_t hk h2 c hw1 hc0 h1).mono fun e w' ⟨h1, h2, h3, _⟩ => ⟨h1, ⟨_, _, _, h2⟩, hB.trans h3⟩
set_option maxHeartbeats 4000000 in
theorem inode_any (n : Int) (hO : PlOk sz s) (hq : Pq w base g sz I V s) (hw : base ≤ w.heap.size) :
    Calls Try.prog 19 #[.pointer (some ⟨g, 0, none⟩), .int .i64 n] w fun e w' => e = .returned (.bool (decide ((pstep sz s ⟨0, n⟩).N ≤ 64))) ∧ Pq w' base g sz I V (pstep sz s ⟨0, n⟩) ∧ Below base w w' := by
  have HO := Lib.hid hO
  have HQ := Lib.hid (hq.later (sup_pc w (.cells #[.int .i64 0] IT)))
  have HB := Lib.hid ((sup_pc w (.cells #[.int .i64 0] IT)).mono hw)
  have HS1 := Lib.hid size_ino
  have HS2 := Lib.hid size_none
  clear hO hq
  go_enter Try.func19, Try.ntmps19
  go_wp2_with fail
  refine (HS1.out _ _).mono ?_
  rintro e w1 ⟨rfl, hb⟩
  have HQ1 := Lib.hid (HQ.out.later hb)
  have HB1 := Lib.hid (HB.out.trans (hb.mono (Nat.le_trans hw HB.out.size)))
  clear hb HQ HB HS1
  go_wp2_with fail
  refine (HS2.out _).mono ?_
  rintro e w2 ⟨rfl, hb⟩
  have HQ2 := Lib.hid (HQ1.out.later hb)
  have HB2 := Lib.hid (HB1.out.trans (hb.mono (Nat.le_trans hw HB1.out.size)))
  have HT := Lib.hid (ino_take (n := n) HO.out HQ2.out HB2.out hw)
  clear hb HQ1 HB1 HS2
  go_upto_region 2 with (fail)
  go_cut [16] from 13 (fun t wx => InoT base g sz I V s n w t wx)
  case first =>
    go_wp2_with fail
    refine HT.out.mono ?_
    rintro e w3 ⟨t, rfl, h⟩
    have H := Lib.hid h
    clear h HT
    go_wp2
    go_meet
    exact H.out
  case rest =>
    have HC := Lib.hid hcut
    clear hcut HT HQ2 HB2
    go_upto_if 16 with (fail)
    go_cut [] from 13 (fun wx => PreQ ET base g sz I V s ⟨0, n⟩ w wx)
    case first =>
      rcases HC.out with ⟨rfl, h⟩ | ⟨rfl, hf, hq, hb⟩
      · have H := Lib.hid h
        clear h HC
        go_wp2
        go_meet
        exact H.out
      · have HN := Lib.hid (pq_next HO.out hq hb hw)
        have HF := Lib.hid hf
        clear hf hq hb HC
        go_wp2_with fail
        refine HN.out.mono ?_
        rintro e w3 ⟨rfl, h⟩
        have HT := Lib.hid (fresh_take 1 (by decide) (by decide) HO.out h hw)
        clear h HN
        go_wp2_with fail
        refine HT.out.mono ?_
        rintro e w4 ⟨rfl, ⟨pv, fv, av, h1⟩, h2⟩
        have H := Lib.hid (ino_next HO.out HF.out h1 h2)
        clear h1 h2 HT HF
        go_wp2
        go_meet
        exact H.out
    case rest =>
      clear HC HO
      obtain ⟨m, lf, bl, wd, nw, Z, k, ⟨pv, fv, av, hk, -⟩, hB, hm, -, -, hl, hk0, -, hT⟩ := hcut
      obtain rfl := hk0 rfl
      obtain ⟨gp, cap, rfl, -, -, -, -, -, -⟩ := hk.pm.piece (Nat.lt_succ_self m)
      have hsz1 : base ≤ wc.heap.size := Nat.le_trans hw hB.size
      have HK := Lib.hid hk
      have HB := Lib.hid hB
      have HTg := Lib.hid hT
      have HLl := Lib.hid hl
      have HL := Lib.hid (last_any hk (Nat.succ_pos m) (by omega) hsz1)
      clear hk hB hT hl hk0
      rw [Nat.add_sub_cancel] at HL
      go_wp2_with fail
      refine HL.out.mono ?_
      rintro e w2 ⟨rfl, hb2⟩
      have HK2 := Lib.hid (HK.out.later hb2)
      have HB2 := Lib.hid (HB.out.trans (hb2.mono hsz1))
      have hsz2 : base ≤ w2.heap.size := Nat.le_trans hw HB2.out.size
      obtain ⟨g2, c2, he, -, -, -, -, -, c3⟩ := HK2.out.pm.piece (Nat.lt_succ_self m)
      cases he
      have HOw := Lib.hid (own_later (HK2.out.pm.ints m (Nat.lt_succ_self m) 0 (Nat.zero_le _)) (sup_pc w2 (.cells #[.int .i64 n] IT)))
      clear hb2 HK HB HL
      go_upto_region 7 with (at_builtin; (refine wp_append_int rfl (.tmp 28) (.tmp 30) 23 rfl base IT Try.underlying23 info_it _ _ _ rfl HOw.out w2.heap.size n rfl (one_cell w2 n) (by have := HLl.out; omega) (by simp; omega) ?_; intro g1 cap1 w7 hown hgrow hat hlt1; obtain ⟨k1, k2, k3, k4⟩ := HK2.out.add HB2.out hw (Nat.lt_succ_self m) (Nat.zero_le _) (.inl ⟨rfl, _, rfl, rfl⟩) hown hgrow (hat.elim (fun e => .inl e.symm) (fun e => .inr (fun g5 e5 => by simp [Value.ownBlock] at e5; omega))); have HK7 := Lib.hid k3; have HB7 := Lib.hid k4; clear hown hgrow hat k3 k4))
      generalize w7.setCell ⟨gp, m * 3 + 2, none⟩ (.slice (some ⟨g1, 0, none⟩) (((Z m).li 0).length + 1) cap1) = w8 at *
      have t0 := HK7.out.top.cell 0
      simp at t0
      have hdec : decide (((m + 1 : Nat) : Int) ≤ 64) = decide ((pstep sz s ⟨0, n⟩).N ≤ 64) := by rw [HTg.out.N]; exact decide_eq_decide.2 (by omega)
      clear k1 k2 c3
      go_wp2
      go_ret
      exact ⟨by rw [← hdec]; simp, HTg.out.done HK7.out, HB7.out⟩
end
end Go.Proofs.Ytonlhkhjdnaojaa
