/-
  Pack: file.
-/
import Derived.Test.YtonlhkhjdnaojaaPcFileA
import Derived.Test.YtonlhkhjdnaojaaPhase
import Derived.Deep.CutRange
namespace Go.Proofs.Ytonlhkhjdnaojaa
open Go.RowKit

section
variable {sz : Int} {s : Pl} {w : World} {base g : Nat} {I V : Nat → Int}
theorem fis_one (W : World) (u : Nat) (l : List Int) (h : Ints W (some ⟨u, 0, none⟩) l) : Fis (W.alloc (.cells #[.int .i64 0, .int .i64 0, .slice (some ⟨u, 0, none⟩) l.length l.length] FN)) (some ⟨W.heap.size, 0, none⟩) [⟨0, 0, l⟩] := fun _ => by
  refine ⟨W.heap.size, 0, rfl, fun i hi => ?_⟩
  have hi0 : i = 0 := by simpa using hi
  subst hi0
  have hb := blo_laid W FN #[.int .i64 0, .int .i64 0, .slice (some ⟨u, 0, none⟩) l.length l.length]
  exact ⟨hb.cell 0, hb.cell 1, _, _, hb.cell 2, h.below (sup_pc _ _)⟩
theorem fis_empty (W : World) : Fis (W.alloc (.cells #[.int .i64 0, .int .i64 0, .slice none 0 0] FN)) (some ⟨W.heap.size, 0, none⟩) [⟨0, 0, []⟩] := fun _ => by
  refine ⟨W.heap.size, 0, rfl, fun i hi => ?_⟩
  have hi0 : i = 0 := by simpa using hi
  subst hi0
  have hb := blo_laid W FN #[.int .i64 0, .int .i64 0, .slice none 0 0]
  exact ⟨hb.cell 0, hb.cell 1, _, _, hb.cell 2, Ints.nil _ _⟩
theorem size_16 (W : World) (u b : Nat) (hb : b = W.heap.size) (hu : Ints W (some ⟨u, 0, none⟩) [0]) : Calls Try.prog 28 #[part 0 0 0 0 0 (some ⟨b, 0, none⟩) 1 1 none 0 0] (W.alloc (.cells #[.int .i64 0, .int .i64 0, .slice (some ⟨u, 0, none⟩) 1 1] FN)) fun e W' => e = .returned (.int .i64 16) ∧ Below (W.alloc (.cells #[.int .i64 0, .int .i64 0, .slice (some ⟨u, 0, none⟩) 1 1] FN)).heap.size (W.alloc (.cells #[.int .i64 0, .int .i64 0, .slice (some ⟨u, 0, none⟩) 1 1] FN)) W' := by
  subst hb
  exact size_any (l := [⟨0, 0, [0]⟩]) 0 0 0 0 0 _ 1 1 none 0 0 (fis_one W u [0] hu) rfl (by decide) (by decide)
theorem size_14 (W : World) (b : Nat) (hb : b = W.heap.size) : Calls Try.prog 28 #[part 0 0 0 0 0 (some ⟨b, 0, none⟩) 1 1 none 0 0] (W.alloc (.cells #[.int .i64 0, .int .i64 0, .slice none 0 0] FN)) fun e W' => e = .returned (.int .i64 14) ∧ Below (W.alloc (.cells #[.int .i64 0, .int .i64 0, .slice none 0 0] FN)).heap.size (W.alloc (.cells #[.int .i64 0, .int .i64 0, .slice none 0 0] FN)) W' := by
  subst hb
  exact size_any (l := [⟨0, 0, []⟩]) 0 0 0 0 0 _ 1 1 none 0 0 (fis_empty W) rfl (by decide) (by decide)
theorem pqe_of {i0 v0 : Int} {a0 : Option Addr} {n0 c0 : Nat} (hq : Pq w base g sz I V s) : Pqe (EB w.heap.size (boxF i0 v0 a0 n0 c0)) (w.alloc (boxF i0 v0 a0 n0 c0)) base g sz I V s := by
  obtain ⟨pv, fv, av, hk⟩ := hq
  refine ⟨pv, fv, av, hk.later (sup_pc _ _), ⟨fun e => ?_, fun i hi e => ?_, fun i hi k hk2 e => ?_⟩, heap_alloc_new w _⟩
  · exact absurd (own_bd hk.pm.row e).2 (Nat.lt_irrefl _)
  · exact absurd (own_bd (hk.pm.fil i hi) e).2 (Nat.lt_irrefl _)
  · exact absurd (own_bd (hk.pm.ints i hi k hk2) e).2 (Nat.lt_irrefl _)
/-- Behind '.. && (..)'. -/
def C7 (E : EP) (base g : Nat) (sz : Int) (I V : Nat → Int) (s : Pl) (f : Nat) (y : Int) (w0 : World) (bg t : Value) (wx : World) : Prop :=
  (t = .bool true ∧ bg = .bool true ∧ fitsP s ⟨f, y⟩ = false ∧ Pqe E wx base g sz I V s ∧ Below base w0 wx) ∨ (t = .bool false ∧ bg = .bool true ∧ PreQ E base g sz I V s ⟨f, y⟩ w0 wx) ∨
  (t = .bool false ∧ bg = .bool false ∧ lastS s ≠ f ∧ Pqe E wx base g sz I V s ∧ Below base w0 wx)
/-- Behind the first 'if'. -/
def M1 (E : EP) (base g : Nat) (sz : Int) (I V : Nat → Int) (s : Pl) (f : Nat) (y : Int) (w0 : World) (bg : Value) (wx : World) : Prop :=
  ∃ c : Bool, bg = .bool c ∧ ((c = true ∧ PreQ E base g sz I V s ⟨f, y⟩ w0 wx) ∨ (c = false ∧ ((fitsP s ⟨f, y⟩ = false ∧ FreshE E base g sz I V s w0 wx) ∨ (lastS s ≠ f ∧ Pqe E wx base g sz I V s ∧ Below base w0 wx))))
theorem fn_one (a b : Int) : ∀ u ∈ [Value.int .i64 a, .int .i64 b, .slice none 0 0], u.oneCell' = true := fun u hu => by
  rcases List.mem_cons.1 hu with e | hu
  · rw [e]; rfl
  · rcases List.mem_cons.1 hu with e | hu
    · rw [e]; rfl
    · rw [List.mem_singleton.1 hu]; rfl
/-- Whether a new file comes into the piece at hand. -/
def R61 (E : EP) (base g : Nat) (sz : Int) (I V : Nat → Int) (s : Pl) (f : Nat) (y : Int) (w0 : World) (t : Value) (wx : World) : Prop :=
  (t = .bool false ∧ PreF E base g sz I V s ⟨f, y⟩ w0 wx) ∨ (t = .bool true ∧ fitsP s ⟨f, y⟩ = false ∧ Pqe E wx base g sz I V s ∧ Below base w0 wx)
/-- Behind the append of a file. -/
def R15 (E : EP) (base g : Nat) (sz : Int) (I V : Nat → Int) (s : Pl) (f : Nat) (y : Int) (w0 : World) (gp q k : Nat) (u : Value) (v : Value) (W : World) : Prop :=
  ∃ gf cf, v = .slice (some ⟨gf, 0, none⟩) k cf ∧ W.cell? ⟨gp, q, none⟩ = some u ∧ W.frozen? ⟨gp, q, none⟩ = false ∧ PreQ E base g sz I V s ⟨f, y⟩ w0 (W.setCell ⟨gp, q, none⟩ v)
def FiOut (sz : Int) (I V : Nat → Int) (base g : Nat) (s : Pl) (l : List It) (w : World) (e : Ending) (w' : World) : Prop :=
  ((∃ s', runP sz s l = some s' ∧ e = .returned (.bool true) ∧ Pq w' base g sz I V s') ∨ (runP sz s l = none ∧ e = .returned (.bool false))) ∧ Below base w w'
def FiRel (E : EP) (sz : Int) (I V : Nat → Int) (base g : Nat) (s : Pl) (f : Nat) (lb : List Int) (n : Nat) (w : World) (bg t : Value) (wr : World) : Prop :=
  ∃ (k : Nat) (s' : Pl), k ≤ n ∧ t = .int .i64 k ∧ runP sz s ((lb.take k).map (It.mk f)) = some s' ∧ ((k = 0 ∧ bg = .bool false ∧ lastS s' ≠ f) ∨ (0 < k ∧ bg = .bool true ∧ lastS s' = f ∧ 0 < s'.N)) ∧ Pqe E wr base g sz I V s' ∧ Below base w wr
theorem run_more {f : Nat} {lb : List Int} {k : Nat} (hk : k < lb.length) {s' : Pl} (h : runP sz s ((lb.take k).map (It.mk f)) = some s') : runP sz s ((lb.take (k + 1)).map (It.mk f)) = if (pstep sz s' ⟨f, lb.getD k 0⟩).N ≤ 64 then some (pstep sz s' ⟨f, lb.getD k 0⟩) else none := by
  rw [take_snocF lb 0 k hk, List.map_append, runP_append, h]
  rfl
theorem run_no {f : Nat} {lb : List Int} {k : Nat} (h : runP sz s ((lb.take k).map (It.mk f)) = none) : runP sz s (lb.map (It.mk f)) = none := by
  rw [← List.take_append_drop k lb, List.map_append, runP_append, h]
  rfl
theorem EB.cells {b : Nat} {i0 v0 : Int} {a0 : Option Addr} {n0 c0 : Nat} {pv : Value} {fv : Nat → Value} {av : Nat → Nat → Value} {N : Nat} {Z : Nat → Pz} (h : EB b (boxF i0 v0 a0 n0 c0) pv fv av N Z w) :
    w.cell? ⟨b, 0, none⟩ = some (.int .i64 i0) ∧ w.cell? ⟨b, 1, none⟩ = some (.int .i64 v0) ∧ w.cell? ⟨b, 2, none⟩ = some (.slice a0 n0 c0) := by
  have h2 : Blo w b FN #[.int .i64 i0, .int .i64 v0, .slice a0 n0 c0] := h.2
  exact ⟨h2.cell 0, h2.cell 1, h2.cell 2⟩
set_option maxRecDepth 100000 in
set_option maxHeartbeats 8000000 in
theorem file_any (f : Nat) (lb : List Int) (a : Option Addr) (n c : Nat) (ino ver : Int) (hf0 : f ≠ 0) (hI : I f = ino) (hV : V f = ver) (hO : PlOk sz s) (hl : lastS s ≠ f) (hn : n = lb.length) (hn9 : n ≤ 1000000) (hL : ∀ W, Below base w W → Ints W a lb)
    (hq : Pq w base g sz I V s) (hw : base ≤ w.heap.size) :
    Calls Try.prog 18 #[.pointer (some ⟨g, 0, none⟩), .agg #[.int .i64 ino, .int .i64 ver, .slice a n c]] w (FiOut sz I V base g s (lb.map (It.mk f)) w) := by
  have hQ := pqe_of (i0 := ino) (v0 := ver) (a0 := a) (n0 := n) (c0 := c) hq
  obtain ⟨bx, hbx⟩ : ∃ bx, w.heap.size = bx := ⟨_, rfl⟩
  rw [hbx] at hQ
  have HQ := Lib.hid hQ
  have HB := Lib.hid ((sup_pc w (boxF ino ver a n c)).mono hw)
  have HO := Lib.hid hO
  have HLa := Lib.hid hl
  have HN := Lib.hid hn
  have HL := Lib.hid hL
  have HI := Lib.hid hI
  have HV := Lib.hid hV
  have HF0 := Lib.hid hf0
  have hW : base ≤ w.heap.size := hw
  rw [hbx] at hw
  clear hQ hq hO hl hn hL hI hV hf0
  go_enter Try.func18, Try.ntmps18
  go_upto_region 1 with (fail)
  generalize hw1 : w.alloc (boxF ino ver a n c) = w1 at *
  clear hw1
  have hb1 := (sup_pc w1 (.cells #[.int .i64 0] IT)).trans ((sup_pc _ (.cells #[.int .i64 0, .int .i64 0, .slice (some ⟨w1.heap.size, 0, none⟩) 1 1] FN)).mono (sup_pc w1 (.cells #[.int .i64 0] IT)).size)
  have hc16 := size_16 (w1.alloc (.cells #[.int .i64 0] IT)) w1.heap.size (w1.heap.size + 1) (by simp) (Ints.laid w1 [0] _ _ rfl)
  have H16 := Lib.hid hc16
  have HQ1 := Lib.hid (HQ.out.later hb1)
  have HB1 := Lib.hid (HB.out.trans (hb1.mono (Nat.le_trans hW HB.out.size)))
  clear hb1 hc16 HQ HB
  go_wp2_with fail
  refine H16.out.mono ?_
  rintro e w2 ⟨rfl, hb2⟩
  have HQ2 := Lib.hid (HQ1.out.later hb2)
  have HB2 := Lib.hid (HB1.out.trans (hb2.mono (Nat.le_trans hW HB1.out.size)))
  have H14 := Lib.hid (size_14 w2 w2.heap.size rfl)
  have hb3 := sup_pc w2 (.cells #[.int .i64 0, .int .i64 0, .slice none 0 0] FN)
  have HQ3 := Lib.hid (HQ2.out.later hb3)
  have HB3 := Lib.hid (HB2.out.trans (hb3.mono (Nat.le_trans hW HB2.out.size)))
  clear hb2 hb3 H16 HQ1 HB1 HQ2 HB2
  go_wp2_with fail
  refine H14.out.mono ?_
  rintro e w4 ⟨rfl, hb4⟩
  have HQ4 := Lib.hid (HQ3.out.later hb4)
  have HB4 := Lib.hid (HB3.out.trans (hb4.mono (Nat.le_trans hW HB3.out.size)))
  have H14 := Lib.hid (size_14 w4 w4.heap.size rfl)
  have hb5 := sup_pc w4 (.cells #[.int .i64 0, .int .i64 0, .slice none 0 0] FN)
  have HQ5 := Lib.hid (HQ4.out.later hb5)
  have HB5 := Lib.hid (HB4.out.trans (hb5.mono (Nat.le_trans hW HB4.out.size)))
  clear hb4 hb5 HQ3 HB3 HQ4 HB4
  go_wp2_with fail
  refine H14.out.mono ?_
  rintro e w6 ⟨rfl, hb6⟩
  have HQ6 := Lib.hid (HQ5.out.later hb6)
  have HB6 := Lib.hid (HB5.out.trans (hb6.mono (Nat.le_trans hW HB5.out.size)))
  have H10 := Lib.hid size_none
  clear hb6 HQ5 HB5 H14
  go_wp2_with fail
  refine (H10.out _).mono ?_
  rintro e w7 ⟨rfl, hb7⟩
  have HQ7 := Lib.hid (HQ6.out.later hb7)
  have HB7 := Lib.hid (HB6.out.trans (hb7.mono (Nat.le_trans hW HB6.out.size)))
  clear hb7 HQ6 HB6 H10
  have hc2 : w7.cell? ⟨bx, 2, none⟩ = some (.slice a n c) := by
    obtain ⟨pv, fv, av, -, hE⟩ := HQ7.out
    exact hE.cells.2.2
  go_wp2_with fail
  clear hc2
  go_loopw [7, 32] (fun bg t wr => FiRel (EB bx (boxF ino ver a n c)) sz I V base g s f lb n w bg t wr) (fun _ t _ => n - (intOf t).toNat)
  case atStart => exact ⟨0, s, Nat.zero_le _, rfl, rfl, .inl ⟨rfl, rfl, HLa.out⟩, HQ7.out, HB7.out⟩
  case round =>
    clear HQ7 HB7
    obtain ⟨k, s', hk, rfl, hrun, hbg, hq, hB⟩ := hrel
    have HRun := Lib.hid hrun
    have HBg := Lib.hid hbg
    have HQ := Lib.hid hq
    have HB := Lib.hid hB
    have HOk := Lib.hid (runP_ok _ HO.out hrun)
    clear hrun hbg hq hB
    by_cases hlt : k < n
    · have hkl : k < lb.length := by rw [← HN.out]; exact hlt
      obtain ⟨b, o, rfl, hc⟩ := HL.out wr HB.out (fun e => by rw [e] at hkl; cases hkl)
      have hck := hc k hkl
      obtain ⟨y, hy⟩ : ∃ y, lb.getD k 0 = y := ⟨_, rfl⟩
      rw [hy] at hck
      have HY := Lib.hid hy
      have k0 : (0 : Int) ≤ (k : Int) := by omega
      have k1 : (k : Int) < (n : Int) := by omega
      clear hc hkl hy
      go_upto_region 7 with (fail)
      clear hck k0
      go_cut [7, 51] from 33 to 103 (fun bg t wx => C7 (EB bx (boxF ino ver (some ⟨b, o, none⟩) n c)) base g sz I V s' f y w bg t wx)
      case first =>
        rcases HBg.out with ⟨rfl, rfl, hls⟩ | ⟨hk1, rfl, hls, hN⟩
        · have HX := Lib.hid hls
          clear hls HBg
          go_wp2
          go_meet
          exact .inr (.inr ⟨rfl, rfl, HX.out, HQ.out, HB.out⟩)
        · have hwr : base ≤ wr.heap.size := Nat.le_trans hW HB.out.size
          obtain ⟨gf, q, a1, c1, hcell, hcur⟩ := current_len HF0.out hls hN HOk.out HQ.out hwr
          have HCe := Lib.hid hcell
          have HCu := Lib.hid hcur
          have HX := Lib.hid hls
          have hsm := ((HOk.out.cur hN).2.2.2)
          obtain ⟨M, hM⟩ : ∃ M, (bs (s'.it (s'.N - 1))).sm = M := ⟨_, rfl⟩
          rw [hM] at HCe hsm
          by_cases h30 : M < 30
          · have hTk := fun W (hq : Pqe (EB bx (boxF ino ver (some ⟨b, o, none⟩) n c)) W base g sz I V s') (hb : Below base w W) => more_take (y := y) HF0.out hls HOk.out (by rw [hM]; exact h30) hq hb hW
            have HTk := Lib.hid hTk
            have e30 : ((M : Int) == 30) = false := beq_false_of_ne (by omega)
            clear hls hcell hcur hM hTk HBg
            go_wp2_with fail
            refine HCu.out.mono ?_
            rintro e w2 ⟨rfl, hb2⟩
            have hc2 := HCe.out _ hb2
            have HT := Lib.hid (HTk.out w2 (HQ.out.later hb2) (HB.out.trans (hb2.mono hwr)))
            clear hb2 HCu HTk HCe
            go_wp2_with fail
            refine HT.out.mono ?_
            rintro e w3 ⟨t, rfl, h⟩
            clear hc2 HT
            rcases h with ⟨rfl, h⟩ | ⟨rfl, h1, h2, h3⟩
            · have H := Lib.hid h
              clear h
              go_wp2
              go_meet
              exact .inr (.inl ⟨rfl, rfl, H.out⟩)
            · have H1 := Lib.hid h1
              have H2 := Lib.hid h2
              have H3 := Lib.hid h3
              clear h1 h2 h3
              go_wp2
              go_meet
              exact .inl ⟨rfl, rfl, H1.out, H2.out, H3.out⟩
          · have hM30 : M = 30 := by omega
            have hno : fitsP s' ⟨f, y⟩ = false := by
              rw [fits_more s' f y HF0.out hls, hM, decide_eq_false h30]; rfl
            have HNo := Lib.hid hno
            have HM := Lib.hid hM
            subst hM30
            have e30 : (((30 : Nat) : Int) == 30) = true := rfl
            clear hls hcell hcur hM HBg hno
            go_wp2_with fail
            refine HCu.out.mono ?_
            rintro e w2 ⟨rfl, hb2⟩
            have hc2 := HCe.out _ hb2
            have HQ2 := Lib.hid (HQ.out.later hb2)
            have HB2 := Lib.hid (HB.out.trans (hb2.mono hwr))
            clear hb2 HCu HCe HQ HB
            go_wp2
            go_meet
            exact .inl ⟨rfl, rfl, HNo.out, HQ2.out, HB2.out⟩
      case rest =>
        have HC := Lib.hid hcut
        clear hcut HQ HB HBg
        go_upto_if 51 with (fail)
        go_cut [7] from 33 to 103 (fun bg wx => M1 (EB bx (boxF ino ver (some ⟨b, o, none⟩) n c)) base g sz I V s' f y w bg wx)
        case first =>
          rcases HC.out with ⟨rfl, rfl, h1, h2, h3⟩ | ⟨rfl, rfl, h1⟩ | ⟨rfl, rfl, h1, h2, h3⟩
          · have H1 := Lib.hid h1
            have HNx := Lib.hid (pqe_next HOk.out h2 h3 hW)
            clear h1 h2 h3 HC
            go_wp2_with fail
            refine HNx.out.mono ?_
            rintro e w3 ⟨rfl, h⟩
            have H := Lib.hid h
            clear h HNx
            go_wp2
            go_meet
            exact ⟨false, rfl, .inr ⟨rfl, .inl ⟨H1.out, H.out⟩⟩⟩
          · have H1 := Lib.hid h1
            clear h1 HC
            go_wp2
            go_meet
            exact ⟨true, rfl, .inl ⟨rfl, H1.out⟩⟩
          · have H1 := Lib.hid h1
            have H2 := Lib.hid h2
            have H3 := Lib.hid h3
            clear h1 h2 h3 HC
            go_wp2
            go_meet
            exact ⟨false, rfl, .inr ⟨rfl, .inr ⟨H1.out, H2.out, H3.out⟩⟩⟩
        case rest =>
          clear HC
          obtain ⟨cc, rfl, hc⟩ := hcut
          have HC := Lib.hid hc
          clear hc
          go_upto_if 55 with (fail)
          go_cut [7] from 33 to 103 (fun bg wx => bg = .bool true ∧ PreQ (EB bx (boxF ino ver (some ⟨b, o, none⟩) n c)) base g sz I V s' ⟨f, y⟩ w wx)
          case first =>
            rcases HC.out with ⟨rfl, h1⟩ | ⟨rfl, h1⟩
            · have H1 := Lib.hid h1
              clear h1 HC
              go_wp2
              go_meet
              exact ⟨rfl, H1.out⟩
            · have H1 := Lib.hid h1
              clear h1 HC
              go_upto_region 11 with (fail)
              go_cut [61] from 33 to 103 (fun t wx => R61 (EB bx (boxF ino ver (some ⟨b, o, none⟩) n c)) base g sz I V s' f y w t wx)
              case first =>
                rcases H1.out with ⟨h1, h2⟩ | ⟨h1, h2, h3⟩
                · have HT := Lib.hid (fresh_six HF0.out HOk.out h1 h2 hW)
                  clear h1 h2 H1
                  go_wp2_with fail
                  refine HT.out.mono ?_
                  rintro e w3 ⟨rfl, h⟩
                  have H := Lib.hid h
                  clear h HT
                  go_wp2
                  go_meet
                  exact .inl ⟨rfl, H.out⟩
                · have HT := Lib.hid (new_take (y := y) HF0.out h1 HOk.out h2 h3 hW)
                  clear h1 h2 h3 H1
                  go_wp2_with fail
                  refine HT.out.mono ?_
                  rintro e w3 ⟨t, rfl, h⟩
                  have H := Lib.hid h
                  clear h HT
                  go_wp2
                  go_meet
                  rcases H.out with ⟨rfl, h⟩ | ⟨rfl, h⟩
                  · exact .inl ⟨rfl, h⟩
                  · exact .inr ⟨rfl, h⟩
              case rest =>
                have HR := Lib.hid hcut
                clear hcut H1
                go_upto_if 61 with (fail)
                go_cut [] from 33 to 103 (fun wx => PreF (EB bx (boxF ino ver (some ⟨b, o, none⟩) n c)) base g sz I V s' ⟨f, y⟩ w wx)
                case first =>
                  rcases HR.out with ⟨rfl, h1⟩ | ⟨rfl, h1, h2, h3⟩
                  · have H1 := Lib.hid h1
                    clear h1 HR
                    go_wp2
                    go_meet
                    exact H1.out
                  · have H1 := Lib.hid h1
                    have HNx := Lib.hid (pqe_next HOk.out h2 h3 hW)
                    clear h1 h2 h3 HR
                    go_wp2_with fail
                    refine HNx.out.mono ?_
                    rintro e w3 ⟨rfl, h⟩
                    have HT := Lib.hid (fresh_six HF0.out HOk.out H1.out h hW)
                    clear h HNx H1
                    go_wp2_with fail
                    refine HT.out.mono ?_
                    rintro e w4 ⟨rfl, h⟩
                    have H := Lib.hid h
                    clear h HT
                    go_wp2
                    go_meet
                    exact H.out
                case rest =>
                  clear HR
                  obtain ⟨m, lf, bl, wd, nw, Z, ⟨pv, fv, av, hk, hE⟩, hB, hm, hnf, hT⟩ := hcut
                  obtain ⟨gp, cap, rfl, -, -, -, -, -, -⟩ := hk.pm.piece (Nat.lt_succ_self m)
                  have hsz1 : base ≤ wc.heap.size := Nat.le_trans hW hB.size
                  have HK := Lib.hid hk
                  have HE := Lib.hid hE
                  have HB := Lib.hid hB
                  have HTg := Lib.hid hT
                  have HLs := Lib.hid (last_any hk (Nat.succ_pos m) (by omega) hsz1)
                  clear hk hE hB hT
                  rw [Nat.add_sub_cancel] at HLs
                  go_wp2_with fail
                  refine HLs.out.mono ?_
                  rintro e w2 ⟨rfl, hb2⟩
                  have HK2 := Lib.hid ((HK.out.later hb2).drew)
                  have HE2 := Lib.hid (HE.out.stay (w' := w2.drew) (hb2.block bx HE.out.lt))
                  have HB2 := Lib.hid ((HB.out.trans (hb2.mono hsz1)).drew)
                  have hsz2 : base ≤ w2.heap.size := Nat.le_trans hW HB2.out.size
                  obtain ⟨g2, c2, he, -, -, -, -, x1, -⟩ := HK2.out.pm.piece (Nat.lt_succ_self m)
                  cases he
                  obtain ⟨y0, y1, -⟩ := HE2.out.cells
                  have HOw := Lib.hid (own_later (HK2.out.pm.fil m (Nat.lt_succ_self m)) (sup_pc w2.drew (.cells #[.int .i64 ino, .int .i64 ver, .slice none 0 0] FN)))
                  clear hb2 HK HE HB HLs
                  go_wp2_with fail
                  obtain ⟨TL, hTL⟩ : ∃ TL : List (Nat × Value), TL = [(0, .pointer (some ⟨gp, m * 3, none⟩)), (1, .pointer (some ⟨gp, m * 3, none⟩)), (2, .pointer (some ⟨gp, m * 3, none⟩)), (3, .pointer (some ⟨gp, m * 3 + 1, none⟩)), (4, fv m), (5, .pointer (some ⟨bx, 0, none⟩)), (6, .int .i64 ino), (7, .pointer (some ⟨bx, 1, none⟩)), (8, .int .i64 ver), (9, .agg #[.int .i64 ino, .int .i64 ver, .slice none 0 0]), (10, .slice (some ⟨w2.heap.size, 0, none⟩) 1 1)] := ⟨_, rfl⟩
                  obtain ⟨CL, hCL⟩ : ∃ CL : Nat → List Nat, CL = fun i => if i = 9 then [6, 8] else if i = 10 then [6, 8] else if i = 11 then [4, 6, 8, 10] else [] := ⟨_, rfl⟩
                  refine wp_region_inv (n := 12) [(0, 71), (1, 72), (2, 73), (3, 74), (4, 75), (5, 76), (6, 77), (7, 78), (8, 79), (9, 80), (10, 81), (11, 82)] (PhI TL CL w2.drew (.cells #[.int .i64 ino, .int .i64 ver, .slice none 0 0] FN) 10 11 (R15 (EB bx (boxF ino ver (some ⟨b, o, none⟩) n c)) base g sz I V s' f y w gp (m * 3 + 1) ((Z m).nf + 1) (fv m))) (by kernel_rfl) (by kernel_rfl) (by kernel_rfl) (fun X => by simp only [putL, Act.put, List.setIfInBounds_toArray, List.set_cons_zero, List.set_cons_succ]; rfl) (fun X => PhI.start) ?_ ?_
                  · show StepsI _ _ _ _ _ 0 [_, _, _, _, _, _, _, _, _, _, _, _]
                    refine ⟨fun D X W hDi hd hI K hK => ?_, ?_⟩
                    · exact stepO_run (v := .pointer (some ⟨gp, m * 3, none⟩)) (w' := W) (by simp [Region.wanted]) (by simp [go_sem, execOp]) (hK _ _ (hI.tell 0 _ (by decide) (by decide) (by simp [hTL]) (fun a ha => by simp [hCL] at ha)))
                    refine ⟨fun D X W hDi hd hI K hK => ?_, ?_⟩
                    · exact stepO_run (v := .pointer (some ⟨gp, m * 3, none⟩)) (w' := W) (by simp [Region.wanted]) (by simp [go_sem, execOp]) (hK _ _ (hI.tell 1 _ (by decide) (by decide) (by simp [hTL]) (fun a ha => by simp [hCL] at ha)))
                    refine ⟨fun D X W hDi hd hI K hK => ?_, ?_⟩
                    · have a1 := hI.dt (1, .pointer (some ⟨gp, m * 3, none⟩)) (by simp [hTL]) (hd ⟨1, .data⟩ (by simp) rfl)
                      exact stepO_run (v := .pointer (some ⟨gp, m * 3, none⟩)) (w' := W) (by simp [Region.wanted]) (by simp [go_sem, execOp, a1]) (hK _ _ (hI.tell 2 _ (by decide) (by decide) (by simp [hTL]) (fun a ha => by simp [hCL] at ha)))
                    refine ⟨fun D X W hDi hd hI K hK => ?_, ?_⟩
                    · have a2 := hI.dt (2, .pointer (some ⟨gp, m * 3, none⟩)) (by simp [hTL]) (hd ⟨2, .data⟩ (by simp) rfl)
                      exact stepO_run (v := .pointer (some ⟨gp, m * 3 + 1, none⟩)) (w' := W) (by simp [Region.wanted]) (by simp [go_sem, execOp, a2]) (hK _ _ (hI.tell 3 _ (by decide) (by decide) (by simp [hTL]) (fun a ha => by simp [hCL] at ha)))
                    refine ⟨fun D X W hDi hd hI K hK => ?_, ?_⟩
                    · have a3 := hI.dt (3, .pointer (some ⟨gp, m * 3 + 1, none⟩)) (by simp [hTL]) (hd ⟨3, .data⟩ (by simp) rfl)
                      have cW := hI.cell (i := 4) (by simp [hCL]) hDi x1
                      exact stepO_run (v := fv m) (w' := W) (by simp [Region.wanted]) (by simp [go_sem, execOp, a3, cW]) (hK _ _ (hI.tell 4 _ (by decide) (by decide) (by simp [hTL]) (fun a ha => by simp [hCL] at ha)))
                    refine ⟨fun D X W hDi hd hI K hK => ?_, ?_⟩
                    · exact stepO_run (v := .pointer (some ⟨bx, 0, none⟩)) (w' := W) (by simp [Region.wanted]) (by simp [go_sem, execOp]) (hK _ _ (hI.tell 5 _ (by decide) (by decide) (by simp [hTL]) (fun a ha => by simp [hCL] at ha)))
                    refine ⟨fun D X W hDi hd hI K hK => ?_, ?_⟩
                    · have a5 := hI.dt (5, .pointer (some ⟨bx, 0, none⟩)) (by simp [hTL]) (hd ⟨5, .data⟩ (by simp) rfl)
                      have cW := hI.cell (i := 6) (by simp [hCL]) hDi y0
                      exact stepO_run (v := .int .i64 ino) (w' := W) (by simp [Region.wanted]) (by simp [go_sem, execOp, a5, cW]) (hK _ _ (hI.tell 6 _ (by decide) (by decide) (by simp [hTL]) (fun a ha => by simp [hCL] at ha)))
                    refine ⟨fun D X W hDi hd hI K hK => ?_, ?_⟩
                    · exact stepO_run (v := .pointer (some ⟨bx, 1, none⟩)) (w' := W) (by simp [Region.wanted]) (by simp [go_sem, execOp]) (hK _ _ (hI.tell 7 _ (by decide) (by decide) (by simp [hTL]) (fun a ha => by simp [hCL] at ha)))
                    refine ⟨fun D X W hDi hd hI K hK => ?_, ?_⟩
                    · have a7 := hI.dt (7, .pointer (some ⟨bx, 1, none⟩)) (by simp [hTL]) (hd ⟨7, .data⟩ (by simp) rfl)
                      have cW := hI.cell (i := 8) (by simp [hCL]) hDi y1
                      exact stepO_run (v := .int .i64 ver) (w' := W) (by simp [Region.wanted]) (by simp [go_sem, execOp, a7, cW]) (hK _ _ (hI.tell 8 _ (by decide) (by decide) (by simp [hTL]) (fun a ha => by simp [hCL] at ha)))
                    refine ⟨fun D X W hDi hd hI K hK => ?_, ?_⟩
                    · have a6 := hI.dt (6, .int .i64 ino) (by simp [hTL]) (hd ⟨6, .data⟩ (by simp) rfl)
                      have a8 := hI.dt (8, .int .i64 ver) (by simp [hTL]) (hd ⟨8, .data⟩ (by simp) rfl)
                      exact stepO_run (v := .agg #[.int .i64 ino, .int .i64 ver, .slice none 0 0]) (w' := W) (by simp [Region.wanted]) (by simp [go_sem, execOp, a6, a8]) (hK _ _ (hI.tell 9 _ (by decide) (by decide) (by simp [hTL]) (fun a ha => by simp [hCL] at ha; rcases ha with rfl | rfl <;> first | exact hd ⟨6, .data⟩ (by simp) rfl | exact hd ⟨8, .data⟩ (by simp) rfl)))
                    refine ⟨fun D X W hDi hd hI K hK => ?_, ?_⟩
                    · have a9 := hI.dt (9, .agg #[.int .i64 ino, .int .i64 ver, .slice none 0 0]) (by simp [hTL]) (hd ⟨9, .data⟩ (by simp) rfl)
                      obtain ⟨hE, hA⟩ := hI.lay (.slice (some ⟨w2.heap.size, 0, none⟩) 1 1) hDi (by decide) (by simp [hCL]) (by simp [hTL]) (fun a ha => by simp [hCL] at ha; rcases ha with rfl | rfl <;> first | exact hI.cl 9 (hd ⟨9, .data⟩ (by simp) rfl) 6 (by simp [hCL]) | exact hI.cl 9 (hd ⟨9, .data⟩ (by simp) rfl) 8 (by simp [hCL]))
                      subst hE
                      exact stepO_run (v := .slice (some ⟨w2.heap.size, 0, none⟩) 1 1) (w' := w2.drew.alloc (.cells #[.int .i64 ino, .int .i64 ver, .slice none 0 0] FN)) (by simp [Region.wanted]) (by simp [go_sem, execOp, a9]) (hK _ _ hA)
                    refine ⟨fun D X W hDi hd hI K hK => ?_, ?_⟩
                    · have a4 := hI.dt (4, fv m) (by simp [hTL]) (hd ⟨4, .data⟩ (by simp) rfl)
                      have a10 := hI.dt (10, .slice (some ⟨w2.heap.size, 0, none⟩) 1 1) (by simp [hTL]) (hd ⟨10, .data⟩ (by simp) rfl)
                      obtain ⟨hE, hA⟩ := hI.app (hd ⟨10, .data⟩ (by simp) rfl) hDi (by decide) (by simp [hTL]) (fun a ha => by simp [hCL] at ha; rcases ha with rfl | rfl | rfl | rfl <;> first | exact hd ⟨4, .data⟩ (by simp) rfl | exact hI.cl 10 (hd ⟨10, .data⟩ (by simp) rfl) 6 (by simp [hCL]) | exact hI.cl 10 (hd ⟨10, .data⟩ (by simp) rfl) 8 (by simp [hCL]) | exact hd ⟨10, .data⟩ (by simp) rfl)
                      subst hE
                      have a4 := hI.dt (4, fv m) (by simp [hTL]) (hd ⟨4, .data⟩ (by simp) rfl)
                      have a10 := hI.dt (10, .slice (some ⟨w2.heap.size, 0, none⟩) 1 1) (by simp [hTL]) (hd ⟨10, .data⟩ (by simp) rfl)
                      refine step_append_row (by rfl) (.tmp 75) (.tmp 81) 22 (by rfl) base FN _ 3 40 Try.underlying22 info_fn (by kernel_rfl) (by decide) (by decide) (fv m) (Z m).nf _ (by simp [go_sem, a4]) HOw.out (some ⟨w2.heap.size, 0, none⟩) 1 1 [.int .i64 ino, .int .i64 ver, .slice none 0 0] (by simp [go_sem, a10]) (by rfl) (laid_src w2.drew FN _ _ rfl) (fn_one ino ver) (fun h => by cases h) (by omega) (Nat.le_trans hsz2 (sup_pc w2.drew _).size) (fun v' w7 hown hgrow hat => ?_)
                      obtain ⟨gf, cf, rfl, hgf⟩ := own_some hown (Nat.succ_pos _)
                      have hat2 := (show (Value.slice (some ⟨gf, 0, none⟩) ((Z m).nf + 1) cf).ownBlock = (fv m).ownBlock ∨ ∀ g5, (Value.slice (some ⟨gf, 0, none⟩) ((Z m).nf + 1) cf).ownBlock = some g5 → (w2.drew.alloc (.cells #[.int .i64 ino, .int .i64 ver, .slice none 0 0] FN)).heap.size ≤ g5 from hat.imp id (fun e g5 e5 => by rw [e] at e5; cases e5; exact Nat.le_refl _))
                      obtain ⟨x5, x6, x7, x8⟩ := HK2.out.newFile HB2.out hW (Nat.lt_succ_self m) rfl HI.out HV.out hown hgrow hat2
                      have hE7 := ex_newFile (q := m * 3 + 1) (f := f) HE2.out.1 HE2.out.lt (Nat.lt_succ_self m) rfl hgrow hat2
                      exact hK _ _ (hA _ _ ⟨gf, cf, rfl, x5, x6, preF_done HF0.out HTg.out hm hnf x7 ⟨hE7.1, hE7.2.trans HE2.out.2⟩ x8⟩)
                    exact True.intro
                  · intro D X W hD hI
                    have a0 : X 0 = .pointer (some ⟨gp, m * 3, none⟩) := hI.dt (0, .pointer (some ⟨gp, m * 3, none⟩)) (by simp [hTL]) (hD 0 (by decide))
                    obtain ⟨gf, cf, a11, x5, x6, hP⟩ := hI.at2 (hD 11 (by decide))
                    rw [a11] at hP
                    have HP := Lib.hid hP
                    clear hI hD hP hTL hCL HOw HK2 HE2 HB2
                    go_wp2_with fail
                    go_meet
                    exact ⟨rfl, HP.out⟩
          case rest =>
            clear HC
            obtain ⟨rfl, m, lf, bl, wd, nw, Z, k', ⟨pv, fv, av, hk, hE⟩, hB, hm, hkn, hnf, hll, -, hkk, hT⟩ := hcut
            obtain ⟨rfl, hk0⟩ := hkk HF0.out
            obtain ⟨q, hq⟩ : ∃ q, (Z m).nf = q + 1 := ⟨(Z m).nf - 1, by omega⟩
            obtain ⟨gp, cap, rfl, -, -, -, -, -, -⟩ := hk.pm.piece (Nat.lt_succ_self m)
            obtain ⟨gf, cf, hfv, -, -, -, -, -, -⟩ := hk.pm.file (Nat.lt_succ_self m) (k := q) (by omega)
            have hsz1 : base ≤ wc.heap.size := Nat.le_trans hW hB.size
            rw [hq] at hll hT
            have HQ' := Lib.hid hq
            have HK := Lib.hid hk
            have HE := Lib.hid hE
            have HB := Lib.hid hB
            have HTg := Lib.hid hT
            have HLl := Lib.hid hll
            have HFv := Lib.hid hfv
            have hfv2 := hfv
            rw [hq] at hfv2
            have HCu := Lib.hid (current_any hk (by omega) hsz1 hfv2 (by omega))
            have t0 := hk.top.cell 0
            simp at t0
            clear hk hE hB hT hll hkn hnf hk0 hfv hq hfv2
            by_cases h64 : m + 1 ≤ 64
            · have j1 : ¬ (64 : Int) < ((m + 1 : Nat) : Int) := by omega
              go_wp2_with fail
              refine HCu.out.mono ?_
              rintro e w2 ⟨rfl, hb2⟩
              have HK2 := Lib.hid (HK.out.later hb2)
              have HE2 := Lib.hid (HE.out.stay (w' := w2) (hb2.block bx HE.out.lt))
              have HB2 := Lib.hid (HB.out.trans (hb2.mono hsz1))
              have hsz2 : base ≤ w2.heap.size := Nat.le_trans hW HB2.out.size
              obtain ⟨g3, c3, he3, -, -, -, -, -, x1⟩ := HK2.out.pm.file (Nat.lt_succ_self m) (k := q) (by rw [HQ'.out]; omega)
              rw [HFv.out] at he3
              cases he3
              have HOw := Lib.hid (own_later (HK2.out.pm.ints m (Nat.lt_succ_self m) (q + 1) (by rw [HQ'.out]; omega)) (sup_pc w2 (.cells #[.int .i64 y] IT)))
              have hplace : (q + 1 = 0 ∧ ∃ cap', (Value.slice (some ⟨gp, 0, none⟩) (m + 1) cap) = .slice (some ⟨gf, 0, none⟩) (m + 1) cap' ∧ q * 3 + 2 = m * 3 + 2) ∨ (∃ k', q + 1 = k' + 1 ∧ ∃ cap', fv m = .slice (some ⟨gf, 0, none⟩) (Z m).nf cap' ∧ q * 3 + 2 = k' * 3 + 2) := .inr ⟨q, rfl, _, HFv.out, rfl⟩
              have HPl := Lib.hid hplace
              clear hb2 HK HE HB HCu t0 hplace
              go_upto_region 21 with (at_builtin; (refine wp_append_int rfl (.tmp 97) (.tmp 99) 23 rfl base IT Try.underlying23 info_it _ _ _ rfl HOw.out w2.heap.size y rfl (one_cell w2 y) (by have := HLl.out; omega) (by simp; omega) ?_; intro g1 cap1 w7 hown hgrow hat hlt1; have hat2 := (show (Value.slice (some ⟨g1, 0, none⟩) (((Z m).li (q + 1)).length + 1) cap1).ownBlock = (av m (q + 1)).ownBlock ∨ ∀ g5, (Value.slice (some ⟨g1, 0, none⟩) (((Z m).li (q + 1)).length + 1) cap1).ownBlock = some g5 → (w2.alloc (.cells #[.int .i64 y] IT)).heap.size ≤ g5 from hat.elim (fun e => .inl e.symm) (fun e => .inr (fun g5 e5 => Nat.le_of_eq (e.symm.trans (Option.some.inj e5))))); obtain ⟨k1, k2, k3, k4⟩ := HK2.out.add HB2.out hW (Nat.lt_succ_self m) (by rw [HQ'.out]; omega) HPl.out hown hgrow hat2; have HE7 := Lib.hid (ex_add (x := y) HE2.out.1 HE2.out.lt (Nat.lt_succ_self m) (by rw [HQ'.out]; omega) HPl.out hgrow hat2); have HK7 := Lib.hid k3; have HB7 := Lib.hid k4; clear hown hgrow hat hat2 k3 k4))
              have HP := Lib.hid (HTg.out.doneE HK7.out (E := (EB bx (boxF ino ver (some ⟨b, o, none⟩) n c))) ⟨HE7.out.1, HE7.out.2.trans HE2.out.2⟩)
              have hN := HTg.out.N
              have hrun := run_more (f := f) (lb := lb) (k := k) (by rw [← HN.out]; exact hlt) HRun.out
              rw [HY.out, hN, if_pos h64] at hrun
              have HR := Lib.hid hrun
              have HPos : Hid (0 < (pstep sz s' ⟨f, y⟩).N) := by rw [hN]; exact Nat.succ_pos m
              clear x1 k1 k2 hN hrun
              generalize w7.setCell _ _ = w8 at *
              go_wp2_with fail
              go_roundw
              case rel => exact ⟨k + 1, _, by omega, by simp, HR.out, .inr ⟨Nat.succ_pos k, rfl, pstep_last _ _ _, HPos.out⟩, HP.out, HB7.out⟩
              case measure => simp [intOf]; omega
            · have j1 : (64 : Int) < ((m + 1 : Nat) : Int) := by omega
              have hN := HTg.out.N
              have hrun := run_more (f := f) (lb := lb) (k := k) (by rw [← HN.out]; exact hlt) HRun.out
              rw [HY.out, hN, if_neg h64] at hrun
              have HR := Lib.hid (run_no hrun)
              clear hN hrun HCu
              go_wp2
              go_ret
              exact ⟨.inr ⟨HR.out, rfl⟩, HB.out⟩
    · have hkn : lb.take k = lb := by rw [List.take_of_length_le]; have := HN.out; omega
      rw [hkn] at HRun
      have k1 : ¬ (k : Int) < (n : Int) := by omega
      clear hkn HBg
      go_wp2
      go_ret
      obtain ⟨pv, fv, av, h1, h2⟩ := HQ.out
      exact ⟨.inl ⟨s', HRun.out, rfl, pv, fv, av, h1⟩, HB.out⟩
end
end Go.Proofs.Ytonlhkhjdnaojaa
