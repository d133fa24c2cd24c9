/-
  The walks of points: Load, Save.
-/
import Derived.Test.YtmkhliabmodbdaaPtCnt
namespace Go.Proofs.Ytmkhliabmodbdaa
open Go.RowKit

def loadP (d : Dm) : Pt × Bool := if d.n < 3 then (zPt, false) else ((ctK d.N 2).1, decide ((ctK d.N 2).2 ≠ 0))
def LoadO (p : Pt) (b : Bool) (w : World) (e : Ending) (w' : World) : Prop := e = .returned (.tuple #[.agg (ptA p), .bool b]) ∧ Below w.heap.size w w'
section
variable {C : Nat} {w w' : World} {L : Dl} {d : Dm}
set_option maxHeartbeats 2000000 in
theorem load_any (h : Dk C w L d) (hn : 3 ≤ d.n) : Calls Try.prog 26 #[.pointer (some ⟨L.bd, 0, none⟩)] w (LoadO (ctK d.N 2).1 (decide ((ctK d.N 2).2 ≠ 0)) w) := by
  have hb1 := sup_pt w (.cells zp4 PNT)
  have HB1 := Lib.hid hb1
  have HZ := Lib.hid (blo_laid w PNT zp4)
  have HD := Lib.hid (h.later hb1)
  have hn0 : ¬ (d.n : Int) < 3 := by omega
  clear h hb1
  generalize hct : ctK d.N 2 = q at *
  obtain ⟨⟨be, bc, bn, bf⟩, at_⟩ := q
  have HC : Hid (∀ W, Dk C W L d → Calls Try.prog 37 #[.pointer (some ⟨L.bd, 0, none⟩)] W (cntP ⟨be, bc, bn, bf⟩ at_ W)) := fun W hW => by
    have := counting_any hW hn
    rw [hct] at this
    exact this
  clear hct
  go_enter Try.func26, Try.ntmps26
  go_wp2_with fail
  refine (size_any HD.out).mono ?_
  rintro e w1 ⟨rfl, rfl⟩
  go_wp2_with fail
  refine (HC.out _ HD.out).mono ?_
  rintro e w1 ⟨rfl, hb2⟩
  simp only [ptA_def]
  have HB2 := Lib.hid (HB1.out.trans ((hb2.alloc hb2.size (.cells #[.int .i64 be, .int .i64 bc, .int .i64 bn, .int .i64 bf] PNT)).mono HB1.out.size))
  have HZ2 := Lib.hid (HZ.out.later (hb2.alloc hb2.size (.cells #[.int .i64 be, .int .i64 bc, .int .i64 bn, .int .i64 bf] PNT)))
  have z0 := HZ2.out.cell 0
  have z1 := HZ2.out.cell 1
  have z2 := HZ2.out.cell 2
  have z3 := HZ2.out.cell 3
  have f0 := HZ2.out.frozen 0
  have f1 := HZ2.out.frozen 1
  have f2 := HZ2.out.frozen 2
  have f3 := HZ2.out.frozen 3
  simp at z0 z1 z2 z3
  clear hb2 HZ HD HC HB1
  go_wp2
  refine bodyPost_ret (v := .tuple #[.agg (ptA ⟨be, bc, bn, bf⟩), .bool (decide (at_ ≠ 0))]) ?_ rfl ⟨rfl, ?_⟩
  · have e1 : ((at_ : Int) != 0) = decide (at_ ≠ 0) := by
      by_cases h : at_ = 0
      · subst h; rfl
      · rw [decide_eq_true h, bne_iff_ne]; omega
    simp [results, Try.results26, go_sem, ptA, z0, z1, z2, z3, e1]
  · exact below_4 HB2.out (Nat.le_refl _)
def toK (at_ : Nat) : Nat := if at_ = 1 then 2 else 1
def saveD (d : Dm) (p : Pt) : Dm × Int :=
  if ¬ Good4 p then (d, 22)
  else if (ctK d.N 2).2 ≠ 0 ∧ newB p (ctK d.N 2).1 = false then (d, 103)
  else if deadB d = true then (d, 102)
  else if deadB (putD d (toK (ctK d.N 2).2) (encP p)) = true then (putD d (toK (ctK d.N 2).2) (encP p), 102)
  else (barD (putD d (toK (ctK d.N 2).2) (encP p)), 0)
structure OkD (d : Dm) : Prop where
  lf : 0 ≤ d.left
  st : d.steps + 2 ≤ 1000000
  ql : d.Q.length < 1000000
theorem putD_left {d : Dm} {i : Nat} {l : List Nat} (h : OkD d) (hd : deadB d = false) : 0 ≤ (putD d i l).left := by
  show 0 ≤ (if d.armed then d.left - 1 else d.left)
  have := h.lf
  unfold deadB at hd
  cases ha : d.armed with
  | false => simpa using this
  | true =>
    rw [ha] at hd
    simp at hd ⊢
    omega
theorem CodeO.before {code : Int} {e : Ending} {d' : Dm} {w0 : World} (h : CodeO C w L d' code e w') (hb : Below w0.heap.size w0 w) : CodeO C w0 L d' code e w' := by
  obtain ⟨h1, q, h2, h3, h4⟩ := h
  exact ⟨h1, q, h2, (Out.of_below hb).trans h3 (fun _ _ h => h), fun g hg => by
    rcases h4 g hg with h | h
    · exact .inl h
    · exact .inr (Nat.le_trans hb.size h)⟩
theorem CodeO.seq {c1 c2 : Int} {e1 e2 : Ending} {d1 d2 : Dm} {w1 w2 : World} {q : Value} (h3 : Out L.has w w1) (h4 : ∀ g, q.ownBlock = some g → L.qv.ownBlock = some g ∨ w.heap.size ≤ g) (k : CodeO C w1 { L with qv := q } d2 c2 e2 w2) : CodeO C w L d2 c2 e2 w2 := by
  obtain ⟨k1, q2, k2, k3, k4⟩ := k
  refine ⟨k1, q2, k2, h3.trans k3 (fun i hi hx => ?_), fun g hg => ?_⟩
  · rcases hx with h | h | h | h
    · exact .inl h
    · exact .inr (.inl h)
    · exact .inr (.inr (.inl h))
    · rcases h4 i h with h' | h'
      · exact .inr (.inr (.inr h'))
      · omega
  · rcases k4 g hg with h | h
    · exact h4 g h
    · exact .inr (Nat.le_trans h3.size h)
theorem CodeO.eqv {d1 : Dm} {c1 : Int} {e : Ending} {sv : Dm × Int} (h : CodeO C w L d1 c1 e w') (hs : sv = (d1, c1)) : CodeO C w L sv.1 sv.2 e w' := by rw [hs]; exact h
theorem toK_lt (at_ n : Nat) (h : 3 ≤ n) : toK at_ < n := by unfold toK; split <;> omega
set_option maxRecDepth 100000 in
set_option maxHeartbeats 4000000 in
theorem save_any (p : Pt) (h : Dk C w L d) (hn : 3 ≤ d.n) (hok : OkD d) : Calls Try.prog 12 #[.pointer (some ⟨L.bd, 0, none⟩), .agg (ptA p)] w (CodeO C w L (saveD d p).1 (saveD d p).2) := by
  have hb1 := sup_pt w (.cells (ptA p) PNT)
  have HB1 := Lib.hid hb1
  have HP := Lib.hid (blo_laid w PNT (ptA p))
  have HD := Lib.hid (h.later hb1)
  have HOk := Lib.hid hok
  have hn0 : ¬ (d.n : Int) < 3 := by omega
  clear hb1 hok
  obtain ⟨sv, hsv⟩ : ∃ sv, saveD d p = sv := ⟨_, rfl⟩
  rw [hsv]
  by_cases hg : Good4 p
  · generalize hct : ctK d.N 2 = q at *
    have HCt := Lib.hid hct
    have hS : saveD d p = if q.2 ≠ 0 ∧ newB p q.1 = false then (d, 103) else if deadB d = true then (d, 102) else if deadB (putD d (toK q.2) (encP p)) = true then (putD d (toK q.2) (encP p), 102) else (barD (putD d (toK q.2) (encP p)), 0) := by
      unfold saveD
      rw [if_neg (fun h => h hg), hct]
    rw [hsv] at hS
    clear hsv
    obtain ⟨⟨be, bc, bn, bf⟩, at_⟩ := q
    have HC : Hid (∀ W, Dk C W L d → Calls Try.prog 37 #[.pointer (some ⟨L.bd, 0, none⟩)] W (cntP ⟨be, bc, bn, bf⟩ at_ W)) := fun W hW => by
      have := counting_any hW hn
      rw [hct] at this
      exact this
    have HE := Lib.hid (fun W => encode_good p W hg)
    have HS := Lib.hid hS
    clear hct hS h
    obtain ⟨pe, pc, pn, pf⟩ := p
    simp only [ptA_def] at *
    go_enter Try.func12, Try.ntmps12
    go_wp2_with fail
    refine (HE.out _).mono ?_
    rintro e w1 ⟨g, rfl, hx, hgx, hb2⟩
    have HX := Lib.hid hx
    have HD1 := Lib.hid (HD.out.later hb2)
    have HP1 := Lib.hid (HP.out.later hb2)
    have HB2 := Lib.hid (HB1.out.trans (hb2.mono HB1.out.size))
    clear hx hgx hb2 HB1 HP HD HE
    go_wp2_with fail
    refine (size_any HD1.out).mono ?_
    rintro e w2 ⟨rfl, rfl⟩
    go_wp2_with fail
    refine (HC.out _ HD1.out).mono ?_
    rintro e w2 ⟨rfl, hb3⟩
    simp only [ptA_def]
    have hb4 : Below w1.heap.size w1 (w2.alloc (.cells #[.int .i64 be, .int .i64 bc, .int .i64 bn, .int .i64 bf] PNT)) := hb3.alloc hb3.size _
    have HX2 := Lib.hid (HX.out.out (X := fun _ => False) (Out.of_below hb4) (fun h => h))
    have HD2 := Lib.hid (HD1.out.later hb4)
    have HP2 := Lib.hid (HP1.out.later hb4)
    have HB3 := Lib.hid (HB2.out.trans (hb4.mono HB2.out.size))
    clear hb3 hb4 HX HD1 HP1 HB2 HC
    have p0 := HP2.out.cell 0
    have p1 := HP2.out.cell 1
    have p2 := HP2.out.cell 2
    have p3 := HP2.out.cell 3
    simp at p0 p1 p2 p3
    have HFin : Hid (∀ (W : World) , Below (w2.alloc (.cells #[.int .i64 be, .int .i64 bc, .int .i64 bn, .int .i64 bf] PNT)).heap.size (w2.alloc (.cells #[.int .i64 be, .int .i64 bc, .int .i64 bn, .int .i64 bf] PNT)) W → Dk C W L d ∧ BBlk W g (encP ⟨pe, pc, pn, pf⟩) ∧ Below w.heap.size w W) := fun W hb => ⟨HD2.out.later hb, HX2.out.out (X := fun _ => False) (Out.of_below hb) (fun h => h), HB3.out.trans (hb.mono HB3.out.size)⟩
    clear HX2 HD2 HP2 HB3
    by_cases ha : at_ = 0
    · subst ha
      have hto : toK 0 = 1 := rfl
      have hS := HS.out
      rw [if_neg (fun h => h.1 rfl), hto] at hS
      obtain ⟨hD, hX, hB⟩ := HFin.out _ (Below.refl _ _)
      have HD3 := Lib.hid hD
      have HX3 := Lib.hid hX
      have HB3 := Lib.hid hB
      clear hD hX hB HFin hto HS
      have HS := Lib.hid hS
      clear hS
      cases hdd : deadB d with
      | true =>
        have HW := Lib.hid (write_dead (i := 1) (a := some ⟨g, 0, none⟩) (cap := 64) (by omega) hdd HD3.out)
        have hS := HS.out
        rw [if_pos hdd] at hS
        have HS2 := Lib.hid hS
        clear hS
        clear hdd
        go_wp2_with fail
        refine HW.out.mono ?_
        intro e w6 hO
        have hF := hO.before HB3.out
        obtain ⟨rfl, _⟩ := hO
        have HF := Lib.hid hF
        clear hF HW
        go_wp2
        go_ret
        exact HF.out.eqv HS2.out
      | false =>
        have HW := Lib.hid (write_yes 1 g 64 (encP ⟨pe, pc, pn, pf⟩) (by omega) hdd HOk.out.lf (by have := HOk.out.st; omega) HOk.out.ql HX3.out HD3.out)
        have HLf := Lib.hid (putD_left (i := 1) (l := encP ⟨pe, pc, pn, pf⟩) HOk.out hdd)
        have HSt : Hid ((putD d 1 (encP ⟨pe, pc, pn, pf⟩)).steps < 1000000) := by
          show d.steps + 1 < 1000000
          have := HOk.out.st; omega
        have hS := HS.out
        rw [if_neg (by rw [hdd]; decide)] at hS
        clear HS
        have HS := Lib.hid hS
        clear hS
        clear hdd
        go_wp2_with fail
        refine HW.out.mono ?_
        rintro e w6 ⟨rfl, q, hD6, hO6, hq6⟩
        have HD6 := Lib.hid hD6
        have HSeq : Hid (∀ {c2 : Int} {e2 : Ending} {d2 : Dm} {w2 : World}, CodeO C w6 { L with qv := q } d2 c2 e2 w2 → CodeO C w L d2 c2 e2 w2) := fun k => CodeO.seq (c1 := 0) (e1 := .returned (.int .i64 0)) (d1 := d) ((Out.of_below (X := L.has) HB3.out).trans hO6 (fun _ _ h => h)) (fun g hg => by
          rcases hq6 g hg with h | h
          · exact .inl h
          · exact .inr (Nat.le_trans HB3.out.size h)) k
        clear hD6 hO6 hq6 HW
        generalize putD d 1 (encP ⟨pe, pc, pn, pf⟩) = d1 at *
        cases hd1 : deadB d1 with
        | true =>
          have HBa := Lib.hid (bar_dead HD6.out hd1)
          have hS := HS.out
          rw [if_pos hd1] at hS
          have HS2 := Lib.hid hS
          clear hS
          clear hd1
          go_wp2_with fail
          refine HBa.out.mono ?_
          intro e w7 hO
          have hF := HSeq.out hO
          obtain ⟨rfl, _⟩ := hO
          have HF := Lib.hid hF
          clear hF HBa
          go_wp2
          go_ret
          exact HF.out.eqv HS2.out
        | false =>
          have HBa := Lib.hid (bar_yes HD6.out hd1 HLf.out HSt.out)
          have hS := HS.out
          rw [if_neg (by rw [hd1]; decide)] at hS
          clear HS
          have HS := Lib.hid hS
          clear hS
          clear hd1
          go_wp2_with fail
          refine HBa.out.mono ?_
          intro e w7 hO
          have hF := HSeq.out hO
          obtain ⟨rfl, _⟩ := hO
          have HF := Lib.hid hF
          clear hF HBa
          go_wp2
          go_ret
          exact HF.out.eqv HS.out
    · have ha1 : ((at_ : Int) != 0) = true := by rw [bne_iff_ne]; omega
      go_wp2_with fail
      refine (newer_any pe pc pn pf be bc bn bf _).mono ?_
      rintro e w5 ⟨rfl, hb5⟩
      obtain ⟨hD, hX, hB⟩ := HFin.out _ hb5
      have HD3 := Lib.hid hD
      have HX3 := Lib.hid hX
      have HB3 := Lib.hid hB
      clear hD hX hB hb5 HFin
      cases hnew : newB ⟨pe, pc, pn, pf⟩ ⟨be, bc, bn, bf⟩ with
      | false =>
        have hS := HS.out
        rw [if_pos ⟨ha, hnew⟩] at hS
        have HF : Hid (CodeO C w L sv.1 sv.2 (.returned (.int .i64 103)) w5) := ((CodeO.stay HD3.out 103).before HB3.out).eqv hS
        clear hnew hS HS
        go_wp2
        go_ret
        exact HF.out
      | true =>
        have hS := HS.out
        rw [if_neg (fun h => by have := h.2; rw [hnew] at this; cases this)] at hS
        clear hnew HS
        by_cases ha2 : at_ = 1
        · subst ha2
          have hto : toK 1 = 2 := rfl
          rw [hto] at hS
          have HS := Lib.hid hS
          clear hto hS
          cases hdd : deadB d with
          | true =>
            have HW := Lib.hid (write_dead (i := 2) (a := some ⟨g, 0, none⟩) (cap := 64) (by omega) hdd HD3.out)
            have hS := HS.out
            rw [if_pos hdd] at hS
            have HS2 := Lib.hid hS
            clear hS
            clear hdd
            go_wp2_with fail
            refine HW.out.mono ?_
            intro e w6 hO
            have hF := hO.before HB3.out
            obtain ⟨rfl, _⟩ := hO
            have HF := Lib.hid hF
            clear hF HW
            go_wp2
            go_ret
            exact HF.out.eqv HS2.out
          | false =>
            have HW := Lib.hid (write_yes 2 g 64 (encP ⟨pe, pc, pn, pf⟩) (by omega) hdd HOk.out.lf (by have := HOk.out.st; omega) HOk.out.ql HX3.out HD3.out)
            have HLf := Lib.hid (putD_left (i := 2) (l := encP ⟨pe, pc, pn, pf⟩) HOk.out hdd)
            have HSt : Hid ((putD d 2 (encP ⟨pe, pc, pn, pf⟩)).steps < 1000000) := by
              show d.steps + 1 < 1000000
              have := HOk.out.st; omega
            have hS := HS.out
            rw [if_neg (by rw [hdd]; decide)] at hS
            clear HS
            have HS := Lib.hid hS
            clear hS
            clear hdd
            go_wp2_with fail
            refine HW.out.mono ?_
            rintro e w6 ⟨rfl, q, hD6, hO6, hq6⟩
            have HD6 := Lib.hid hD6
            have HSeq : Hid (∀ {c2 : Int} {e2 : Ending} {d2 : Dm} {w2 : World}, CodeO C w6 { L with qv := q } d2 c2 e2 w2 → CodeO C w L d2 c2 e2 w2) := fun k => CodeO.seq (c1 := 0) (e1 := .returned (.int .i64 0)) (d1 := d) ((Out.of_below (X := L.has) HB3.out).trans hO6 (fun _ _ h => h)) (fun g hg => by
              rcases hq6 g hg with h | h
              · exact .inl h
              · exact .inr (Nat.le_trans HB3.out.size h)) k
            clear hD6 hO6 hq6 HW
            generalize putD d 2 (encP ⟨pe, pc, pn, pf⟩) = d1 at *
            cases hd1 : deadB d1 with
            | true =>
              have HBa := Lib.hid (bar_dead HD6.out hd1)
              have hS := HS.out
              rw [if_pos hd1] at hS
              have HS2 := Lib.hid hS
              clear hS
              clear hd1
              go_wp2_with fail
              refine HBa.out.mono ?_
              intro e w7 hO
              have hF := HSeq.out hO
              obtain ⟨rfl, _⟩ := hO
              have HF := Lib.hid hF
              clear hF HBa
              go_wp2
              go_ret
              exact HF.out.eqv HS2.out
            | false =>
              have HBa := Lib.hid (bar_yes HD6.out hd1 HLf.out HSt.out)
              have hS := HS.out
              rw [if_neg (by rw [hd1]; decide)] at hS
              clear HS
              have HS := Lib.hid hS
              clear hS
              clear hd1
              go_wp2_with fail
              refine HBa.out.mono ?_
              intro e w7 hO
              have hF := HSeq.out hO
              obtain ⟨rfl, _⟩ := hO
              have HF := Lib.hid hF
              clear hF HBa
              go_wp2
              go_ret
              exact HF.out.eqv HS.out
        · have ha3 : ((at_ : Int) == 1) = false := by rw [beq_eq_false_iff_ne]; omega
          have hto : toK at_ = 1 := if_neg ha2
          rw [hto] at hS
          have HS := Lib.hid hS
          clear hto hS
          cases hdd : deadB d with
          | true =>
            have HW := Lib.hid (write_dead (i := 1) (a := some ⟨g, 0, none⟩) (cap := 64) (by omega) hdd HD3.out)
            have hS := HS.out
            rw [if_pos hdd] at hS
            have HS2 := Lib.hid hS
            clear hS
            clear hdd
            go_wp2_with fail
            refine HW.out.mono ?_
            intro e w6 hO
            have hF := hO.before HB3.out
            obtain ⟨rfl, _⟩ := hO
            have HF := Lib.hid hF
            clear hF HW
            go_wp2
            go_ret
            exact HF.out.eqv HS2.out
          | false =>
            have HW := Lib.hid (write_yes 1 g 64 (encP ⟨pe, pc, pn, pf⟩) (by omega) hdd HOk.out.lf (by have := HOk.out.st; omega) HOk.out.ql HX3.out HD3.out)
            have HLf := Lib.hid (putD_left (i := 1) (l := encP ⟨pe, pc, pn, pf⟩) HOk.out hdd)
            have HSt : Hid ((putD d 1 (encP ⟨pe, pc, pn, pf⟩)).steps < 1000000) := by
              show d.steps + 1 < 1000000
              have := HOk.out.st; omega
            have hS := HS.out
            rw [if_neg (by rw [hdd]; decide)] at hS
            clear HS
            have HS := Lib.hid hS
            clear hS
            clear hdd
            go_wp2_with fail
            refine HW.out.mono ?_
            rintro e w6 ⟨rfl, q, hD6, hO6, hq6⟩
            have HD6 := Lib.hid hD6
            have HSeq : Hid (∀ {c2 : Int} {e2 : Ending} {d2 : Dm} {w2 : World}, CodeO C w6 { L with qv := q } d2 c2 e2 w2 → CodeO C w L d2 c2 e2 w2) := fun k => CodeO.seq (c1 := 0) (e1 := .returned (.int .i64 0)) (d1 := d) ((Out.of_below (X := L.has) HB3.out).trans hO6 (fun _ _ h => h)) (fun g hg => by
              rcases hq6 g hg with h | h
              · exact .inl h
              · exact .inr (Nat.le_trans HB3.out.size h)) k
            clear hD6 hO6 hq6 HW
            generalize putD d 1 (encP ⟨pe, pc, pn, pf⟩) = d1 at *
            cases hd1 : deadB d1 with
            | true =>
              have HBa := Lib.hid (bar_dead HD6.out hd1)
              have hS := HS.out
              rw [if_pos hd1] at hS
              have HS2 := Lib.hid hS
              clear hS
              clear hd1
              go_wp2_with fail
              refine HBa.out.mono ?_
              intro e w7 hO
              have hF := HSeq.out hO
              obtain ⟨rfl, _⟩ := hO
              have HF := Lib.hid hF
              clear hF HBa
              go_wp2
              go_ret
              exact HF.out.eqv HS2.out
            | false =>
              have HBa := Lib.hid (bar_yes HD6.out hd1 HLf.out HSt.out)
              have hS := HS.out
              rw [if_neg (by rw [hd1]; decide)] at hS
              clear HS
              have HS := Lib.hid hS
              clear hS
              clear hd1
              go_wp2_with fail
              refine HBa.out.mono ?_
              intro e w7 hO
              have hF := HSeq.out hO
              obtain ⟨rfl, _⟩ := hO
              have HF := Lib.hid hF
              clear hF HBa
              go_wp2
              go_ret
              exact HF.out.eqv HS.out
  · have hS : saveD d p = (d, 22) := by unfold saveD; rw [if_pos hg]
    rw [hsv] at hS
    obtain ⟨pe, pc, pn, pf⟩ := p
    have HE := Lib.hid (fun W => encode_bad pe pc pn pf W hg)
    have HF : Hid (∀ W, Below (w.alloc (.cells (ptA ⟨pe, pc, pn, pf⟩) PNT)).heap.size (w.alloc (.cells (ptA ⟨pe, pc, pn, pf⟩) PNT)) W → CodeO C w L sv.1 sv.2 (.returned (.int .i64 22)) W) := fun W hb => ((CodeO.stay (HD.out.later hb) 22).before (HB1.out.trans (hb.mono HB1.out.size))).eqv hS
    clear hS hsv h hg HB1 HP HD
    simp only [ptA_def] at *
    go_enter Try.func12, Try.ntmps12
    go_wp2_with fail
    refine (HE.out _).mono ?_
    rintro e w1 ⟨rfl, hb2⟩
    have HF2 := Lib.hid (HF.out _ hb2)
    clear hb2 HF HE
    go_wp2
    go_ret
    exact HF2.out
end
end Go.Proofs.Ytmkhliabmodbdaa
