/-
  The document's Save.
-/
import Derived.Test.YtmkhliabmodbdaaPtRefC
import Derived.Test.YtmkhliabmodbdaaPtSave
import Derived.Deep.RegionHeld3
import Derived.Deep.DeepMust
namespace Go.Proofs.Ytmkhliabmodbdaa
open Go.RowKit

theorem save_eq {d : Dm} {p : Pt} (hn : 3 ≤ d.n) : saveD d p = if ¬ Good4 p then (d, 22) else if (ctK d.N 2).2 ≠ 0 ∧ newB p (ctK d.N 2).1 = false then (d, 103)
    else if (writeD d (toK (ctK d.N 2).2 : Nat) (encP p)).2 ≠ 0 then writeD d (toK (ctK d.N 2).2 : Nat) (encP p) else barrD (writeD d (toK (ctK d.N 2).2 : Nat) (encP p)).1 := by
  have hk := toK_lt (ctK d.N 2).2 d.n hn
  have hl := encP_length p
  unfold saveD
  generalize toK (ctK d.N 2).2 = k at *
  have hw : writeD d (k : Int) (encP p) = if deadB d = true then (d, 102) else (putD d k (encP p), 0) := by
    unfold writeD
    rw [if_neg (by rintro (q | q | q) <;> omega)]
    rfl
  rw [hw]
  by_cases h1 : ¬ Good4 p
  · rw [if_pos h1, if_pos h1]
  · rw [if_neg h1, if_neg h1]
    by_cases h2 : (ctK d.N 2).2 ≠ 0 ∧ newB p (ctK d.N 2).1 = false
    · rw [if_pos h2, if_pos h2]
    · rw [if_neg h2, if_neg h2]
      by_cases h3 : deadB d = true
      · rw [if_pos h3, if_pos h3, if_pos (show (102 : Int) ≠ 0 by decide)]
      · rw [if_neg h3, if_neg h3, if_neg (show ¬ ((putD d k (encP p), (0 : Int)).2 ≠ 0) from fun h => h rfl)]
        rfl
theorem Dn.write {w : World} {d : Dm} {sa qa : Option Addr} {sc qc : Nat} (h : Dn d) (hm : Mr w sa qa sc qc d) (hs : d.steps < 1000000) (k : Int) {l : List Nat} (hb : ∀ x ∈ l, x < 256) : Dn (writeD d k l).1 := by
  unfold writeD
  split
  · exact h
  · rename_i h1
    split
    · exact h
    · rename_i h2
      have hd := bool_no h2
      have hp := putD_pos (i := k.toNat) (l := l) hm.pos hd
      refine ⟨h.few, fun p hp => ?_, ?_, ?_⟩
      · rcases List.mem_append.1 (show p ∈ d.Q ++ [(k.toNat, l)] from hp) with q | q
        · exact h.good p q
        · rw [List.mem_singleton.1 q]
          exact ⟨by show k.toNat < d.n; omega, by show l.length = 64; omega, hb⟩
      · show 0 ≤ d.steps + 1 ∧ d.steps + 1 ≤ 1000000
        have := h.stp; omega
      · refine ⟨by show -1 ≤ (putD d k.toNat l).left; omega, ?_⟩
        show (if d.armed then d.left - 1 else d.left) ≤ _
        have := h.lft
        split <;> omega
def zRD : Array Value := #[.slice none 0 0, .slice none 0 0, .int .i64 0, .int .i64 0]
theorem zRD_def : zRD = #[.slice none 0 0, .slice none 0 0, .int .i64 0, .int .i64 0] := rfl
/-- What stands ahead of the put. -/
structure SvR (w0 : World) (h : Nat) (d : Dm) (sa qa : Option Addr) (sc qc : Nat) (p : Pt) (W : World) : Prop where
  x : Blo W h RDT #[.slice sa d.n sc, .slice qa d.Q.length qc, .int .i64 d.steps, .int .i64 (lfD d)]
  p : Blo W (h + 1) RPT (ptA p)
  z : Blo W (h + 1 + 1) RDT zRD
  m : Mr W sa qa sc qc d
  b : Below h w0 W
theorem SvR.later {w0 W W' : World} {h : Nat} {d : Dm} {sa qa : Option Addr} {sc qc : Nat} {p : Pt} (s : SvR w0 h d sa qa sc qc p W) (hb : Below W.heap.size W W') (hs : h ≤ W.heap.size) : SvR w0 h d sa qa sc qc p W' :=
  ⟨s.x.later hb, s.p.later hb, s.z.later hb, s.m.later hb, s.b.trans (hb.mono hs)⟩
theorem SvR.sz {w0 W : World} {h : Nat} {d : Dm} {sa qa : Option Addr} {sc qc : Nat} {p : Pt} (s : SvR w0 h d sa qa sc qc p W) : h ≤ W.heap.size := by have := s.x.lt; omega
/-- What stands behind the put. -/
structure SvP (w0 : World) (h : Nat) (d : Dm) (sa qa : Option Addr) (sc qc : Nat) (W : World) : Prop where
  x : Blo W h RDT #[.slice sa d.n sc, .slice qa d.Q.length qc, .int .i64 d.steps, .int .i64 (lfD d)]
  z : Blo W (h + 1 + 1) RDT zRD
  m : Mr W sa qa sc qc d
  b : Below h w0 W
theorem svp_put {w0 W W' : World} {h : Nat} {d d' : Dm} {sa qa sa' qa' : Option Addr} {sc qc sc' qc' : Nat} {p : Pt} (s : SvR w0 h d sa qa sc qc p W) (hb : Below W.heap.size W W') (hm : Mr W' sa' qa' sc' qc' d') :
    SvP w0 h d' sa' qa' sc' qc' ((((W'.setCell ⟨h, 0, none⟩ (.slice sa' d'.n sc')).setCell ⟨h, 1, none⟩ (.slice qa' d'.Q.length qc')).setCell ⟨h, 2, none⟩ (.int .i64 d'.steps)).setCell ⟨h, 3, none⟩ (.int .i64 (lfD d'))) := by
  have s' := s.later hb s.sz
  refine ⟨dec_fin s'.x, (((s'.z.far (p := ⟨h, 0, none⟩) (by show h + 1 + 1 ≠ h; omega) _).far (p := ⟨h, 1, none⟩) (by show h + 1 + 1 ≠ h; omega) _).far (p := ⟨h, 2, none⟩) (by show h + 1 + 1 ≠ h; omega) _).far (p := ⟨h, 3, none⟩) (by show h + 1 + 1 ≠ h; omega) _, ?_, below_4 s'.b (Nat.le_refl _)⟩
  have o : ∀ (W : World) (j : Nat) (u : Value), Out (fun i => i = h) W (W.setCell ⟨h, j, none⟩ u) := fun W j u => out_put W ⟨h, j, none⟩ u rfl
  have hx : ∀ g cs, Blo W' g STR cs ∨ Blo W' g RWT cs → ¬ g = h := fun g cs hb e => by
    subst e
    rcases hb with hb | hb
    · exact hb.apart s'.x (by decide) rfl
    · exact hb.apart s'.x (by decide) rfl
  exact hm.out ((((o _ 0 _).trans (o _ 1 _) (fun _ _ h => h)).trans (o _ 2 _) (fun _ _ h => h)).trans (o _ 3 _) (fun _ _ h => h)) hx
/-- The answer's cells. -/
theorem ret_put {w0 W : World} {h g : Nat} {d : Dm} {sa qa : Option Addr} {sc qc : Nat} {cs : Array Value} (hz : Blo W g RDT cs) (hm : Mr W sa qa sc qc d) (hb : Below h w0 W) (hg : h ≤ g) (u0 u1 u2 u3 : Value) :
    Mr ((((W.setCell ⟨g, 0, none⟩ u0).setCell ⟨g, 1, none⟩ u1).setCell ⟨g, 2, none⟩ u2).setCell ⟨g, 3, none⟩ u3) sa qa sc qc d ∧ Below h w0 ((((W.setCell ⟨g, 0, none⟩ u0).setCell ⟨g, 1, none⟩ u1).setCell ⟨g, 2, none⟩ u2).setCell ⟨g, 3, none⟩ u3) := by
  have o : ∀ (W : World) (j : Nat) (u : Value), Out (fun i => i = g) W (W.setCell ⟨g, j, none⟩ u) := fun W j u => out_put W ⟨g, j, none⟩ u rfl
  have hx : ∀ g' cs, Blo W g' STR cs ∨ Blo W g' RWT cs → ¬ g' = g := fun g' cs hb e => by
    subst e
    rcases hb with hb | hb
    · exact hb.apart hz (by decide) rfl
    · exact hb.apart hz (by decide) rfl
  exact ⟨hm.out ((((o _ 0 _).trans (o _ 1 _) (fun _ _ h => h)).trans (o _ 2 _) (fun _ _ h => h)).trans (o _ 3 _) (fun _ _ h => h)) hx, below_4 hb hg⟩
def SvC (w0 : World) (h : Nat) (d' : Dm) (code : Int) (c : Value) (W : World) : Prop := ∃ sa qa sc qc, c = .int .i64 code ∧ SvP w0 h d' sa qa sc qc W
set_option maxRecDepth 100000 in
set_option maxHeartbeats 4000000 in
theorem rsave_any {w : World} {d : Dm} {sa qa : Option Addr} {sc qc : Nat} (p : Pt) (h : Dn d) (hm : Mr w sa qa sc qc d) (hs : d.steps + 2 ≤ 1000000) (hq : d.Q.length < 100000) (hn : 3 ≤ d.n) (hb : ∀ i, ∀ x ∈ d.N i, x < 256) :
    Calls Try.prog 13 #[.agg #[.slice sa d.n sc, .slice qa d.Q.length qc, .int .i64 d.steps, .int .i64 (lfD d)], .agg (ptA p)] w (MrO w (saveD d p).1 (saveD d p).2) := by
  have hn2 := h.few.2
  have hb1 : Below w.heap.size w (((w.alloc (.cells #[.slice sa d.n sc, .slice qa d.Q.length qc, .int .i64 d.steps, .int .i64 (lfD d)] RDT)).alloc (.cells (ptA p) RPT)).alloc (.cells zRD RDT)) := (((Below.refl _ _).alloc (Nat.le_refl _) _).alloc (by simp) _).alloc (by simp; omega) _
  have HR : Hid (SvR w w.heap.size d sa qa sc qc p (((w.alloc (.cells #[.slice sa d.n sc, .slice qa d.Q.length qc, .int .i64 d.steps, .int .i64 (lfD d)] RDT)).alloc (.cells (ptA p) RPT)).alloc (.cells zRD RDT))) := by
    refine ⟨((blo_laid w RDT #[.slice sa d.n sc, .slice qa d.Q.length qc, .int .i64 d.steps, .int .i64 (lfD d)]).alloc _).alloc _, ?_, ?_, hm.later hb1, hb1⟩
    · have e := blo_laid (w.alloc (.cells #[.slice sa d.n sc, .slice qa d.Q.length qc, .int .i64 d.steps, .int .i64 (lfD d)] RDT)) RPT (ptA p)
      rw [show (w.alloc (.cells #[.slice sa d.n sc, .slice qa d.Q.length qc, .int .i64 d.steps, .int .i64 (lfD d)] RDT)).heap.size = w.heap.size + 1 by simp] at e
      exact e.alloc _
    · have e := blo_laid ((w.alloc (.cells #[.slice sa d.n sc, .slice qa d.Q.length qc, .int .i64 d.steps, .int .i64 (lfD d)] RDT)).alloc (.cells (ptA p) RPT)) RDT zRD
      rw [show ((w.alloc (.cells #[.slice sa d.n sc, .slice qa d.Q.length qc, .int .i64 d.steps, .int .i64 (lfD d)] RDT)).alloc (.cells (ptA p) RPT)).heap.size = w.heap.size + 1 + 1 by simp] at e
      exact e
  have HS := Lib.hid (save_eq (d := d) (p := p) hn)
  have HCt : Hid (∀ W, Mr W sa qa sc qc d → Calls Try.prog 27 #[.agg #[.slice sa d.n sc, .slice qa d.Q.length qc, .int .i64 d.steps, .int .i64 (lfD d)]] W (RCntO W (ctK d.N 2).1 (ctK d.N 2).2)) := fun W hW => rcounts_any hW (by omega) hn (by omega) hb
  have HPut : Hid (∀ W sa qa sc qc, Mr W sa qa sc qc d → ∀ k : Int, Calls Try.prog 23 #[.agg #[.slice sa d.n sc, .slice qa d.Q.length qc, .int .i64 d.steps, .int .i64 (lfD d)], .int .i64 k, .string (strOf (encP p))] W (MrO W (writeD d k (encP p)).1 (writeD d k (encP p)).2)) := fun W sa qa sc qc hW k => mput_n k (encP p) h hW (by omega) (by omega)
  have HBar : Hid (∀ W sa qa sc qc (k : Int), Good4 p → Mr W sa qa sc qc (writeD d k (encP p)).1 → Calls Try.prog 39 #[.agg (agR sa qa sc qc (writeD d k (encP p)).1)] W (MrO W (barrD (writeD d k (encP p)).1).1 (barrD (writeD d k (encP p)).1).2)) := fun W sa qa sc qc k hg hW => by
    refine mbar_n (h.write hm (by omega) k (encP_byte hg)) hW ?_ ?_
    · unfold writeD; split
      · show d.steps < 1000000; omega
      · split
        · show d.steps < 1000000; omega
        · show d.steps + 1 < 1000000; omega
    · unfold writeD; split
      · show d.Q.length ≤ 100000; omega
      · split
        · show d.Q.length ≤ 100000; omega
        · show (d.Q ++ [_]).length ≤ 100000; simp; omega
  have HEn : Hid (Good4 p → ∀ W, Calls Try.prog 25 #[.agg (ptA p)] W fun e' w' => e' = .returned (.string (strOf (encP p))) ∧ Below W.heap.size W w') := fun hg W => rencode_any p W hg
  have hn0 : ¬ (d.n : Int) < 3 := by omega
  have HM := Lib.hid hm
  have hle := ct_le d.N 2
  obtain ⟨sv, hsv⟩ : ∃ sv, saveD d p = sv := ⟨_, rfl⟩
  rw [hsv]
  rw [hsv] at HS
  clear hsv hb hm hs hq hn2 hb1 h
  generalize ctK d.N 2 = q at *
  obtain ⟨⟨be, bc, bn, bf⟩, at_⟩ := q
  obtain ⟨pe, pc, pn, pf⟩ := p
  simp only [ptA_def, zRD_def] at *
  go_enter Try.func13, Try.ntmps13
  go_wp2_with fail
  refine (rgood_any pe pc pn pf _).mono ?_
  rintro e w1 ⟨rfl, hb1⟩
  have HR1 := Lib.hid (HR.out.later hb1 HR.out.sz)
  clear hb1 HR
  have x0 := HR1.out.x.cell 0
  have x1 := HR1.out.x.cell 1
  have x2 := HR1.out.x.cell 2
  have x3 := HR1.out.x.cell 3
  have y0 := HR1.out.p.cell 0
  have y1 := HR1.out.p.cell 1
  have y2 := HR1.out.p.cell 2
  have y3 := HR1.out.p.cell 3
  have z0 := HR1.out.z.cell 0
  have z1 := HR1.out.z.cell 1
  have z2 := HR1.out.z.cell 2
  have z3 := HR1.out.z.cell 3
  have f0 := HR1.out.z.frozen 0
  have f1 := HR1.out.z.frozen 1
  have f2 := HR1.out.z.frozen 2
  have f3 := HR1.out.z.frozen 3
  simp [ptA, zRD] at x0 x1 x2 x3 y0 y1 y2 y3 z0 z1 z2 z3
  by_cases hg : Good4 ⟨pe, pc, pn, pf⟩
  · have HG := Lib.hid hg
    rw [decide_eq_true hg]
    clear hg
    go_wp2_with fail
    refine (HCt.out _ HR1.out.m).mono ?_
    rintro e w2 ⟨rfl, hb2⟩
    simp only [ptA_def]
    have hb3 : Below w1.heap.size w1 (w2.alloc (.cells #[.int .i64 be, .int .i64 bc, .int .i64 bn, .int .i64 bf] RPT)) := hb2.alloc hb2.size _
    have HR3 := Lib.hid (HR1.out.later hb3 HR1.out.sz)
    have HN3 := Lib.hid (blo_laid w2 RPT #[.int .i64 be, .int .i64 bc, .int .i64 bn, .int .i64 bf])
    clear hb2 hb3 HR1 x0 x1 x2 x3 y0 y1 y2 y3 z0 z1 z2 z3 f0 f1 f2 f3
    have x0 := HR3.out.x.cell 0
    have x1 := HR3.out.x.cell 1
    have x2 := HR3.out.x.cell 2
    have x3 := HR3.out.x.cell 3
    have y0 := HR3.out.p.cell 0
    have y1 := HR3.out.p.cell 1
    have y2 := HR3.out.p.cell 2
    have y3 := HR3.out.p.cell 3
    have z0 := HR3.out.z.cell 0
    have z1 := HR3.out.z.cell 1
    have z2 := HR3.out.z.cell 2
    have z3 := HR3.out.z.cell 3
    have f0 := HR3.out.z.frozen 0
    have f1 := HR3.out.z.frozen 1
    have f2 := HR3.out.z.frozen 2
    have f3 := HR3.out.z.frozen 3
    simp [ptA, zRD] at x0 x1 x2 x3 y0 y1 y2 y3 z0 z1 z2 z3
    by_cases ha : at_ = 0
    · subst ha
      have HPt := Lib.hid (fun W sa qa sc qc hW => HPut.out W sa qa sc qc hW 1)
      have HBr := Lib.hid (fun W sa qa sc qc hW => HBar.out W sa qa sc qc 1 HG.out hW)
      have hS : sv = if (writeD d 1 (encP ⟨pe, pc, pn, pf⟩)).2 ≠ 0 then writeD d 1 (encP ⟨pe, pc, pn, pf⟩) else barrD (writeD d 1 (encP ⟨pe, pc, pn, pf⟩)).1 := by
        have e := HS.out
        rw [if_neg (fun h => h HG.out), if_neg (fun h => h.1 rfl), show toK 0 = 1 from rfl] at e
        exact e
      have HSv := Lib.hid hS
      clear hS HS HPut HBar
      generalize writeD d 1 (encP ⟨pe, pc, pn, pf⟩) = r at *
      obtain ⟨d', code⟩ := r
      go_wp2_with fail
      go_cut [9] (fun c wx => SvC w w.heap.size d' code c wx)
      case first =>
        go_region_with (first
          | (go_at_call 25; (with_reducible refine (HEn.out HG.out _).mono ?_); rintro e w5 ⟨rfl, hb5⟩; have HR5 := Lib.hid (HR3.out.later (((Below.refl _ _).drew).trans hb5) HR3.out.sz); clear hb5; have x0 := HR5.out.x.cell 0; have x1 := HR5.out.x.cell 1; have x2 := HR5.out.x.cell 2; have x3 := HR5.out.x.cell 3; have y0 := HR5.out.p.cell 0; have y1 := HR5.out.p.cell 1; have y2 := HR5.out.p.cell 2; have y3 := HR5.out.p.cell 3; simp [ptA] at x0 x1 x2 x3 y0 y1 y2 y3)
          | (go_at_call 23; (with_reducible refine (HPt.out _ _ _ _ _ HR5.out.m).mono ?_); rintro e w6 ⟨sa', qa', sc', qc', rfl, hm6, hb6⟩; unfold agR; have HR6 := Lib.hid (HR5.out.later hb6 HR5.out.sz); have HM6 := Lib.hid hm6; have HB6 := Lib.hid hb6; clear hm6 hb6; have x0 := HR6.out.x.cell 0; have x1 := HR6.out.x.cell 1; have x2 := HR6.out.x.cell 2; have x3 := HR6.out.x.cell 3; have f0 := HR6.out.x.frozen 0; have f1 := HR6.out.x.frozen 1; have f2 := HR6.out.x.frozen 2; have f3 := HR6.out.x.frozen 3; simp at x0 x1 x2 x3)
          | fail)
        all_goals
          go_wp2_with fail
          go_meet
          exact ⟨sa', qa', sc', qc', rfl, svp_put HR5.out HB6.out HM6.out⟩
      case rest =>
        obtain ⟨sa', qa', sc', qc', rfl, hp⟩ := hcut
        have HP := Lib.hid hp
        clear hp x0 x1 x2 x3 y0 y1 y2 y3 z0 z1 z2 z3 f0 f1 f2 f3 HPt HR3 HM HCt HEn
        have x0 := HP.out.x.cell 0
        have x1 := HP.out.x.cell 1
        have x2 := HP.out.x.cell 2
        have x3 := HP.out.x.cell 3
        have z0 := HP.out.z.cell 0
        have z1 := HP.out.z.cell 1
        have z2 := HP.out.z.cell 2
        have z3 := HP.out.z.cell 3
        have f0 := HP.out.z.frozen 0
        have f1 := HP.out.z.frozen 1
        have f2 := HP.out.z.frozen 2
        have f3 := HP.out.z.frozen 3
        simp [zRD] at x0 x1 x2 x3 z0 z1 z2 z3
        by_cases hc : code = 0
        · subst hc
          have hS := HSv.out
          rw [if_neg (fun h => h rfl)] at hS
          have HS2 := Lib.hid hS
          clear hS HSv
          go_wp2_with fail
          refine (HBr.out _ _ _ _ _ HP.out.m).mono ?_
          rintro e w8 ⟨sa2, qa2, sc2, qc2, rfl, hm8, hb8⟩
          unfold agR
          have HZ8 := Lib.hid (HP.out.z.later hb8)
          have HM8 := Lib.hid hm8
          have HB8 := Lib.hid (HP.out.b.trans (hb8.mono (Nat.le_trans (Nat.le_of_lt HP.out.x.lt) (Nat.le_refl _))))
          rw [← HS2.out] at HM8
          clear hm8 hb8 x0 x1 x2 x3 z0 z1 z2 z3 f0 f1 f2 f3
          have z0 := HZ8.out.cell 0
          have z1 := HZ8.out.cell 1
          have z2 := HZ8.out.cell 2
          have z3 := HZ8.out.cell 3
          have f0 := HZ8.out.frozen 0
          have f1 := HZ8.out.frozen 1
          have f2 := HZ8.out.frozen 2
          have f3 := HZ8.out.frozen 3
          simp [zRD] at z0 z1 z2 z3
          go_wp2_with fail
          refine bodyPost_ret (v := .tuple #[.agg (agR sa2 qa2 sc2 qc2 sv.1), .int .i64 sv.2]) ?_ rfl ⟨sa2, qa2, sc2, qc2, rfl, ?_⟩
          · rw [HS2.out]; simp [results, Try.results13, go_sem, agR, z0, z1, z2, z3]
          · exact ret_put HZ8.out HM8.out HB8.out (by omega) _ _ _ _
        · have hS := HSv.out
          rw [if_pos hc] at hS
          subst hS
          clear HSv
          go_wp2
          refine bodyPost_ret (v := .tuple #[.agg (agR sa' qa' sc' qc' d'), .int .i64 code]) ?_ rfl ⟨sa', qa', sc', qc', rfl, ?_⟩
          · simp [results, Try.results13, go_sem, agR, x0, x1, x2, x3, z0, z1, z2, z3]
          · exact ret_put HP.out.z HP.out.m HP.out.b (by omega) _ _ _ _
    · have ha0 : (0 : Int) < (at_ : Int) := by omega
      have HHa : Hid (at_ ≠ 0) := ha
      have n0 := HN3.out.cell 0
      have n1 := HN3.out.cell 1
      have n2 := HN3.out.cell 2
      have n3 := HN3.out.cell 3
      simp at n0 n1 n2 n3
      clear ha
      go_wp2_with fail
      refine (refNewer_any _ _ _ _ _ _ _ _ _).mono ?_
      rintro e w4 ⟨rfl, hb4⟩
      have HR4 := Lib.hid (HR3.out.later hb4 HR3.out.sz)
      clear hb4 HR3 HN3 x0 x1 x2 x3 y0 y1 y2 y3 z0 z1 z2 z3 f0 f1 f2 f3 n0 n1 n2 n3
      have x0 := HR4.out.x.cell 0
      have x1 := HR4.out.x.cell 1
      have x2 := HR4.out.x.cell 2
      have x3 := HR4.out.x.cell 3
      have y0 := HR4.out.p.cell 0
      have y1 := HR4.out.p.cell 1
      have y2 := HR4.out.p.cell 2
      have y3 := HR4.out.p.cell 3
      have z0 := HR4.out.z.cell 0
      have z1 := HR4.out.z.cell 1
      have z2 := HR4.out.z.cell 2
      have z3 := HR4.out.z.cell 3
      have f0 := HR4.out.z.frozen 0
      have f1 := HR4.out.z.frozen 1
      have f2 := HR4.out.z.frozen 2
      have f3 := HR4.out.z.frozen 3
      simp [ptA, zRD] at x0 x1 x2 x3 y0 y1 y2 y3 z0 z1 z2 z3
      cases hnb : newB ⟨pe, pc, pn, pf⟩ ⟨be, bc, bn, bf⟩ with
      | false =>
        have hS := HS.out
        rw [if_neg (fun h => h HG.out), if_pos ⟨HHa.out, hnb⟩] at hS
        subst hS
        clear hnb HS
        go_wp2
        refine bodyPost_ret (v := .tuple #[.agg (agR sa qa sc qc d), .int .i64 103]) ?_ rfl ⟨sa, qa, sc, qc, rfl, ?_⟩
        · simp [results, Try.results13, go_sem, agR, x0, x1, x2, x3, z0, z1, z2, z3]
        · exact ret_put HR4.out.z HR4.out.m HR4.out.b (by omega) _ _ _ _
      | true =>
        have HNb : Hid (¬ (at_ ≠ 0 ∧ newB ⟨pe, pc, pn, pf⟩ ⟨be, bc, bn, bf⟩ = false)) := fun h => by rw [hnb] at h; exact absurd h.2 (by decide)
        clear hnb
        by_cases h1 : at_ = 1
        · have h1i : (at_ : Int) = 1 := by omega
          have HTk : Hid (toK at_ = 2) := by show toK at_ = 2; rw [h1]; rfl
          clear h1
          have HPt := Lib.hid (fun W sa qa sc qc hW => HPut.out W sa qa sc qc hW 2)
          have HBr := Lib.hid (fun W sa qa sc qc hW => HBar.out W sa qa sc qc 2 HG.out hW)
          have hS : sv = if (writeD d 2 (encP ⟨pe, pc, pn, pf⟩)).2 ≠ 0 then writeD d 2 (encP ⟨pe, pc, pn, pf⟩) else barrD (writeD d 2 (encP ⟨pe, pc, pn, pf⟩)).1 := by
            have e := HS.out
            rw [if_neg (fun h => h HG.out), if_neg HNb.out, HTk.out] at e
            exact e
          have HSv := Lib.hid hS
          clear hS HS HPut HBar
          generalize writeD d 2 (encP ⟨pe, pc, pn, pf⟩) = r at *
          obtain ⟨d', code⟩ := r
          go_wp2_with fail
          go_cut [9] (fun c wx => SvC w w.heap.size d' code c wx)
          case first =>
            go_region_with (first
              | (go_at_call 25; (with_reducible refine (HEn.out HG.out _).mono ?_); rintro e w5 ⟨rfl, hb5⟩; have HR5 := Lib.hid (HR4.out.later (((Below.refl _ _).drew).trans hb5) HR4.out.sz); clear hb5; have x0 := HR5.out.x.cell 0; have x1 := HR5.out.x.cell 1; have x2 := HR5.out.x.cell 2; have x3 := HR5.out.x.cell 3; have y0 := HR5.out.p.cell 0; have y1 := HR5.out.p.cell 1; have y2 := HR5.out.p.cell 2; have y3 := HR5.out.p.cell 3; simp [ptA] at x0 x1 x2 x3 y0 y1 y2 y3)
              | (go_at_call 23; (with_reducible refine (HPt.out _ _ _ _ _ HR5.out.m).mono ?_); rintro e w6 ⟨sa', qa', sc', qc', rfl, hm6, hb6⟩; unfold agR; have HR6 := Lib.hid (HR5.out.later hb6 HR5.out.sz); have HM6 := Lib.hid hm6; have HB6 := Lib.hid hb6; clear hm6 hb6; have x0 := HR6.out.x.cell 0; have x1 := HR6.out.x.cell 1; have x2 := HR6.out.x.cell 2; have x3 := HR6.out.x.cell 3; have f0 := HR6.out.x.frozen 0; have f1 := HR6.out.x.frozen 1; have f2 := HR6.out.x.frozen 2; have f3 := HR6.out.x.frozen 3; simp at x0 x1 x2 x3)
              | fail)
            all_goals
              go_wp2_with fail
              go_meet
              exact ⟨sa', qa', sc', qc', rfl, svp_put HR5.out HB6.out HM6.out⟩
          case rest =>
            obtain ⟨sa', qa', sc', qc', rfl, hp⟩ := hcut
            have HP := Lib.hid hp
            clear hp x0 x1 x2 x3 y0 y1 y2 y3 z0 z1 z2 z3 f0 f1 f2 f3 HPt HR4 HM HCt HEn
            have x0 := HP.out.x.cell 0
            have x1 := HP.out.x.cell 1
            have x2 := HP.out.x.cell 2
            have x3 := HP.out.x.cell 3
            have z0 := HP.out.z.cell 0
            have z1 := HP.out.z.cell 1
            have z2 := HP.out.z.cell 2
            have z3 := HP.out.z.cell 3
            have f0 := HP.out.z.frozen 0
            have f1 := HP.out.z.frozen 1
            have f2 := HP.out.z.frozen 2
            have f3 := HP.out.z.frozen 3
            simp [zRD] at x0 x1 x2 x3 z0 z1 z2 z3
            by_cases hc : code = 0
            · subst hc
              have hS := HSv.out
              rw [if_neg (fun h => h rfl)] at hS
              have HS2 := Lib.hid hS
              clear hS HSv
              go_wp2_with fail
              refine (HBr.out _ _ _ _ _ HP.out.m).mono ?_
              rintro e w8 ⟨sa2, qa2, sc2, qc2, rfl, hm8, hb8⟩
              unfold agR
              have HZ8 := Lib.hid (HP.out.z.later hb8)
              have HM8 := Lib.hid hm8
              have HB8 := Lib.hid (HP.out.b.trans (hb8.mono (Nat.le_trans (Nat.le_of_lt HP.out.x.lt) (Nat.le_refl _))))
              rw [← HS2.out] at HM8
              clear hm8 hb8 x0 x1 x2 x3 z0 z1 z2 z3 f0 f1 f2 f3
              have z0 := HZ8.out.cell 0
              have z1 := HZ8.out.cell 1
              have z2 := HZ8.out.cell 2
              have z3 := HZ8.out.cell 3
              have f0 := HZ8.out.frozen 0
              have f1 := HZ8.out.frozen 1
              have f2 := HZ8.out.frozen 2
              have f3 := HZ8.out.frozen 3
              simp [zRD] at z0 z1 z2 z3
              go_wp2_with fail
              refine bodyPost_ret (v := .tuple #[.agg (agR sa2 qa2 sc2 qc2 sv.1), .int .i64 sv.2]) ?_ rfl ⟨sa2, qa2, sc2, qc2, rfl, ?_⟩
              · rw [HS2.out]; simp [results, Try.results13, go_sem, agR, z0, z1, z2, z3]
              · exact ret_put HZ8.out HM8.out HB8.out (by omega) _ _ _ _
            · have hS := HSv.out
              rw [if_pos hc] at hS
              subst hS
              clear HSv
              go_wp2
              refine bodyPost_ret (v := .tuple #[.agg (agR sa' qa' sc' qc' d'), .int .i64 code]) ?_ rfl ⟨sa', qa', sc', qc', rfl, ?_⟩
              · simp [results, Try.results13, go_sem, agR, x0, x1, x2, x3, z0, z1, z2, z3]
              · exact ret_put HP.out.z HP.out.m HP.out.b (by omega) _ _ _ _
        · have h1i : ¬ (at_ : Int) = 1 := by omega
          have HTk : Hid (toK at_ = 1) := by show toK at_ = 1; unfold toK; rw [if_neg h1]
          clear h1
          have HPt := Lib.hid (fun W sa qa sc qc hW => HPut.out W sa qa sc qc hW 1)
          have HBr := Lib.hid (fun W sa qa sc qc hW => HBar.out W sa qa sc qc 1 HG.out hW)
          have hS : sv = if (writeD d 1 (encP ⟨pe, pc, pn, pf⟩)).2 ≠ 0 then writeD d 1 (encP ⟨pe, pc, pn, pf⟩) else barrD (writeD d 1 (encP ⟨pe, pc, pn, pf⟩)).1 := by
            have e := HS.out
            rw [if_neg (fun h => h HG.out), if_neg HNb.out, HTk.out] at e
            exact e
          have HSv := Lib.hid hS
          clear hS HS HPut HBar
          generalize writeD d 1 (encP ⟨pe, pc, pn, pf⟩) = r at *
          obtain ⟨d', code⟩ := r
          go_wp2_with fail
          go_cut [9] (fun c wx => SvC w w.heap.size d' code c wx)
          case first =>
            go_region_with (first
              | (go_at_call 25; (with_reducible refine (HEn.out HG.out _).mono ?_); rintro e w5 ⟨rfl, hb5⟩; have HR5 := Lib.hid (HR4.out.later (((Below.refl _ _).drew).trans hb5) HR4.out.sz); clear hb5; have x0 := HR5.out.x.cell 0; have x1 := HR5.out.x.cell 1; have x2 := HR5.out.x.cell 2; have x3 := HR5.out.x.cell 3; have y0 := HR5.out.p.cell 0; have y1 := HR5.out.p.cell 1; have y2 := HR5.out.p.cell 2; have y3 := HR5.out.p.cell 3; simp [ptA] at x0 x1 x2 x3 y0 y1 y2 y3)
              | (go_at_call 23; (with_reducible refine (HPt.out _ _ _ _ _ HR5.out.m).mono ?_); rintro e w6 ⟨sa', qa', sc', qc', rfl, hm6, hb6⟩; unfold agR; have HR6 := Lib.hid (HR5.out.later hb6 HR5.out.sz); have HM6 := Lib.hid hm6; have HB6 := Lib.hid hb6; clear hm6 hb6; have x0 := HR6.out.x.cell 0; have x1 := HR6.out.x.cell 1; have x2 := HR6.out.x.cell 2; have x3 := HR6.out.x.cell 3; have f0 := HR6.out.x.frozen 0; have f1 := HR6.out.x.frozen 1; have f2 := HR6.out.x.frozen 2; have f3 := HR6.out.x.frozen 3; simp at x0 x1 x2 x3)
              | fail)
            all_goals
              go_wp2_with fail
              go_meet
              exact ⟨sa', qa', sc', qc', rfl, svp_put HR5.out HB6.out HM6.out⟩
          case rest =>
            obtain ⟨sa', qa', sc', qc', rfl, hp⟩ := hcut
            have HP := Lib.hid hp
            clear hp x0 x1 x2 x3 y0 y1 y2 y3 z0 z1 z2 z3 f0 f1 f2 f3 HPt HR4 HM HCt HEn
            have x0 := HP.out.x.cell 0
            have x1 := HP.out.x.cell 1
            have x2 := HP.out.x.cell 2
            have x3 := HP.out.x.cell 3
            have z0 := HP.out.z.cell 0
            have z1 := HP.out.z.cell 1
            have z2 := HP.out.z.cell 2
            have z3 := HP.out.z.cell 3
            have f0 := HP.out.z.frozen 0
            have f1 := HP.out.z.frozen 1
            have f2 := HP.out.z.frozen 2
            have f3 := HP.out.z.frozen 3
            simp [zRD] at x0 x1 x2 x3 z0 z1 z2 z3
            by_cases hc : code = 0
            · subst hc
              have hS := HSv.out
              rw [if_neg (fun h => h rfl)] at hS
              have HS2 := Lib.hid hS
              clear hS HSv
              go_wp2_with fail
              refine (HBr.out _ _ _ _ _ HP.out.m).mono ?_
              rintro e w8 ⟨sa2, qa2, sc2, qc2, rfl, hm8, hb8⟩
              unfold agR
              have HZ8 := Lib.hid (HP.out.z.later hb8)
              have HM8 := Lib.hid hm8
              have HB8 := Lib.hid (HP.out.b.trans (hb8.mono (Nat.le_trans (Nat.le_of_lt HP.out.x.lt) (Nat.le_refl _))))
              rw [← HS2.out] at HM8
              clear hm8 hb8 x0 x1 x2 x3 z0 z1 z2 z3 f0 f1 f2 f3
              have z0 := HZ8.out.cell 0
              have z1 := HZ8.out.cell 1
              have z2 := HZ8.out.cell 2
              have z3 := HZ8.out.cell 3
              have f0 := HZ8.out.frozen 0
              have f1 := HZ8.out.frozen 1
              have f2 := HZ8.out.frozen 2
              have f3 := HZ8.out.frozen 3
              simp [zRD] at z0 z1 z2 z3
              go_wp2_with fail
              refine bodyPost_ret (v := .tuple #[.agg (agR sa2 qa2 sc2 qc2 sv.1), .int .i64 sv.2]) ?_ rfl ⟨sa2, qa2, sc2, qc2, rfl, ?_⟩
              · rw [HS2.out]; simp [results, Try.results13, go_sem, agR, z0, z1, z2, z3]
              · exact ret_put HZ8.out HM8.out HB8.out (by omega) _ _ _ _
            · have hS := HSv.out
              rw [if_pos hc] at hS
              subst hS
              clear HSv
              go_wp2
              refine bodyPost_ret (v := .tuple #[.agg (agR sa' qa' sc' qc' d'), .int .i64 code]) ?_ rfl ⟨sa', qa', sc', qc', rfl, ?_⟩
              · simp [results, Try.results13, go_sem, agR, x0, x1, x2, x3, z0, z1, z2, z3]
              · exact ret_put HP.out.z HP.out.m HP.out.b (by omega) _ _ _ _
  · have hS := HS.out
    rw [if_pos hg] at hS
    subst hS
    rw [decide_eq_false hg]
    clear hg HS
    go_wp2
    refine bodyPost_ret (v := .tuple #[.agg (agR sa qa sc qc d), .int .i64 22]) ?_ rfl ⟨sa, qa, sc, qc, rfl, ?_⟩
    · simp [results, Try.results13, go_sem, agR, x0, x1, x2, x3, z0, z1, z2, z3]
    · exact ret_put HR1.out.z HR1.out.m HR1.out.b (by omega) _ _ _ _
end Go.Proofs.Ytmkhliabmodbdaa
