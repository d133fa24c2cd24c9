/-
  Points on small disks; what a call of the points' script makes of the disk, in numbers; what stands in memory between the calls of PointPlays.
-/
import Derived.Test.YtmkhliabmodbdaaPtRefW
import Derived.Test.YtmkhliabmodbdaaDkWrite
import Derived.Lib.ConvBytes
import Derived.Test.YtmkhliabmodbdaaPtOp
import Derived.Test.YtmkhliabmodbdaaPtBlocks
namespace Go.Proofs.Ytmkhliabmodbdaa
open Go.RowKit

def cntD (d : Dm) : Pt × Nat := if d.n < 3 then (zPt, 0) else ctK d.N 2
def saveV (d : Dm) (p : Pt) : Dm × Int := if d.n < 3 then (d, 22) else saveD d p
def wipeV (d : Dm) : Dm × Int := if d.n < 3 then (d, 22) else wipeD d
section
variable {C : Nat} {w : World} {L : Dl} {d : Dm} {sa qa : Option Addr} {sc qc : Nat}
theorem load_few (h : Dk C w L d) (hn : d.n < 3) : Calls Try.prog 26 #[.pointer (some ⟨L.bd, 0, none⟩)] w (LoadO zPt false w) := by
  have hb1 := sup_pt w (.cells zp4 PNT)
  have HB1 := Lib.hid hb1
  have HD := Lib.hid (h.later hb1)
  have hn0 : (d.n : Int) < 3 := by omega
  clear h hb1
  go_enter Try.func26, Try.ntmps26
  go_wp2_with fail
  refine (size_any HD.out).mono ?_
  rintro e w1 ⟨rfl, rfl⟩
  go_wp2
  refine bodyPost_ret (v := .tuple #[.agg (ptA zPt), .bool false]) ?_ rfl ⟨rfl, ?_⟩
  · simp [results, Try.results26, go_sem, ptA, zPt]
  · first | exact HB1.out | exact below_4 HB1.out (Nat.le_refl _)
theorem wipe_few (h : Dk C w L d) (hn : d.n < 3) : Calls Try.prog 15 #[.pointer (some ⟨L.bd, 0, none⟩)] w (CodeO C w L d 22) := by
  have HD := Lib.hid h
  have hn0 : (d.n : Int) < 3 := by omega
  clear h
  go_enter Try.func15, Try.ntmps15
  go_wp2_with fail
  refine (size_any HD.out).mono ?_
  rintro e w1 ⟨rfl, rfl⟩
  go_wp2
  go_ret
  exact CodeO.stay HD.out 22
theorem save_few (p : Pt) (h : Dk C w L d) (hn : d.n < 3) : Calls Try.prog 12 #[.pointer (some ⟨L.bd, 0, none⟩), .agg (ptA p)] w (CodeO C w L d 22) := by
  have hb1 := sup_pt w (.cells (ptA p) PNT)
  have HB1 := Lib.hid hb1
  have HD := Lib.hid (h.later hb1)
  have hn0 : (d.n : Int) < 3 := by omega
  clear hb1 h
  by_cases hg : Good4 p
  · have HE := Lib.hid (fun W => encode_good p W hg)
    clear hg
    obtain ⟨pe, pc, pn, pf⟩ := p
    simp only [ptA_def] at *
    go_enter Try.func12, Try.ntmps12
    go_wp2_with fail
    refine (HE.out _).mono ?_
    rintro e w1 ⟨g, rfl, _, _, hb2⟩
    have HD1 := Lib.hid (HD.out.later hb2)
    have HB2 := Lib.hid (HB1.out.trans (hb2.mono HB1.out.size))
    clear hb2 HB1 HD HE
    go_wp2_with fail
    refine (size_any HD1.out).mono ?_
    rintro e w2 ⟨rfl, rfl⟩
    go_wp2
    go_ret
    exact (CodeO.stay HD1.out 22).before HB2.out
  · obtain ⟨pe, pc, pn, pf⟩ := p
    have HE := Lib.hid (fun W => encode_bad pe pc pn pf W hg)
    clear hg
    simp only [ptA_def] at *
    go_enter Try.func12, Try.ntmps12
    go_wp2_with fail
    refine (HE.out _).mono ?_
    rintro e w1 ⟨rfl, hb2⟩
    have HD1 := Lib.hid (HD.out.later hb2)
    have HB2 := Lib.hid (HB1.out.trans (hb2.mono HB1.out.size))
    clear hb2 HB1 HD HE
    go_wp2
    go_ret
    exact (CodeO.stay HD1.out 22).before HB2.out
theorem rcounts_few (hm : Mr w sa qa sc qc d) (hn : d.n < 3) : Calls Try.prog 27 #[.agg #[.slice sa d.n sc, .slice qa d.Q.length qc, .int .i64 d.steps, .int .i64 (lfD d)]] w (RCntO w zPt 0) := by
  have hb1 : Below w.heap.size w (w.alloc (.cells #[.slice sa d.n sc, .slice qa d.Q.length qc, .int .i64 d.steps, .int .i64 (lfD d)] RDT)) := (Below.refl _ _).alloc (Nat.le_refl _) _
  have HB0 := Lib.hid (hb1.alloc hb1.size (.cells zp4 RPT))
  have hn0 : (d.n : Int) < 3 := by omega
  clear hb1 hm
  go_enter Try.func27, Try.ntmps27
  go_wp2
  refine bodyPost_ret (v := .tuple #[.int .i64 0, .agg (ptA zPt)]) ?_ rfl ⟨rfl, ?_⟩
  · simp [results, Try.results27, go_sem, ptA, zPt]
  · first | exact HB0.out | exact below_4 HB0.out (Nat.le_succ _)
theorem rwipe_few (hm : Mr w sa qa sc qc d) (hn : d.n < 3) : Calls Try.prog 16 #[.agg #[.slice sa d.n sc, .slice qa d.Q.length qc, .int .i64 d.steps, .int .i64 (lfD d)]] w (MrO w d 22) := by
  have HV : Hid (Below w.heap.size w ((w.alloc (.cells #[.slice sa d.n sc, .slice qa d.Q.length qc, .int .i64 d.steps, .int .i64 (lfD d)] RDT)).alloc (.cells #[.slice sa d.n sc, .slice qa d.Q.length qc, .int .i64 d.steps, .int .i64 (lfD d)] RDT))) := ((Below.refl _ _).alloc (Nat.le_refl _) _).alloc (by simp) _
  have HM := Lib.hid hm
  have hn0 : (d.n : Int) < 3 := by omega
  clear hm
  go_enter Try.func16, Try.ntmps16
  go_wp2
  refine bodyPost_ret (v := .tuple #[.agg (agR sa qa sc qc d), .int .i64 22]) ?_ rfl ⟨sa, qa, sc, qc, rfl, ?_, ?_⟩
  · simp [results, Try.results16, go_sem, agR]
  · exact HM.out.later HV.out
  · exact HV.out
theorem rsave_few (p : Pt) (hm : Mr w sa qa sc qc d) (hn : d.n < 3) : Calls Try.prog 13 #[.agg #[.slice sa d.n sc, .slice qa d.Q.length qc, .int .i64 d.steps, .int .i64 (lfD d)], .agg (ptA p)] w (MrO w d 22) := by
  have hb1 : Below w.heap.size w (((w.alloc (.cells #[.slice sa d.n sc, .slice qa d.Q.length qc, .int .i64 d.steps, .int .i64 (lfD d)] RDT)).alloc (.cells (ptA p) RPT)).alloc (.cells zRD RDT)) := (((Below.refl _ _).alloc (Nat.le_refl _) _).alloc (by simp) _).alloc (by simp; omega) _
  have HR : Hid (SvR w w.heap.size d sa qa sc qc p (((w.alloc (.cells #[.slice sa d.n sc, .slice qa d.Q.length qc, .int .i64 d.steps, .int .i64 (lfD d)] RDT)).alloc (.cells (ptA p) RPT)).alloc (.cells zRD RDT))) := by
    refine ⟨((blo_laid w RDT #[.slice sa d.n sc, .slice qa d.Q.length qc, .int .i64 d.steps, .int .i64 (lfD d)]).alloc _).alloc _, ?_, ?_, hm.later hb1, hb1⟩
    · have e := blo_laid (w.alloc (.cells #[.slice sa d.n sc, .slice qa d.Q.length qc, .int .i64 d.steps, .int .i64 (lfD d)] RDT)) RPT (ptA p)
      rw [show (w.alloc (.cells #[.slice sa d.n sc, .slice qa d.Q.length qc, .int .i64 d.steps, .int .i64 (lfD d)] RDT)).heap.size = w.heap.size + 1 by simp] at e
      exact e.alloc _
    · have e := blo_laid ((w.alloc (.cells #[.slice sa d.n sc, .slice qa d.Q.length qc, .int .i64 d.steps, .int .i64 (lfD d)] RDT)).alloc (.cells (ptA p) RPT)) RDT zRD
      rw [show ((w.alloc (.cells #[.slice sa d.n sc, .slice qa d.Q.length qc, .int .i64 d.steps, .int .i64 (lfD d)] RDT)).alloc (.cells (ptA p) RPT)).heap.size = w.heap.size + 1 + 1 by simp] at e
      exact e
  have hn0 : (d.n : Int) < 3 := by omega
  clear hm hb1
  obtain ⟨pe, pc, pn, pf⟩ := p
  simp only [ptA_def, zRD_def] at *
  go_enter Try.func13, Try.ntmps13
  go_wp2_with fail
  refine (rgood_any pe pc pn pf _).mono ?_
  rintro e w1 ⟨rfl, hb1⟩
  have HR1 := Lib.hid (HR.out.later hb1 HR.out.sz)
  clear hb1 HR
  have x0 := HR1.out.x.cell 0
  have x1 := HR1.out.x.cell 1
  have x2 := HR1.out.x.cell 2
  have x3 := HR1.out.x.cell 3
  have z0 := HR1.out.z.cell 0
  have z1 := HR1.out.z.cell 1
  have z2 := HR1.out.z.cell 2
  have z3 := HR1.out.z.cell 3
  have f0 := HR1.out.z.frozen 0
  have f1 := HR1.out.z.frozen 1
  have f2 := HR1.out.z.frozen 2
  have f3 := HR1.out.z.frozen 3
  simp [zRD] at x0 x1 x2 x3 z0 z1 z2 z3
  generalize decide (Good4 ⟨pe, pc, pn, pf⟩) = gd at *
  have hgd : gd = true ∨ gd = false := by cases gd <;> simp
  rcases hgd with e | e
  all_goals
    subst e
    go_wp2
    refine bodyPost_ret (v := .tuple #[.agg (agR sa qa sc qc d), .int .i64 22]) ?_ rfl ⟨sa, qa, sc, qc, rfl, ?_⟩
    · simp [results, Try.results13, go_sem, agR, x0, x1, x2, x3, z0, z1, z2, z3]
    · exact ret_put HR1.out.z HR1.out.m HR1.out.b (by omega) _ _ _ _
theorem load_all (h : Dk C w L d) : Calls Try.prog 26 #[.pointer (some ⟨L.bd, 0, none⟩)] w (LoadO (cntD d).1 (decide ((cntD d).2 ≠ 0)) w) := by
  unfold cntD
  by_cases hn : d.n < 3
  · rw [if_pos hn]; exact load_few h hn
  · rw [if_neg hn]; exact load_any h (by omega)
theorem save_all (p : Pt) (h : Dk C w L d) (hok : OkD d) : Calls Try.prog 12 #[.pointer (some ⟨L.bd, 0, none⟩), .agg (ptA p)] w (CodeO C w L (saveV d p).1 (saveV d p).2) := by
  unfold saveV
  by_cases hn : d.n < 3
  · rw [if_pos hn]; exact save_few p h hn
  · rw [if_neg hn]; exact save_any p h (by omega) hok
theorem wipe_all (h : Dk C w L d) (hl : 0 ≤ d.left) (hs : d.steps + 3 ≤ 1000000) (hq : d.Q.length + 3 ≤ 1000000) : Calls Try.prog 15 #[.pointer (some ⟨L.bd, 0, none⟩)] w (CodeO C w L (wipeV d).1 (wipeV d).2) := by
  unfold wipeV
  by_cases hn : d.n < 3
  · rw [if_pos hn]; exact wipe_few h hn
  · rw [if_neg hn]; exact wipe_any h (by omega) hl hs hq
theorem rcounts_all (hm : Mr w sa qa sc qc d) (h : Dn d) (hq : d.Q.length ≤ 1000000) (hb : ∀ i, ∀ x ∈ d.N i, x < 256) : Calls Try.prog 27 #[.agg #[.slice sa d.n sc, .slice qa d.Q.length qc, .int .i64 d.steps, .int .i64 (lfD d)]] w (RCntO w (cntD d).1 (cntD d).2) := by
  unfold cntD
  by_cases hn : d.n < 3
  · rw [if_pos hn]; exact rcounts_few hm hn
  · rw [if_neg hn]; exact rcounts_any hm hq (by omega) (by have := h.few.2; omega) hb
theorem rsave_all (p : Pt) (h : Dn d) (hm : Mr w sa qa sc qc d) (hs : d.steps + 2 ≤ 1000000) (hq : d.Q.length < 100000) (hb : ∀ i, ∀ x ∈ d.N i, x < 256) : Calls Try.prog 13 #[.agg #[.slice sa d.n sc, .slice qa d.Q.length qc, .int .i64 d.steps, .int .i64 (lfD d)], .agg (ptA p)] w (MrO w (saveV d p).1 (saveV d p).2) := by
  unfold saveV
  by_cases hn : d.n < 3
  · rw [if_pos hn]; exact rsave_few p hm hn
  · rw [if_neg hn]; exact rsave_any p h hm hs hq (by omega) hb
theorem rwipe_all (h : Dn d) (hm : Mr w sa qa sc qc d) (hs : d.steps + 3 ≤ 1000000) (hq : d.Q.length + 3 ≤ 100000) : Calls Try.prog 16 #[.agg #[.slice sa d.n sc, .slice qa d.Q.length qc, .int .i64 d.steps, .int .i64 (lfD d)]] w (MrO w (wipeV d).1 (wipeV d).2) := by
  unfold wipeV
  by_cases hn : d.n < 3
  · rw [if_pos hn]; exact rwipe_few hm hn
  · rw [if_neg hn]; exact rwipe_any h hm hs hq (by omega)
end
theorem bytesWorld_below (w : World) (e : TypeId) (s : ByteArray) : Below w.heap.size w (Lib.bytesWorld w e s) :=
  ⟨by simp [Lib.bytesWorld, World.freeze, World.alloc, World.drew, -World.alloc_eq, -World.drew_eq], by simp [Lib.bytesWorld, World.freeze, World.alloc, World.drew, -World.alloc_eq, -World.drew_eq], by simp [Lib.bytesWorld, World.freeze, World.alloc, World.drew, -World.alloc_eq, -World.drew_eq], by rw [Lib.bytesWorld_size]; omega, fun i hi => Lib.bytesWorld_at_old w e s i hi⟩
theorem bytesWorld_sblk (w : World) (l : List Nat) (h64 : l.length = 64) (hb : ∀ x ∈ l, x < 256) : SBlk (Lib.bytesWorld w U8 (strOf l)) w.heap.size l := by
  have hsz : (strOf l).data.toList = l.map UInt8.ofNat := strOf_toList l
  refine ⟨⟨_, _, Lib.bytesWorld_at_new w U8 (strOf l), fun j hj => ?_⟩, h64, hb⟩
  have hj' : j < l.length := by omega
  have hlen : (strOf l).data.size = l.length := by rw [← Array.length_toList, hsz]; simp
  unfold Lib.bytesCells
  rw [Array.getElem?_append_left (by simp [hlen]; omega), cellsB_get l j hj', Array.getElem?_map]
  have h1 : (strOf l).data[j]? = some (UInt8.ofNat l[j]) := by
    rw [← Array.getElem?_toList, hsz]; simp [hj']
  rw [h1]
  have h2 : l[j] < 256 := hb _ (List.getElem_mem hj')
  simp [List.getD, hj']
  omega
theorem strOf_sz (l : List Nat) : (strOf l).size = l.length := by
  have hsz : (strOf l).data.toList = l.map UInt8.ofNat := strOf_toList l
  show (strOf l).data.size = _
  rw [← Array.length_toList, hsz]; simp
structure Sm (B : Nat) (d : Dm) : Prop where
  st : d.steps ≤ B
  ql : d.Q.length ≤ B
  pos : 0 ≤ d.left
theorem Sm.mono {B B' : Nat} {d : Dm} (h : Sm B d) (hb : B ≤ B') : Sm B' d := ⟨by have := h.st; omega, by have := h.ql; omega, h.pos⟩
theorem sm_write {B : Nat} {d : Dm} (h : Sm B d) (k : Int) (l : List Nat) : Sm (B + 1) (writeD d k l).1 := by
  unfold writeD
  split
  · exact h.mono (by omega)
  · split
    · exact h.mono (by omega)
    · rename_i _ hd
      exact ⟨by show d.steps + 1 ≤ _; have := h.st; omega, by show (d.Q ++ [_]).length ≤ _; have := h.ql; simp; omega, putD_pos h.pos (bool_no hd)⟩
theorem sm_barr {B : Nat} {d : Dm} (h : Sm B d) : Sm (B + 1) (barrD d).1 := by
  unfold barrD
  split
  · exact h.mono (by omega)
  · rename_i hd
    exact ⟨by show d.steps + 1 ≤ _; have := h.st; omega, by show 0 ≤ _; omega, barD_pos h.pos (bool_no hd)⟩
theorem sm_arms {B : Nat} {d : Dm} (h : Sm B d) (k : Int) : Sm (B + 1) (armsD d k).1 := by
  unfold armsD
  split
  · exact h.mono (by omega)
  · split
    · exact h.mono (by omega)
    · rename_i hk _
      exact ⟨by show d.steps ≤ _; have := h.st; omega, by show d.Q.length ≤ _; have := h.ql; omega, by show 0 ≤ k; omega⟩
theorem sm_crash (B : Nat) (d : Dm) (keep : List Bool) (torn sec : Int) : Sm B (crashD d keep torn sec) := ⟨by show (0 : Int) ≤ B; omega, Nat.zero_le _, Int.le_refl 0⟩
theorem writeD_n (d : Dm) (k : Int) (l : List Nat) : (writeD d k l).1.n = d.n := by
  unfold writeD
  split
  · rfl
  · split <;> rfl
theorem barrD_n (d : Dm) : (barrD d).1.n = d.n := by unfold barrD; split <;> rfl
theorem armsD_n (d : Dm) (k : Int) : (armsD d k).1.n = d.n := by
  unfold armsD
  split
  · rfl
  · split <;> rfl
theorem sm_putbar {B : Nat} {d : Dm} (h : Sm B d) (k : Int) (l : List Nat) : Sm (B + 2) (barrD (writeD d k l).1).1 := sm_barr (sm_write h k l)
theorem sm_save {B : Nat} {d : Dm} (h : Sm B d) (p : Pt) : Sm (B + 2) (saveV d p).1 := by
  unfold saveV
  by_cases hn : d.n < 3
  · rw [if_pos hn]; exact h.mono (by omega)
  · rw [if_neg hn, save_eq (by omega)]
    split
    · exact h.mono (by omega)
    · split
      · exact h.mono (by omega)
      · split
        · exact (sm_write h _ _).mono (by omega)
        · exact sm_putbar h _ _
theorem sm_wipe {B : Nat} {d : Dm} (h : Sm B d) : Sm (B + 3) (wipeV d).1 := by
  unfold wipeV wipeD wpE
  split
  · exact h.mono (by omega)
  · rw [if_pos rfl]
    split
    · exact (sm_write h _ _).mono (by omega)
    · split
      · exact (sm_write (sm_write h _ _) _ _).mono (by omega)
      · exact sm_barr (sm_write (sm_write h _ _) _ _)
theorem saveV_n (d : Dm) (p : Pt) : (saveV d p).1.n = d.n := by
  unfold saveV
  by_cases hn : d.n < 3
  · rw [if_pos hn]
  · rw [if_neg hn, save_eq (by omega)]
    split
    · rfl
    · split
      · rfl
      · split
        · exact writeD_n _ _ _
        · rw [barrD_n, writeD_n]
theorem wipeV_n (d : Dm) : (wipeV d).1.n = d.n := by
  unfold wipeV wipeD wpE
  split
  · rfl
  · rw [if_pos rfl]
    split
    · exact writeD_n _ _ _
    · split
      · rw [writeD_n, writeD_n]
      · rw [barrD_n, writeD_n, writeD_n]
/-- A call of the script: the disk behind it, the error. -/
def playP (d : Dm) (x : OpP) : Dm × Int :=
  if x.k = 1 then saveV d x.p else if x.k = 2 then wipeV d else if x.k = 3 then armsD d x.n else if x.k = 4 then (crashD d x.keep x.n x.s, 0) else if x.k = 5 then writeD d x.n (byt x.b) else if x.k = 6 ∧ Good4 x.p then writeD d x.n (encP x.p) else (d, 0)
theorem sm_playP {B : Nat} {d : Dm} (h : Sm B d) (x : OpP) : Sm (B + 3) (playP d x).1 := by
  unfold playP
  split
  · exact (sm_save h _).mono (by omega)
  · split
    · exact sm_wipe h
    · split
      · exact (sm_arms h _).mono (by omega)
      · split
        · exact sm_crash _ _ _ _ _
        · split
          · exact (sm_write h _ _).mono (by omega)
          · split
            · exact (sm_write h _ _).mono (by omega)
            · exact h.mono (by omega)
theorem playP_n (d : Dm) (x : OpP) : (playP d x).1.n = d.n := by
  unfold playP
  split
  · exact saveV_n _ _
  · split
    · exact wipeV_n _
    · split
      · exact armsD_n _ _
      · split
        · rfl
        · split
          · exact writeD_n _ _ _
          · split
            · exact writeD_n _ _ _
            · rfl
abbrev OPP := 39
theorem Mr.disk {C : Nat} {W W' : World} {L : Dl} {d d' : Dm} {sa qa : Option Addr} {sc qc : Nat} (h : Mr W sa qa sc qc d') (hD : Dk C W L d) (ho : Out L.has W W') : Mr W' sa qa sc qc d' :=
  h.out ho (fun g cs hb => by
    rcases hb with hb | hb
    · exact hD.apart hb (by decide) (by decide) (by decide)
    · exact hD.apart hb (by decide) (by decide) (by decide))
/-- The program's disk, the document's, the call: each in its place. -/
structure PpS (w : World) (bm bo : Nat) (L : Dl) (d1 d2 : Dm) (sa qa : Option Addr) (sc qc : Nat) (o : Array Value) (W : World) : Prop where
  dk : Dk w.heap.size W L d1
  m : Mr W sa qa sc qc d2
  x : Blo W bm RDT #[.slice sa d2.n sc, .slice qa d2.Q.length qc, .int .i64 d2.steps, .int .i64 (lfD d2)]
  o : Blo W bo OPP o
  b : Below w.heap.size w W
  low : w.heap.size ≤ bm
section
variable {w W W' : World} {bm bo : Nat} {L : Dl} {d1 d2 : Dm} {sa qa : Option Addr} {sc qc : Nat} {o : Array Value}
theorem PpS.sz (h : PpS w bm bo L d1 d2 sa qa sc qc o W) : w.heap.size ≤ W.heap.size := h.b.size
theorem PpS.later (h : PpS w bm bo L d1 d2 sa qa sc qc o W) (hb : Below W.heap.size W W') : PpS w bm bo L d1 d2 sa qa sc qc o W' :=
  ⟨h.dk.later hb, h.m.later hb, h.x.later hb, h.o.later hb, h.b.trans (hb.mono h.sz), h.low⟩
/-- A call of the program's disk. -/
theorem pp_code {d' : Dm} {code : Int} {e : Ending} (h : PpS w bm bo L d1 d2 sa qa sc qc o W) (hO : CodeO w.heap.size W L d' code e W') : e = .returned (.int .i64 code) ∧ ∃ q, PpS w bm bo { L with qv := q } d' d2 sa qa sc qc o W' := by
  obtain ⟨h1, q, h2, h3, _⟩ := hO
  refine ⟨h1, q, h2, h.m.disk h.dk h3, h3.blo h.x (h.dk.apart h.x (by decide) (by decide) (by decide)), h3.blo h.o (h.dk.apart h.o (by decide) (by decide) (by decide)), ?_, h.low⟩
  exact h.b.trans (h3.below h.sz (fun i _ hi => (h.dk.has_lt hi).1))
/-- A call of the document's disk, and the store of what it answers. -/
theorem pp_ref {d' : Dm} {sa' qa' : Option Addr} {sc' qc' : Nat} (h : PpS w bm bo L d1 d2 sa qa sc qc o W) (hb : Below W.heap.size W W') (hm : Mr W' sa' qa' sc' qc' d') :
    PpS w bm bo L d1 d' sa' qa' sc' qc' o ((((W'.setCell ⟨bm, 0, none⟩ (.slice sa' d'.n sc')).setCell ⟨bm, 1, none⟩ (.slice qa' d'.Q.length qc')).setCell ⟨bm, 2, none⟩ (.int .i64 d'.steps)).setCell ⟨bm, 3, none⟩ (.int .i64 (lfD d'))) := by
  have s := h.later hb
  obtain ⟨k1, k2⟩ := ret_put s.x hm s.b s.low (.slice sa' d'.n sc') (.slice qa' d'.Q.length qc') (.int .i64 d'.steps) (.int .i64 (lfD d'))
  have hne : bo ≠ bm := s.o.apart s.x (by decide)
  have ho : ∀ (W : World) (j : Nat) (u : Value), Out (fun i => i = bm) W (W.setCell ⟨bm, j, none⟩ u) := fun W j u => out_put W ⟨bm, j, none⟩ u rfl
  have hn : ¬ L.has bm := s.dk.apart s.x (by decide) (by decide) (by decide)
  refine ⟨?_, k1, dec_fin s.x, (((s.o.far (p := ⟨bm, 0, none⟩) hne _).far (p := ⟨bm, 1, none⟩) hne _).far (p := ⟨bm, 2, none⟩) hne _).far (p := ⟨bm, 3, none⟩) hne _, k2, s.low⟩
  exact (((s.dk.out (ho _ 0 _) (fun i hi e => hn (by rw [← e]; exact hi))).out (ho _ 1 _) (fun i hi e => hn (by rw [← e]; exact hi))).out (ho _ 2 _) (fun i hi e => hn (by rw [← e]; exact hi))).out (ho _ 3 _) (fun i hi e => hn (by rw [← e]; exact hi))
end
def PpC (w : World) (bm bo : Nat) (o : Array Value) (d' : Dm) (code : Int) (dv e c : Value) (W : World) : Prop :=
  ∃ (L : Dl) (sa qa : Option Addr) (sc qc : Nat), dv = .pointer (some ⟨L.bd, 0, none⟩) ∧ e = .int .i64 code ∧ c = .int .i64 code ∧ PpS w bm bo L d' d' sa qa sc qc o W
theorem Sm.ok {B : Nat} {d : Dm} (h : Sm B d) (hB : B ≤ 1000) : OkD d := ⟨h.pos, by have := h.st; omega, by have := h.ql; omega⟩
theorem ctK_fit (N : Nat → List Nat) : ∀ k, FitP (ctK N k).1
  | 0 => fit_zero
  | k + 1 => by
    rw [ctK]
    cases h : decP (N (k + 1)) with
    | none => exact ctK_fit N k
    | some p =>
      show FitP (if (ctK N k).2 = 0 ∨ newB p (ctK N k).1 = true then (p, k + 1) else ctK N k).1
      split
      · exact (decP_some h).1.fit
      · exact ctK_fit N k
theorem cntD_fit (d : Dm) : FitP (cntD d).1 := by
  unfold cntD
  split
  · exact fit_zero
  · exact ctK_fit _ _
theorem neq_rpt (p q : Pt) (hp : FitP p) (hq : FitP q) (W : World) : (binOp .neq RPT (.agg (ptA p)) (.agg (ptA q))).run Try.prog W = .ok (.bool (!decide (p = q))) W := by
  obtain ⟨r, hr, hiff⟩ := run_equalIn_deep (P := Try.prog) 9996 4 RPT key_rpt W 4 4 (.agg (ptA p)) (.agg (ptA q)) _ _ (by simp [Value.formed, Try.underlying42, cells_rpt, ptA]) (by simp [Value.formed, Try.underlying42, cells_rpt, ptA]) (rpt_lits p hp) (rpt_lits q hq)
  have e : r = decide (p = q) := by
    rw [Bool.eq_iff_iff, hiff, decide_eq_true_iff, pt_ext]; simp
  subst e
  rw [run_neq_struct, hr]; rfl
theorem neq_self (p : Pt) (hp : FitP p) (W : World) : (binOp .neq RPT (.agg (ptA p)) (.agg (ptA p))).run Try.prog W = .ok (.bool false) W := by
  have := neq_rpt p p hp hp W
  simpa using this
section
variable {w W W' : World} {bm bo : Nat} {L : Dl} {d1 d2 : Dm} {sa qa : Option Addr} {sc qc : Nat} {o : Array Value}
theorem PpS.fresh {Lc : Dl} {d' : Dm} (h : PpS w bm bo L d1 d2 sa qa sc qc o W) (hD : Dk W.heap.size W' Lc d') (hb : Below W.heap.size W W') : PpS w bm bo Lc d' d2 sa qa sc qc o W' := by
  have s := h.later hb
  exact ⟨hD.deeper h.sz, s.m, s.x, s.o, s.b, s.low⟩
end
end Go.Proofs.Ytmkhliabmodbdaa
