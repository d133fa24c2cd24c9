/-
  Partial segments: Read's parts: what Decode leaves; the region that decodes.
-/
import Derived.Test.YtlkgaefabahkoaaDoorPk04
import Derived.Test.YtlkgaefabahkoaaDoorPk06
import Derived.Deep.RegionLawGrows
import Derived.Deep.DeepCutAuto
namespace Go.Proofs.YtlkgaefabahkoaaDoor
open Go.RowKit

abbrev PT := 36
def DecS (l : List Nat) (w : World) (e : Ending) (w' : World) : Prop :=
  Below w.heap.size w w' ∧ (okB l = false → e = .returned (.tuple #[.agg #[.int .i64 0, .int .i64 0, .int .i64 0, .int .i64 0, .int .i64 0, .slice none 0 0, .slice none 0 0], .int .u32 0, .int .i64 100])) ∧
  (okB l = true → ∃ fa fc ia ic av, e = .returned (.tuple #[.agg (pcs (decM l) fa (decM l).fs.length fc ia (decM l).is.length ic), .int .u32 (sumM (gat l 8) : Nat), .int .i64 0]) ∧
    Fo w' w.heap.size (.slice fa (decM l).fs.length fc) av (decM l).fs (decM l).fs.length ∧ w'.ownsRow w.heap.size IT 1 (.slice ia (decM l).is.length ic) (decM l).is.length (cellsI (decM l).is))
theorem decS_any {w : World} (a : Option Addr) (cap : Nat) (l : List Nat) (hl : l.length = 128) (hc : 128 ≤ cap) (hY : Bytes w a l) : Calls Tryd.prog 42 #[.slice a 128 cap] w (DecS l w) :=
  (decode_any a 128 cap l hl.symm hc hY).mono fun e w' h => by
    obtain ⟨h1, h2, h3⟩ := h
    refine ⟨h1, h2, fun hok => ?_⟩
    obtain ⟨fa, fc, ia, ic, av, SB, hy⟩ := h3 hok
    have l1 : (decM l).fs.length = at' (gat l 8) 4 := filesM_len _ _
    have l2 : (decM l).is.length = at' (gat l 8) 5 := inosM_len _ _ _
    rw [l1, l2]
    exact ⟨fa, fc, ia, ic, av, hy.eq, hy.fo, own_weak hy.ino hy.le⟩
/-- The part that was read, in memory of the call's own. -/
structure PtO (W : World) (base : Nat) (m : Sm) (fa : Option Addr) (fc : Nat) (ia : Option Addr) (ic : Nat) : Prop where
  fo : ∃ av, Fo W base (.slice fa m.fs.length fc) av m.fs m.fs.length
  ino : W.ownsRow base IT 1 (.slice ia m.is.length ic) m.is.length (cellsI m.is)
theorem PtO.later {W W' : World} {base : Nat} {m : Sm} {fa : Option Addr} {fc : Nat} {ia : Option Addr} {ic : Nat} (h : PtO W base m fa fc ia ic) (hb : Below W.heap.size W W') : PtO W' base m fa fc ia ic := by
  obtain ⟨⟨av, h1⟩, h2⟩ := h
  exact ⟨⟨av, h1.later hb⟩, own_later h2 hb⟩
theorem PtO.fis {W : World} {base : Nat} {m : Sm} {fa : Option Addr} {fc : Nat} {ia : Option Addr} {ic : Nat} (h : PtO W base m fa fc ia ic) : Fis W fa m.fs := by
  obtain ⟨⟨av, h1⟩, h2⟩ := h
  exact h1.fis rfl
theorem PtO.ints {W : World} {base : Nat} {m : Sm} {fa : Option Addr} {fc : Nat} {ia : Option Addr} {ic : Nat} (h : PtO W base m fa fc ia ic) : Ints W ia m.is := Ints.own h.ino
theorem PtO.out {X : Nat → Prop} {W W' : World} {base : Nat} {m : Sm} {fa : Option Addr} {fc : Nat} {ia : Option Addr} {ic : Nat} (h : PtO W base m fa fc ia ic) (hb : Out X W W') (hX : ∀ g, X g → g < W.heap.size → g < base) : PtO W' base m fa fc ia ic := by
  obtain ⟨⟨av, h1⟩, h2⟩ := h
  exact ⟨⟨av, h1.out hb hX⟩, own_out h2 hb hX⟩
theorem PtO.weak {W : World} {base s : Nat} {m : Sm} {fa : Option Addr} {fc : Nat} {ia : Option Addr} {ic : Nat} (h : PtO W base m fa fc ia ic) (hs : s ≤ base) : PtO W s m fa fc ia ic := by
  obtain ⟨⟨av, h1⟩, h2⟩ := h
  exact ⟨⟨av, h1.weak hs⟩, own_weak h2 hs⟩
def RdR (l : List Nat) (w1 : World) (s8 s9 s10 : Value) (W : World) : Prop :=
  Below w1.heap.size w1 W ∧ (okB l = false → s10 = .int .i64 100) ∧
  (okB l = true → s10 = .int .i64 0 ∧ s9 = .int .u32 (sumM (gat l 8) : Nat) ∧ ∃ g8 fa fc ia ic, s8 = .pointer (some ⟨g8, 0, none⟩) ∧ Blo W g8 PT (pcs (decM l) fa (decM l).fs.length fc ia (decM l).is.length ic) ∧ PtO W w1.heap.size (decM l) fa fc ia ic ∧ w1.heap.size ≤ g8)
abbrev zpt : Array Value := #[.int .i64 0, .int .i64 0, .int .i64 0, .int .i64 0, .int .i64 0, .slice none 0 0, .slice none 0 0]
abbrev zfd : Array Value := #[.int .i64 0, .int .i64 0, .int .i64 0, .int .i64 0, .int .i64 0, .int .i64 0, .slice none 0 0, .slice none 0 0, .slice none 0 0]
theorem okB_chk {l : List Nat} (h : okB l = true) : chkM (decM l) = 0 := by
  unfold okB at h
  simp only [Bool.and_eq_true, decide_eq_true_eq] at h
  exact h.2.1
theorem below_none {W w' : World} (h : W.grownBy w' none) : Below W.heap.size W w' := ⟨h.os, h.tape, h.output, h.size, fun i hi => h.block i hi (by simp)⟩
def rdL (d : Dm) (a0 : Nat) : List Nat := d.N a0 ++ d.N (a0 + 1)
def rdM (d : Dm) (a0 : Nat) : Sm := decM (rdL d a0)
def rdN (m : Sm) : Nat := m.is.length + blF m.fs
def rdF (d : Dm) (a0 : Nat) : Nat → List Nat := fun i => d.N (a0 + 2 + i)
def readC (d : Dm) (addr : Int) : Int :=
  if hasB d.n addr 2 = false then 100
  else if okB (rdL d addr.toNat) = false then 100
  else if addr.toNat + 2 + rdN (rdM d addr.toNat) > d.n then 100
  else if crc (lsF (rdF d addr.toNat) (rdN (rdM d addr.toNat))).flatten ≠ sumM (gat (rdL d addr.toNat) 8) then 101 else 0
abbrev fdc (addr : Int) (m : Sm) (fa : Option Addr) (fc : Nat) (ia : Option Addr) (ic : Nat) (ba : Option Addr) (n bc : Nat) : Array Value :=
  #[.int .i64 addr, .int .i64 m.e, .int .i64 m.c, .int .i64 m.i, .int .i64 m.p, .int .i64 m.x, .slice fa m.fs.length fc, .slice ia m.is.length ic, .slice ba n bc]
def ReadS (d : Dm) (addr : Int) (w : World) (e : Ending) (w' : World) : Prop :=
  Below w.heap.size w w' ∧ (readC d addr ≠ 0 → e = .returned (.tuple #[.agg zfd, .int .i64 (readC d addr)])) ∧
  (readC d addr = 0 → ∃ fa fc ia ic ba bc G, e = .returned (.tuple #[.agg (fdc addr (rdM d addr.toNat) fa fc ia ic ba (rdN (rdM d addr.toNat)) bc), .int .i64 0]) ∧
    PtO w' w.heap.size (rdM d addr.toNat) fa fc ia ic ∧ RowB w' w.heap.size (.slice ba (rdN (rdM d addr.toNat)) bc) (rdN (rdM d addr.toNat)) G (rdF d addr.toNat))
theorem ReadS.no {d : Dm} {addr : Int} {w w' : World} {c : Int} (hb : Below w.heap.size w w') (hc : readC d addr = c) (h0 : c ≠ 0) : ReadS d addr w (.returned (.tuple #[.agg zfd, .int .i64 c])) w' :=
  ⟨hb, fun _ => by rw [hc], fun h => absurd (hc.symm.trans h) h0⟩
section
variable {C : Nat} {w w' W : World} {L : Dl} {d : Dm}
theorem RowB.weak {base s n : Nat} {v : Value} {G : Nat → Nat} {F : Nat → List Nat} (h : RowB w base v n G F) (hs : s ≤ base) : RowB w s v n G F := ⟨own_weak h.row hs, h.each, fun i hi => Nat.le_trans hs (h.low i hi), h.inj⟩
theorem bblk_src {g : Nat} {l : List Nat} (h : BBlk w g l) : ∀ j u, (cellsB l)[j]? = some u → w.cell? ((⟨g, 0, none⟩ : Addr).add j) = some u := fun j u hj => by
  rw [Addr.add_lit, Nat.zero_add, h.1.cell, List.getElem?_toArray]; exact hj
theorem own_bytes8 {base n cap : Nat} {a : Option Addr} {l : List Nat} (h : w.ownsRow base U8 1 (.slice a n cap) n (cellsB l)) (hb : ∀ x ∈ l, x < 256) (hl : l.length ≤ 1000000) : Bytes w a l := by
  have hlen : n = l.length := by have := h.1; rw [cellsB_length, Nat.mul_one] at this; exact this.symm
  refine ⟨hb, by omega, fun hne => ?_⟩
  rcases id h.2 with ⟨h1, h0⟩ | ⟨g, c, cur, h1, _⟩
  · exact absurd (List.eq_nil_of_length_eq_zero (by omega)) hne
  · cases h1
    exact ⟨g, 0, rfl, fun i hi => by rw [Nat.zero_add, h.cellAt i (by omega), cellsB_get _ _ hi]⟩
theorem below_sets {B g : Nat} {w0 w : World} (hb : Below B w0 w) (hg : B ≤ g) (hB : B ≤ w0.heap.size) (vs : List Value) : Below B w0 (w.setCells g 0 vs) :=
  hb.trans ((out_cells (X := fun j => j = g) vs 0 w rfl).below (Nat.le_trans hB hb.size) (fun _ _ e => by omega))
abbrev set7 (w5 : World) (g : Nat) (v0 v1 v2 v3 v4 v5 v6 : Value) : World := ((((((w5.setCell ⟨g, 0, none⟩ v0).setCell ⟨g, 1, none⟩ v1).setCell ⟨g, 2, none⟩ v2).setCell ⟨g, 3, none⟩ v3).setCell ⟨g, 4, none⟩ v4).setCell ⟨g, 5, none⟩ v5).setCell ⟨g, 6, none⟩ v6
theorem rdr_ab {w1 w5 : World} {l : List Nat} {g B : Nat} {fa : Option Addr} {fc : Nat} {ia : Option Addr} {ic : Nat} (hok : okB l = true) (hz : Blo w5 g PT zpt) (hb : Below w1.heap.size w1 w5) (hg : w1.heap.size ≤ g) (hgB : g < B) (hP : PtO w5 B (decM l) fa fc ia ic) :
    RdR l w1 (.pointer (some ⟨g, 0, none⟩)) (.int .u32 (sumM (gat l 8) : Nat)) (.int .i64 0) (set7 w5 g (.int .i64 (decM l).e) (.int .i64 (decM l).c) (.int .i64 (decM l).i) (.int .i64 (decM l).p) (.int .i64 (decM l).x) (.slice fa (decM l).fs.length fc) (.slice ia (decM l).is.length ic)) := by
  have ho : Out (fun j => j = g) w5 (set7 w5 g (.int .i64 (decM l).e) (.int .i64 (decM l).c) (.int .i64 (decM l).i) (.int .i64 (decM l).p) (.int .i64 (decM l).x) (.slice fa (decM l).fs.length fc) (.slice ia (decM l).is.length ic)) :=
    out_cells (X := fun j => j = g) [.int .i64 (decM l).e, .int .i64 (decM l).c, .int .i64 (decM l).i, .int .i64 (decM l).p, .int .i64 (decM l).x, .slice fa (decM l).fs.length fc, .slice ia (decM l).is.length ic] 0 w5 rfl
  refine ⟨hb.trans (ho.below hb.size (fun _ _ e => by omega)), fun h => (by rw [hok] at h; cases h), fun _ => ⟨rfl, rfl, g, fa, fc, ia, ic, rfl, ?_, (hP.out ho (fun j e _ => by omega)).weak (by omega), hg⟩⟩
  exact ((((((hz.put 0 (.int .i64 (decM l).e)).put 1 (.int .i64 (decM l).c)).put 2 (.int .i64 (decM l).i)).put 3 (.int .i64 (decM l).p)).put 4 (.int .i64 (decM l).x)).put 5 (.slice fa (decM l).fs.length fc)).put 6 (.slice ia (decM l).is.length ic)
theorem rdr_c {w1 w5 : World} {l : List Nat} {B : Nat} {fa : Option Addr} {fc : Nat} {ia : Option Addr} {ic : Nat} (hok : okB l = true) (hb : Below w1.heap.size w1 w5) (hB : w1.heap.size ≤ B) (hP : PtO w5 B (decM l) fa fc ia ic) :
    RdR l w1 (.pointer (some ⟨w5.heap.size, 0, none⟩)) (.int .u32 (sumM (gat l 8) : Nat)) (.int .i64 0) (w5.alloc (.cells (pcs (decM l) fa (decM l).fs.length fc ia (decM l).is.length ic) PT)) :=
  ⟨hb.alloc hb.size _, fun h => (by rw [hok] at h; cases h), fun _ => ⟨rfl, rfl, w5.heap.size, fa, fc, ia, ic, rfl, blo_laid _ _ _, (hP.later (sup_pc _ _)).weak hB, hb.size⟩⟩
theorem rdr_no {w1 w5 : World} {l : List Nat} {s8 s9 : Value} (hok : okB l = false) (hb : Below w1.heap.size w1 w5) : RdR l w1 s8 s9 (.int .i64 100) w5 :=
  ⟨hb, fun _ => rfl, fun h => (by rw [hok] at h; cases h)⟩
set_option maxRecDepth 100000 in
set_option maxHeartbeats 4000000 in
theorem read_yes2 (addr : Int) (h : Dk C w L d) (ht : Tab w) (hz : 0 < w.heap.size) (hh : hasB d.n addr 2 = true) : Calls Tryd.prog 12 #[.pointer (some ⟨L.bd, 0, none⟩), .int .i64 addr] w (ReadS d addr w) := by
  have hy := hasB_yes hh
  obtain ⟨a0, rfl⟩ : ∃ a0 : Nat, addr = (a0 : Int) := ⟨addr.toNat, by omega⟩
  have hb1 := sup_pc w (.cells zfd 38)
  have HB1 := Lib.hid hb1
  have HD := Lib.hid (h.later hb1)
  have HX1 := Lib.hid (blo_laid w 38 zfd)
  have HG := Lib.hid (get_yes (w := w.alloc (.cells zfd 38)) a0 2 (by omega) (h.later hb1))
  have ha4 : a0 ≤ 4096 := by have := h.few.2; omega
  have hlen : ∀ i, (d.N i).length = 64 := h.now.len
  have HC : Hid (readC d (a0 : Int) = if okB (rdL d a0) = false then 100 else if a0 + 2 + rdN (rdM d a0) > d.n then 100 else if crc (lsF (rdF d a0) (rdN (rdM d a0))).flatten ≠ sumM (gat (rdL d a0) 8) then 101 else 0) := by
    show _ = _
    unfold readC
    rw [if_neg (by rw [hh]; simp), Int.toNat_natCast]
  have HT := Lib.hid (show ∀ W, Below w.heap.size w W → Tab W from fun W hb => ht.below hb hz)
  have HGt : Hid (∀ W n, Dk C W L d → a0 + 2 + n ≤ d.n → Calls Tryd.prog 41 #[.pointer (some ⟨L.bd, 0, none⟩), .int .i64 ((a0 : Int) + 2), .int .i64 (n : Int)] W (GetO d (a0 + 2) n W)) := fun W n hD hn => by
    have := get_yes (w := W) (a0 + 2) n hn hD
    rwa [Int.natCast_add] at this
  have HGn : Hid (∀ W (n : Nat), Dk C W L d → d.n < a0 + 2 + n → Calls Tryd.prog 41 #[.pointer (some ⟨L.bd, 0, none⟩), .int .i64 ((a0 : Int) + 2), .int .i64 (n : Int)] W fun e w' => e = .returned (.tuple #[.slice none 0 0, .bool false]) ∧ W = w') := fun W n hD hn => by
    refine get_no (w := W) ((a0 : Int) + 2) (n : Int) (by omega) ?_ hD
    simp only [hasB, Bool.and_eq_false_iff, decide_eq_false_iff_not]
    omega
  obtain ⟨l, hl⟩ : ∃ l, d.N a0 ++ d.N (a0 + 1) = l := ⟨_, rfl⟩
  have hrl : rdL d a0 = l := hl
  have hrm : rdM d a0 = decM l := by unfold rdM; rw [hrl]
  rw [hrl, hrm] at HC
  have HRd : Hid (∀ e w', ReadS d (a0 : Int) w e w' ↔ (Below w.heap.size w w' ∧ (readC d (a0 : Int) ≠ 0 → e = .returned (.tuple #[.agg zfd, .int .i64 (readC d (a0 : Int))])) ∧
    (readC d (a0 : Int) = 0 → ∃ fa fc ia ic ba bc G, e = .returned (.tuple #[.agg (fdc (a0 : Int) (decM l) fa fc ia ic ba (rdN (decM l)) bc), .int .i64 0]) ∧
    PtO w' w.heap.size (decM l) fa fc ia ic ∧ RowB w' w.heap.size (.slice ba (rdN (decM l)) bc) (rdN (decM l)) G (rdF d a0)))) := fun e w' => by
    unfold ReadS
    rw [Int.toNat_natCast, hrm]
  clear h hh hy hb1 ht hz hrl hrm
  go_enter Tryd.func12, Tryd.ntmps12
  go_wp2_with fail
  refine HG.out.mono ?_
  rintro e w1 ⟨ra, rc, G, rfl, hR, hb2⟩
  have HB2 := Lib.hid (HB1.out.trans (hb2.mono HB1.out.size))
  have HX2 := Lib.hid (HX1.out.later hb2)
  have HD2 := Lib.hid (HD.out.later hb2)
  obtain ⟨b, rfl, hc0, hc1, hG0, hG1⟩ : ∃ b, ra = some ⟨b, 0, none⟩ ∧ w1.cell? ⟨b, 0, none⟩ = some (.slice (some ⟨G 0, 0, none⟩) 64 64) ∧ w1.cell? ⟨b, 1, none⟩ = some (.slice (some ⟨G 1, 0, none⟩) 64 64) ∧ BBlk w1 (G 0) (d.N a0) ∧ BBlk w1 (G 1) (d.N (a0 + 1)) := by
    rcases id hR.row.2 with ⟨h1, h0⟩ | ⟨g, c, cur, h1, _⟩
    · omega
    · cases h1
      exact ⟨g, rfl, by rw [hR.row.cellAt 0 (by decide)]; exact cellsG_get G (by decide), by rw [hR.row.cellAt 1 (by decide)]; exact cellsG_get G (by decide), hR.each 0 (by decide), hR.each 1 (by decide)⟩
  clear hR hb2 HX1 HD HG HB1
  have HG0 := Lib.hid hG0
  have HG1 := Lib.hid hG1
  obtain ⟨iu, hi0, hi1, hi2, hi3⟩ := info_parts info_u8f
  have HI0 := Lib.hid hi0
  have HI1 := Lib.hid hi1
  have HI2 := Lib.hid hi2
  have HI3 := Lib.hid hi3
  obtain ⟨l0, hl0⟩ : ∃ l0, d.N a0 = l0 := ⟨_, rfl⟩
  obtain ⟨l1, hl1⟩ : ∃ l1, d.N (a0 + 1) = l1 := ⟨_, rfl⟩
  rw [hl0] at hG0 HG0 hl
  rw [hl1] at hG1 HG1 hl
  have HC0 : Hid (∀ W, Below w1.heap.size w1 W → (∀ j u, (cellsB l0)[j]? = some u → W.cell? ((⟨G 0, 0, none⟩ : Addr).add j) = some u)) := fun W hb => bblk_src (HG0.out.out (X := fun _ => False) (Out.of_below hb) (fun h => h))
  have HC1 : Hid (∀ W, Below w1.heap.size w1 W → (∀ j u, (cellsB l1)[j]? = some u → W.cell? ((⟨G 1, 0, none⟩ : Addr).add j) = some u)) := fun W hb => bblk_src (HG1.out.out (X := fun _ => False) (Out.of_below hb) (fun h => h))
  have HL0 : Hid ((cellsB l0).length = 64 * 1) := by show _ = _; rw [cellsB_length, hG0.2.1]
  have HL1 : Hid ((cellsB l1).length = 64 * 1) := by show _ = _; rw [cellsB_length, hG1.2.1]
  have HLl : Hid ((l0 ++ l1).length = 128) := by show _ = _; rw [List.length_append, hG0.2.1, hG1.2.1]
  have HBy : Hid (∀ x ∈ l0 ++ l1, x < 256) := fun x hx => (List.mem_append.1 hx).elim (hG0.2.2 x) (hG1.2.2 x)
  have HCe : Hid (cellsB l0 ++ cellsB l1 = cellsB l) := by show _ = _; rw [← hl]; simp [cellsB]
  rw [hl] at HLl HBy
  clear hG0 hG1 hi0 hi1 hi2 hi3 hl hl0 hl1 hlen
  go_upto_region 4 with (fail)
  go_cut [8, 9, 10] (fun s8 s9 s10 wx => RdR l w1 s8 s9 s10 wx)
  case first =>
    cases hok : okB l with
    | true =>
      have HOk := Lib.hid hok
      have hc0a : (w1.alloc (.cells #[.int .i64 0, .int .i64 0, .int .i64 0, .int .i64 0, .int .i64 0, .slice none 0 0, .slice none 0 0] PT)).cell? ⟨b, 0, none⟩ = some (.slice (some ⟨G 0, 0, none⟩) 64 64) := cell_later (sup_pc w1 _) hc0
      have hc1a : (w1.alloc (.cells #[.int .i64 0, .int .i64 0, .int .i64 0, .int .i64 0, .int .i64 0, .slice none 0 0, .slice none 0 0] PT)).cell? ⟨b, 1, none⟩ = some (.slice (some ⟨G 1, 0, none⟩) 64 64) := cell_later (sup_pc w1 _) hc1
      clear hok
      go_region_law (first
        | (refine step_append_grows (by rfl) (.tmp 24) (.tmp 27) 49 (by rfl) U8 iu (.int .u8 0) 1 1 Tryd.underlying49 HI0.out HI1.out HI2.out HI3.out (by kernel_rfl) (by decide) (some ⟨G 0, 0, none⟩) 64 64 (cellsB l0) (by simp [go_sem]) (fun e => by cases e) HL0.out (fun b e => by cases e; exact HC0.out _ (by repeat (first | exact Below.refl _ _ | apply Below.drew | refine Below.alloc ?_ (by simp <;> omega) _))) ⟨G 1, 0, none⟩ 64 64 (cellsB l1) (by simp [go_sem]) HL1.out (HC1.out _ (by repeat (first | exact Below.refl _ _ | apply Below.drew | refine Below.alloc ?_ (by simp <;> omega) _))) (cellsB_one _) (by decide) (by decide) (by decide) ?_; intro v4 w4 hown4 hg4; obtain ⟨a4, c4, rfl, hc4⟩ : ∃ a4 c4, v4 = .slice a4 128 c4 ∧ 128 ≤ c4 := own_slice hown4; rw [HCe.out] at hown4; have HB4 := Lib.hid (below_none hg4); have HW4 : Hid (Below w1.heap.size w1 w4) := Below.trans (by repeat (first | exact Below.refl _ _ | apply Below.drew | refine Below.alloc ?_ (by simp <;> omega) _)) (HB4.out.mono (by simp <;> omega)); have HC4 := Lib.hid hc4; have HY4 : Hid (∀ W, Below w4.heap.size w4 W → Bytes W a4 l) := (fun W hb => (own_bytes8 hown4 HBy.out (by rw [HLl.out]; decide)).below hb); clear hown4 hg4 hc4)
        | (go_simp; go_at_call 42; (refine (decS_any a4 c4 l HLl.out HC4.out (HY4.out _ (by repeat (first | exact Below.refl _ _ | apply Below.drew | refine Below.alloc ?_ (by simp <;> omega) _)))).mono ?_); rintro e w5 ⟨hb5, hy5⟩; obtain ⟨fa5, fc5, ia5, ic5, av5, rfl, hF5, hI5⟩ := hy5.2 HOk.out; have HP5 := Lib.hid (PtO.mk ⟨av5, hF5⟩ hI5); have HB5 := Lib.hid hb5; have HW5 : Hid (Below w1.heap.size w1 w5) := (HW4.out.trans (by repeat (first | exact Below.refl _ _ | apply Below.drew | refine Below.alloc ?_ (by have := HW4.out.size; simp; omega) _))).trans (HB5.out.mono (by have := HW4.out.size; simp; omega)); clear hF5 hI5 hb5 hy5; (first | (have HZc := Lib.hid (Blo.later (Blo.drew (blo_laid w1 PT zpt)) HB4.out); have HZ5 := Lib.hid (HZc.out.later HB5.out)) | (have HZc := Lib.hid (Blo.later (blo_laid w1 PT zpt) HB4.out); have HZ5 := Lib.hid (HZc.out.later HB5.out)) | (have HZc := Lib.hid (Blo.drew (blo_laid w4 PT zpt)); have HZ5 := Lib.hid (HZc.out.later HB5.out)) | (have HZc := Lib.hid (blo_laid w4 PT zpt); have HZ5 := Lib.hid (HZc.out.later HB5.out)) | skip); (try (have z0 := HZ5.out.cell 0; have z1 := HZ5.out.cell 1; have z2 := HZ5.out.cell 2; have z3 := HZ5.out.cell 3; have z4 := HZ5.out.cell 4; have z5 := HZ5.out.cell 5; have z6 := HZ5.out.cell 6; have f0 := HZ5.out.frozen 0; have f1 := HZ5.out.frozen 1; have f2 := HZ5.out.frozen 2; have f3 := HZ5.out.frozen 3; have f4 := HZ5.out.frozen 4; have f5 := HZ5.out.frozen 5; have f6 := HZ5.out.frozen 6; simp at z0 z1 z2 z3 z4 z5 z6)))
        | fail)
      all_goals
        go_wp2_with fail
        go_meet
        first
          | ((with_reducible refine rdr_ab HOk.out HZ5.out HW5.out ?_ HZc.out.lt HP5.out); first | exact Nat.le_refl _ | exact HW4.out.size)
          | ((with_reducible refine rdr_c HOk.out HW5.out ?_ HP5.out); exact HW4.out.size)
          | fail
    | false =>
      have HOk := Lib.hid hok
      have hc0a : (w1.alloc (.cells #[.int .i64 0, .int .i64 0, .int .i64 0, .int .i64 0, .int .i64 0, .slice none 0 0, .slice none 0 0] PT)).cell? ⟨b, 0, none⟩ = some (.slice (some ⟨G 0, 0, none⟩) 64 64) := cell_later (sup_pc w1 _) hc0
      have hc1a : (w1.alloc (.cells #[.int .i64 0, .int .i64 0, .int .i64 0, .int .i64 0, .int .i64 0, .slice none 0 0, .slice none 0 0] PT)).cell? ⟨b, 1, none⟩ = some (.slice (some ⟨G 1, 0, none⟩) 64 64) := cell_later (sup_pc w1 _) hc1
      clear hok
      go_region_law (first
        | (refine step_append_grows (by rfl) (.tmp 24) (.tmp 27) 49 (by rfl) U8 iu (.int .u8 0) 1 1 Tryd.underlying49 HI0.out HI1.out HI2.out HI3.out (by kernel_rfl) (by decide) (some ⟨G 0, 0, none⟩) 64 64 (cellsB l0) (by simp [go_sem]) (fun e => by cases e) HL0.out (fun b e => by cases e; exact HC0.out _ (by repeat (first | exact Below.refl _ _ | apply Below.drew | refine Below.alloc ?_ (by simp <;> omega) _))) ⟨G 1, 0, none⟩ 64 64 (cellsB l1) (by simp [go_sem]) HL1.out (HC1.out _ (by repeat (first | exact Below.refl _ _ | apply Below.drew | refine Below.alloc ?_ (by simp <;> omega) _))) (cellsB_one _) (by decide) (by decide) (by decide) ?_; intro v4 w4 hown4 hg4; obtain ⟨a4, c4, rfl, hc4⟩ : ∃ a4 c4, v4 = .slice a4 128 c4 ∧ 128 ≤ c4 := own_slice hown4; rw [HCe.out] at hown4; have HB4 := Lib.hid (below_none hg4); have HW4 : Hid (Below w1.heap.size w1 w4) := Below.trans (by repeat (first | exact Below.refl _ _ | apply Below.drew | refine Below.alloc ?_ (by simp <;> omega) _)) (HB4.out.mono (by simp <;> omega)); have HC4 := Lib.hid hc4; have HY4 : Hid (∀ W, Below w4.heap.size w4 W → Bytes W a4 l) := (fun W hb => (own_bytes8 hown4 HBy.out (by rw [HLl.out]; decide)).below hb); clear hown4 hg4 hc4)
        | (go_simp; go_at_call 42; (refine (decS_any a4 c4 l HLl.out HC4.out (HY4.out _ (by repeat (first | exact Below.refl _ _ | apply Below.drew | refine Below.alloc ?_ (by simp <;> omega) _)))).mono ?_); rintro e w5 ⟨hb5, hy5⟩; obtain rfl := hy5.1 HOk.out; have HB5 := Lib.hid hb5; have HW5 : Hid (Below w1.heap.size w1 w5) := (HW4.out.trans (by repeat (first | exact Below.refl _ _ | apply Below.drew | refine Below.alloc ?_ (by have := HW4.out.size; simp; omega) _))).trans (HB5.out.mono (by have := HW4.out.size; simp; omega)); clear hb5 hy5; (first | (have HZc := Lib.hid (Blo.later (Blo.drew (blo_laid w1 PT zpt)) HB4.out); have HZ5 := Lib.hid (HZc.out.later HB5.out)) | (have HZc := Lib.hid (Blo.later (blo_laid w1 PT zpt) HB4.out); have HZ5 := Lib.hid (HZc.out.later HB5.out)) | (have HZc := Lib.hid (Blo.drew (blo_laid w4 PT zpt)); have HZ5 := Lib.hid (HZc.out.later HB5.out)) | (have HZc := Lib.hid (blo_laid w4 PT zpt); have HZ5 := Lib.hid (HZc.out.later HB5.out)) | skip); (try (have z0 := HZ5.out.cell 0; have z1 := HZ5.out.cell 1; have z2 := HZ5.out.cell 2; have z3 := HZ5.out.cell 3; have z4 := HZ5.out.cell 4; have z5 := HZ5.out.cell 5; have z6 := HZ5.out.cell 6; have f0 := HZ5.out.frozen 0; have f1 := HZ5.out.frozen 1; have f2 := HZ5.out.frozen 2; have f3 := HZ5.out.frozen 3; have f4 := HZ5.out.frozen 4; have f5 := HZ5.out.frozen 5; have f6 := HZ5.out.frozen 6; simp at z0 z1 z2 z3 z4 z5 z6)))
        | fail)
      all_goals
        go_wp2_with fail
        go_meet
        refine rdr_no HOk.out ?_
        repeat (first | with_reducible exact HW5.out | with_reducible exact Below.alloc HW5.out HW5.out.size _ | with_reducible refine Below.setCell ?_ (by first | exact Nat.le_refl _ | exact HW4.out.size) _)
  case rest =>
    obtain ⟨hb3, hno, hyes⟩ := hcut
    have HB3 := Lib.hid (HB2.out.trans (hb3.mono HB2.out.size))
    have HX3 := Lib.hid (HX2.out.later hb3)
    have HD3 := Lib.hid (HD2.out.later hb3)
    have HBc := Lib.hid hb3
    have hlt1 : w.heap.size < w1.heap.size := HX2.out.lt
    clear hb3 HB2 HX2 HD2 HC0 HC1 HL0 HL1 HLl HBy HCe HG0 HG1 hc0 hc1 HI0 HI1 HI2 HI3
    cases hok : okB l with
    | false =>
      obtain rfl := hno hok
      have HCc : Hid (readC d (a0 : Int) = 100) := by
        have := HC.out
        rw [if_pos hok] at this
        exact this
      have hres := HX3.out
      clear hno hyes hok HC HRd
      go_wp2_with (refine wpList_store_row rfl 38 (.tmp 4) (.tmp 35) rfl w.heap.size zfd (by first | rfl | simp [go_sem]) (by first | rfl | simp [go_sem]) 38 _ hres (by kernel_rfl) rfl (by simp [Value.oneCell']) ?_)
      (try simp only [Exit.inBlock, Exit.then])
      exact bodyPost_ret (results_row_tmp (p := 4) (u := 5) (ty := 38) rfl _ _ w.heap.size 38 zfd _ (by simp) (blo_row HX3.out zfd) Tryd.underlying38 rfl (by kernel_rfl)) rfl (ReadS.no (below_setRow HB3.out (Nat.le_refl _) _) HCc.out (by decide))
    | true =>
      obtain ⟨rfl, rfl, g8, fa, fc, ia, ic, rfl, hbx, hP, hg8⟩ := hyes hok
      have HCc : Hid (readC d (a0 : Int) = if a0 + 2 + rdN (decM l) > d.n then 100 else if crc (lsF (rdF d a0) (rdN (decM l))).flatten ≠ sumM (gat l 8) then 101 else 0) := by
        have := HC.out
        rw [if_neg (by rw [hok]; simp)] at this
        exact this
      have hgd := good_of (okB_chk hok)
      have hsz := hgd.size
      have HBl := Lib.hid (fun (W : World) (hb : Below wc.heap.size wc W) => sblocks_any (w := W) (decM l).e (decM l).c (decM l).i (decM l).p (decM l).x fa (decM l).fs.length fc ia (decM l).is.length ic (hP.fis.later hb) rfl (by omega) (by omega))
      have hbn := blF_szF (decM l).fs
      obtain ⟨n, hn⟩ : ∃ n, rdN (decM l) = n := ⟨_, rfl⟩
      have hn2 : 2 + (decM l).is.length + blF (decM l).fs = n + 2 := by rw [← hn]; unfold rdN; omega
      have hn90 : n ≤ 90 := by omega
      rw [hn] at HCc HRd
      rw [hn2] at HBl
      have HP := Lib.hid hP
      have HBx := Lib.hid hbx
      have HG8 := Lib.hid hg8
      have HHN := Lib.hid hn
      generalize sumM (gat l 8) = sm at *
      generalize decM l = m at *
      have c0 := hbx.cell 0
      have c1 := hbx.cell 1
      have c2 := hbx.cell 2
      have c3 := hbx.cell 3
      have c4 := hbx.cell 4
      have c5 := hbx.cell 5
      have c6 := hbx.cell 6
      simp [pcs] at c0 c1 c2 c3 c4 c5 c6
      clear hno hyes hok HC hbx hP hg8 hgd hsz hbn hn hn2
      go_wp2_with fail
      refine (HBl.out wc (Below.refl _ _)).mono ?_
      rintro e w3 ⟨rfl, hb4⟩
      have HB4 := Lib.hid (HB3.out.trans (hb4.mono HB3.out.size))
      have HX4 := Lib.hid (HX3.out.later hb4)
      have HD4 := Lib.hid (HD3.out.later hb4)
      have HP4 := Lib.hid (HP.out.later hb4)
      have HBx4 := Lib.hid (HBx.out.later hb4)
      have HL4 := Lib.hid (HBc.out.trans (hb4.mono HBc.out.size))
      clear hb4 c0 c1 c2 c3 c4 c5 c6 HBl HB3 HX3 HD3 HP HBx HBc
      have c0 := HBx4.out.cell 0
      have c1 := HBx4.out.cell 1
      have c2 := HBx4.out.cell 2
      have c3 := HBx4.out.cell 3
      have c4 := HBx4.out.cell 4
      have c5 := HBx4.out.cell 5
      have c6 := HBx4.out.cell 6
      simp [pcs] at c0 c1 c2 c3 c4 c5 c6
      by_cases h3 : a0 + 2 + n > d.n
      · have HCd : Hid (readC d (a0 : Int) = 100) := by
          have := HCc.out
          rw [if_pos h3] at this
          exact this
        have HGo := Lib.hid (HGn.out w3 n HD4.out (by omega))
        have hres := HX4.out
        clear HCc HGt HGn h3 HRd c0 c1 c2 c3 c4 c5 c6
        go_wp2_with fail
        refine HGo.out.mono ?_
        rintro e w5 ⟨rfl, rfl⟩
        clear HGo
        go_wp2_with (refine wpList_store_row rfl 38 (.tmp 4) (.tmp 48) rfl w.heap.size zfd (by first | rfl | simp [go_sem]) (by first | rfl | simp [go_sem]) 38 _ hres (by kernel_rfl) rfl (by simp [Value.oneCell']) ?_)
        (try simp only [Exit.inBlock, Exit.then])
        exact bodyPost_ret (results_row_tmp (p := 4) (u := 5) (ty := 38) rfl _ _ w.heap.size 38 zfd _ (by simp) (blo_row HX4.out zfd) Tryd.underlying38 rfl (by kernel_rfl)) rfl (ReadS.no (below_setRow HB4.out (Nat.le_refl _) _) HCd.out (by decide))
      · have HGo := Lib.hid (HGt.out w3 n HD4.out (by omega))
        replace HCc : Hid (readC d (a0 : Int) = if crc (lsF (rdF d a0) n).flatten ≠ sm then 101 else 0) := by
          have := HCc.out
          rw [if_neg h3] at this
          exact this
        clear HGt HGn h3
        go_wp2_with fail
        refine HGo.out.mono ?_
        rintro e w5 ⟨ba, bc, G2, rfl, hR5, hb5⟩
        have HB5 := Lib.hid (HB4.out.trans (hb5.mono HB4.out.size))
        have HX5 := Lib.hid (HX4.out.later hb5)
        have HP5 := Lib.hid (HP4.out.later hb5)
        have HBx5 := Lib.hid (HBx4.out.later hb5)
        have HL5 : Hid (w1.heap.size ≤ w3.heap.size) := HL4.out.size
        have HR5 : Hid (RowB w5 w3.heap.size (.slice ba n bc) n G2 (rdF d a0)) := hR5
        have HPa := Lib.hid (parts_any ba bc n _ _ (lsF (rdF d a0) n) w5 (HT.out w5 HB5.out) (HR5.out.lists (by omega)))
        rw [flat_all _ n (lsF_length _ _).symm] at HPa
        clear hb5 hR5 c0 c1 c2 c3 c4 c5 c6 HGo HB4 HX4 HD4 HP4 HBx4 HL4
        have c0 := HBx5.out.cell 0
        have c1 := HBx5.out.cell 1
        have c2 := HBx5.out.cell 2
        have c3 := HBx5.out.cell 3
        have c4 := HBx5.out.cell 4
        have c5 := HBx5.out.cell 5
        have c6 := HBx5.out.cell 6
        simp [pcs] at c0 c1 c2 c3 c4 c5 c6
        have hres := HX5.out
        generalize crc (lsF (rdF d a0) n).flatten = cr at *
        by_cases hcr : cr = sm
        · have HCd : Hid (readC d (a0 : Int) = 0) := by
            have := HCc.out
            rw [if_neg (fun h => h hcr)] at this
            exact this
          subst hcr
          clear HCc
          go_wp2_with fail
          refine HPa.out.mono ?_
          rintro e w6 ⟨rfl, rfl⟩
          clear HPa
          go_wp2_with (refine wpList_store_row rfl 38 (.tmp 4) (.tmp 57) rfl w.heap.size (fdc (a0 : Int) m fa fc ia ic ba n bc) (by first | rfl | simp [go_sem]) (by first | rfl | simp [go_sem]) 38 _ hres (by kernel_rfl) rfl (by simp [Value.oneCell']) ?_)
          (try simp only [Exit.inBlock, Exit.then])
          have ho : Out (fun j => j = w.heap.size) w5 (w5.setRow w.heap.size (fdc (a0 : Int) m fa fc ia ic ba n bc)) := out_row w5 w.heap.size _ rfl
          refine bodyPost_ret (results_row_tmp (p := 4) (u := 5) (ty := 38) rfl _ _ w.heap.size 38 (fdc (a0 : Int) m fa fc ia ic ba n bc) _ (by simp) (blo_row HX5.out _) Tryd.underlying38 rfl (by kernel_rfl)) rfl ((HRd.out _ _).2 ⟨below_setRow HB5.out (Nat.le_refl _) _, fun h => absurd HCd.out h, fun _ => ⟨fa, fc, ia, ic, ba, bc, G2, rfl, (HP5.out.out ho (fun j e _ => by omega)).weak (by omega), (HR5.out.out ho (fun g hg e => ?_) (fun i hi e => ?_)).weak (by have := HL5.out; omega)⟩⟩)
          · have := (own_lt HR5.out.row hg).1
            have := HL5.out
            omega
          · have := HR5.out.low i hi
            have := HL5.out
            omega
        · have HCd : Hid (readC d (a0 : Int) = 101) := by
            have := HCc.out
            rw [if_pos hcr] at this
            exact this
          have hne : ((cr : Int) != (sm : Int)) = true := by simp; omega
          clear HCc hcr HRd HR5 HP5
          go_wp2_with fail
          refine HPa.out.mono ?_
          rintro e w6 ⟨rfl, rfl⟩
          clear HPa
          go_wp2_with (refine wpList_store_row rfl 38 (.tmp 4) (.tmp 53) rfl w.heap.size zfd (by first | rfl | simp [go_sem]) (by first | rfl | simp [go_sem]) 38 _ hres (by kernel_rfl) rfl (by simp [Value.oneCell']) ?_)
          (try simp only [Exit.inBlock, Exit.then])
          exact bodyPost_ret (results_row_tmp (p := 4) (u := 5) (ty := 38) rfl _ _ w.heap.size 38 zfd _ (by simp) (blo_row HX5.out zfd) Tryd.underlying38 rfl (by kernel_rfl)) rfl (ReadS.no (below_setRow HB5.out (Nat.le_refl _) _) HCd.out (by decide))
set_option maxRecDepth 100000 in
set_option maxHeartbeats 4000000 in
theorem read_no2 (addr : Int) (h : Dk C w L d) (hh : hasB d.n addr 2 = false) : Calls Tryd.prog 12 #[.pointer (some ⟨L.bd, 0, none⟩), .int .i64 addr] w (ReadS d addr w) := by
  have hb1 := sup_pc w (.cells zfd 38)
  have HB1 := Lib.hid hb1
  have HX1 := Lib.hid (blo_laid w 38 zfd)
  have HG := Lib.hid (get_no (w := w.alloc (.cells zfd 38)) addr 2 (by omega) hh (h.later hb1))
  have HCd : Hid (readC d addr = 100) := by
    show _ = _
    unfold readC
    rw [if_pos hh]
  have hres := HX1.out
  clear h hh hb1
  go_enter Tryd.func12, Tryd.ntmps12
  go_wp2_with fail
  refine HG.out.mono ?_
  rintro e w1 ⟨rfl, rfl⟩
  clear HG
  go_wp2_with (refine wpList_store_row rfl 38 (.tmp 4) (.tmp 20) rfl w.heap.size zfd (by first | rfl | simp [go_sem]) (by first | rfl | simp [go_sem]) 38 _ hres (by kernel_rfl) rfl (by simp [Value.oneCell']) ?_)
  (try simp only [Exit.inBlock, Exit.then])
  exact bodyPost_ret (results_row_tmp (p := 4) (u := 5) (ty := 38) rfl _ _ w.heap.size 38 zfd _ (by simp) (blo_row HX1.out zfd) Tryd.underlying38 rfl (by kernel_rfl)) rfl (ReadS.no (below_setRow HB1.out (Nat.le_refl _) _) HCd.out (by decide))
theorem segRead_any (addr : Int) (h : Dk C w L d) (ht : Tab w) (hz : 0 < w.heap.size) : Calls Tryd.prog 12 #[.pointer (some ⟨L.bd, 0, none⟩), .int .i64 addr] w (ReadS d addr w) := by
  cases hh : hasB d.n addr 2 with
  | true => exact read_yes2 addr h ht hz hh
  | false => exact read_no2 addr h hh
end
end Go.Proofs.YtlkgaefabahkoaaDoor
