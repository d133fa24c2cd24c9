/-
  SgAwk · SgPc · SgOwnM · BaseLaid: these texts in one.
-/
import Derived.Test.YtlkgaefabahkoaaDoorPk08
import Derived.Test.YtlkgaefabahkoaaDoorPk10
import Derived.Test.YtlkgaefabahkoaaDoorPk06
import Derived.Test.YtlkgaefabahkoaaDoorPk01
import Derived.OpenShut
import Derived.Lib.SmallJoins
import Derived.Test.YtlkgaefabahkoaaDoorPk02
import Derived.Test.YtlkgaefabahkoaaDoorRows
import Derived.ProofKit
import Derived.LaidMore
import Derived.Stop.Joined
/-
  Partial segments: a Write of a row of one's own; what a Write left is read; awake.
-/
namespace Go.Proofs.YtlkgaefabahkoaaDoor
open Go.RowKit

def ReadY (a0 : Nat) (m : Sm) (ls : List (List Nat)) (w : World) (e : Ending) (w' : World) : Prop :=
  ∃ fa fc ia ic ba bc G, e = .returned (.tuple #[.agg (fdc (a0 : Int) m fa fc ia ic ba ls.length bc), .int .i64 0]) ∧ PtO w' w.heap.size m fa fc ia ic ∧ RowB w' w.heap.size (.slice ba ls.length bc) ls.length G (nthL ls) ∧ Below w.heap.size w w'
section
variable {C base n : Nat} {w w' W : World} {L : Dl} {d : Dm}
theorem read_back {a0 : Nat} {m : Sm} {ls : List (List Nat)} (hB : Back d a0 m ls) (h : Dk C w L d) (ht : Tab w) (hz : 0 < w.heap.size) :
    Calls Tryd.prog 12 #[.pointer (some ⟨L.bd, 0, none⟩), .int .i64 (a0 : Int)] w (ReadY a0 m ls w) :=
  (segRead_any (a0 : Int) h ht hz).mono fun e w' hS => by
    obtain ⟨h1, -, h3⟩ := hS
    obtain ⟨fa, fc, ia, ic, ba, bc, G, he, hP, hR⟩ := h3 hB.code
    rw [Int.toNat_natCast, hB.part] at he hP hR
    rw [hB.many] at he hR
    exact ⟨fa, fc, ia, ic, ba, bc, G, he, hP, hR.congr (fun i hi => (hB.f i hi).symm), h1⟩
theorem write_row (addr : Int) (m : Sm) (fa : Option Addr) (fn fc : Nat) (ia : Option Addr) (inn ic : Nat) (hF : Fis w fa m.fs) (hn : fn = m.fs.length) (hs : szF m.fs ≤ 1000000) (hI : Ints w ia m.is) (hin : inn = m.is.length) (hi : inn ≤ 1000000) (hlb : ∀ x ∈ m.fs, ∀ n ∈ x.lb, -9223372036854775808 ≤ n)
    {ba : Option Addr} {bc : Nat} {G : Nat → Nat} {F : Nat → List Nat} (hR : RowB w base (.slice ba n bc) n G F) (hn1 : n ≤ 1000000) (ht : Tab w) (hz : 0 < w.heap.size) (hr : Rm d (n + 6)) (h : Dk C w L d) :
    Calls Tryd.prog 17 #[.pointer (some ⟨L.bd, 0, none⟩), .int .i64 addr, part m.e m.c m.i m.p m.x fa fn fc ia inn ic, .slice ba n bc] w (CodeO C w L (segW d addr m (lsF F n)).1 (segW d addr m (lsF F n)).2) :=
  segWrite_any addr m fa fn fc ia inn ic hF hn hs hI hin hi hlb ba n bc _ _ _ (hR.lsk hn1 h) ht hz hr h
theorem lsF_byte {F : Nat → List Nat} (h : ∀ i, ∀ x ∈ F i, x < 256) (n : Nat) : ∀ l ∈ lsF F n, ∀ x ∈ l, x < 256 := fun l hl x hx => by
  obtain ⟨i, _, rfl⟩ := List.mem_map.1 hl
  exact h i x hx
theorem rnd_byte {dt : List Nat} (h : ∀ x ∈ dt, x < 256) (n : Nat) (hn : n ≤ 198) : ∀ l ∈ lsF (rnd dt) n, ∀ x ∈ l, x < 256 := fun l hl => by
  obtain ⟨i, hi, rfl⟩ := List.mem_map.1 hl
  rw [List.mem_range] at hi
  exact byt_byte fun x hx => by
    rcases List.mem_cons.1 hx with rfl | hx
    · omega
    · exact h x hx
end
def AM : Sm := ⟨1, 2, 0, 1, 8, [], [2, 3]⟩
def AL : List (List Nat) := lsF (rnd [7]) 2
theorem AM_chk : chkM AM = 0 := by decide +kernel
theorem AM_wr : wrB 10 3 AM.x AM.fs AM.is AL = true := by decide +kernel
theorem AL_byte : ∀ l ∈ AL, ∀ x ∈ l, x < 256 := rnd_byte (by decide) 2 (by decide)
def AD : Dm := (segW (newD 10) 3 AM AL).1
theorem AD_ok : (segW (newD 10) 3 AM AL).2 = 0 ∧ AD.steps = 8 := by
  have h := segW_ok (d := newD 10) (addr := 3) (m := AM) (ls := AL) rfl AM_chk AM_wr
  exact ⟨h.1, by unfold AD; rw [h.2.2.1]; rfl⟩
theorem AD_back : Back AD 3 AM AL := (segW_here (d := newD 10) (a0 := 3) AD_ok.1 AL_byte).back
theorem rm_new (n k : Nat) (h : k ≤ 1000000) : Rm (newD n) k := ⟨Int.le_refl 0, by show (0 : Int) + k ≤ 1000000; omega, by show 0 + k ≤ 1000000; omega⟩
theorem two_ints (w : World) : Ints (w.alloc (.cells #[.int .i64 2, .int .i64 3] IT)) (some ⟨w.heap.size, 0, none⟩) [2, 3] := Ints.laid w [2, 3] _ _ rfl
abbrev pcA (b : Nat) : Array Value := #[.int .i64 1, .int .i64 2, .int .i64 0, .int .i64 1, .int .i64 8, .slice none 0 0, .slice (some ⟨b, 0, none⟩) 2 2]
set_option maxRecDepth 100000 in
set_option maxHeartbeats 4000000 in
theorem awake_any (w : World) (ht : Tab w) (hz : 0 < w.heap.size) : Calls Tryd.prog 9 #[] w fun e w' => e = .returned (.bool true) ∧ Below w.heap.size w w' := by
  have HT := Lib.hid (show ∀ W, Below w.heap.size w W → Tab W ∧ 0 < W.heap.size from fun W hb => ⟨ht.below hb hz, by have := hb.size; omega⟩)
  clear ht hz
  go_enter Tryd.func9, Tryd.ntmps9
  go_wp2_with fail
  refine (new_any 10 w (by decide) (by decide)).mono ?_
  rintro e w1 ⟨L, rfl, hD, hb⟩
  have hb2 : Below w1.heap.size w1 ((w1.alloc (.cells #[.int .i64 2, .int .i64 3] IT)).alloc (.cells (pcA w1.heap.size) PT)) := ((Below.refl _ _).alloc (Nat.le_refl _) _).alloc (by simp) _
  have HD := Lib.hid (hD.later hb2)
  have HB := Lib.hid (hb.trans (hb2.mono hb.size))
  have HGi := Lib.hid ((blo_laid w1 IT #[.int .i64 2, .int .i64 3]).alloc (.cells (pcA w1.heap.size) PT))
  have HI := Lib.hid ((two_ints w1).below (sup_pc _ (.cells (pcA w1.heap.size) PT)))
  have hx := blo_laid (w1.alloc (.cells #[.int .i64 2, .int .i64 3] IT)) PT (pcA w1.heap.size)
  rw [World.size_alloc] at hx
  have HX := Lib.hid hx
  clear hD hb hb2 hx
  have hg3 : w1.heap.size + 1 < ((w1.alloc (.cells #[.int .i64 2, .int .i64 3] IT)).alloc (.cells (pcA w1.heap.size) PT)).heap.size := by simp
  go_upto_region 5 with (fail)
  generalize ((w1.alloc (.cells #[.int .i64 2, .int .i64 3] IT)).alloc (.cells (pcA w1.heap.size) PT)) = w2 at *
  generalize w1.heap.size + 1 = g3 at *
  generalize w1.heap.size = gi at *
  have HK : Hid (∀ W, Blo W g3 PT (pcA gi) → (W.cell? ⟨g3, 0, none⟩ = some (.int .i64 1) ∧ W.cell? ⟨g3, 1, none⟩ = some (.int .i64 2) ∧ W.cell? ⟨g3, 2, none⟩ = some (.int .i64 0) ∧ W.cell? ⟨g3, 3, none⟩ = some (.int .i64 1) ∧ W.cell? ⟨g3, 4, none⟩ = some (.int .i64 8) ∧ W.cell? ⟨g3, 5, none⟩ = some (.slice none 0 0) ∧ W.cell? ⟨g3, 6, none⟩ = some (.slice (some ⟨gi, 0, none⟩) 2 2))) := fun W hX => ⟨hX.cell 0, hX.cell 1, hX.cell 2, hX.cell 3, hX.cell 4, hX.cell 5, hX.cell 6⟩
  have HKb := Lib.hid (fun W hb => HK.out W (HX.out.later hb))
  have HK7 := Lib.hid (HKb.out (w2.alloc (.cells #[.int .u8 7] U8)).drew ((sup_pc w2 _).drew))
  have HK8 := Lib.hid (HKb.out (w2.alloc (.cells #[.int .u8 7] U8)) (sup_pc w2 _))
  have HBl : Hid (∀ W, Below w2.heap.size w2 W → Bytes W (some ⟨w2.heap.size, 0, none⟩) [7] → Calls Tryd.prog 23 #[.agg (pcA gi), .slice (some ⟨w2.heap.size, 0, none⟩) 1 1] W (BlkO W 2 [7])) := fun W hb hY => blocks_any (w := W) 1 2 0 1 8 [] [2, 3] none 0 0 (some ⟨gi, 0, none⟩) 2 2 (Fis.nil _ _) rfl rfl rfl (by decide) _ 1 1 [7] hY rfl (by decide) (fun e => by cases e) (by decide)
  have HY7 : Hid (Bytes (w2.alloc (.cells #[.int .u8 7] U8)).drew (some ⟨w2.heap.size, 0, none⟩) [7]) := (bytes_one w2 7 (by decide)).below ((Below.refl _ _).drew)
  have HWr : Hid (∀ W base ba bc G, Below w2.heap.size w2 W → RowB W base (.slice ba 2 bc) 2 G (rnd [7]) → Calls Tryd.prog 17 #[.pointer (some ⟨L.bd, 0, none⟩), .int .i64 3, .agg (pcA gi), .slice ba 2 bc] W (CodeO w.heap.size W L AD 0)) := fun W base ba bc G hb hR => by
    have := write_row (w := W) (n := 2) 3 AM none 0 0 (some ⟨gi, 0, none⟩) 2 2 (Fis.nil _ _) rfl (by decide) (HI.out.below hb) rfl (by decide) (fun x hx => by cases hx) hR (by decide) (HT.out W (HB.out.trans (hb.mono HB.out.size))).1 (HT.out W (HB.out.trans (hb.mono HB.out.size))).2 (rm_new 10 8 (by decide)) (HD.out.later hb)
    have e2 : (segW (newD 10) 3 AM (lsF (rnd [7]) 2)).2 = 0 := AD_ok.1
    rw [e2] at this
    exact this
  have HSt : Hid (∀ W L', L'.bd = L.bd → Dk w.heap.size W L' AD → Calls Tryd.prog 34 #[.pointer (some ⟨L.bd, 0, none⟩)] W fun e w' => e = .returned (.int .i64 8) ∧ W = w') := fun W L' hl hD => by
    have := steps_any hD
    rwa [hl, AD_ok.2] at this
  go_region_held (fun W => W.cell? ⟨g3, 0, none⟩ = some (.int .i64 1) ∧ W.cell? ⟨g3, 1, none⟩ = some (.int .i64 2) ∧ W.cell? ⟨g3, 2, none⟩ = some (.int .i64 0) ∧ W.cell? ⟨g3, 3, none⟩ = some (.int .i64 1) ∧ W.cell? ⟨g3, 4, none⟩ = some (.int .i64 8) ∧ W.cell? ⟨g3, 5, none⟩ = some (.slice none 0 0) ∧ W.cell? ⟨g3, 6, none⟩ = some (.slice (some ⟨gi, 0, none⟩) 2 2))
    (first | exact HKb.out _ ((Below.refl _ _).drew) | exact HK7.out | exact HK8.out | exact HK.out _ HX3.out | exact HK.out _ HX4.out | fail)
    (first
      | (go_at_call 23; (with_reducible refine (HBl.out _ (by repeat (first | exact Below.refl _ _ | apply Below.drew | refine Below.alloc ?_ (by simp <;> omega) _)) HY7.out).mono ?_); rintro e w3 ⟨ba, bc, G, rfl, hR3, hb3⟩; have HR3 := Lib.hid hR3; have HB3 := Lib.hid (show Below w2.heap.size w2 w3 from Below.trans (by repeat (first | exact Below.refl _ _ | apply Below.drew | refine Below.alloc ?_ (by simp <;> omega) _)) (hb3.mono (by simp <;> omega))); have HX3 := Lib.hid (HX.out.later HB3.out); clear hR3 hb3)
      | (go_at_call 17; (with_reducible refine (HWr.out _ _ _ _ _ HB3.out HR3.out).mono ?_); rintro e w4 ⟨rfl, q4, hD4, hO4, hq4⟩; have HD4 := Lib.hid hD4; have HS4 := Lib.hid (HSt.out w4 { L with qv := q4 } rfl hD4); have HB4 := Lib.hid ((HB.out.trans (HB3.out.mono HB.out.size)).trans (hO4.below (Nat.le_trans HB.out.size HB3.out.size) (fun i _ hi => ((HD.out.later HB3.out).has_lt hi).1))); have HI4 := Lib.hid (hO4.blo (HGi.out.later HB3.out) ((HD.out.later HB3.out).apart (HGi.out.later HB3.out) (by decide) (by decide) (by decide))); have HX4 := Lib.hid (hO4.blo HX3.out ((HD.out.later HB3.out).apart HX3.out (by decide) (by decide) (by decide))); clear hD4 hO4 hq4)
      | (go_at_call 34; (with_reducible refine HS4.out.mono ?_); rintro e w5 ⟨rfl, rfl⟩)
      | fail)
  rename_i hHeld
  have HRd : Hid (Calls Tryd.prog 12 #[.pointer (some ⟨L.bd, 0, none⟩), .int .i64 3] w4 fun e w' => ∃ fa fc ia ic ba bc, e = .returned (.tuple #[.agg #[.int .i64 3, .int .i64 1, .int .i64 2, .int .i64 0, .int .i64 1, .int .i64 8, .slice fa 0 fc, .slice ia 2 ic, .slice ba 2 bc], .int .i64 0]) ∧ Ints w' ia [2, 3] ∧ Below w4.heap.size w4 w') :=
    (read_back AD_back HD4.out (HT.out w4 HB4.out).1 (HT.out w4 HB4.out).2).mono fun e w' hY => by
      obtain ⟨fa, fc, ia, ic, ba, bc, G, he, hP, _, hb⟩ := hY
      exact ⟨fa, fc, ia, ic, ba, bc, he, hP.ints, hb⟩
  have HI4b : Hid (Ints w4 (some ⟨gi, 0, none⟩) [2, 3]) := fun _ => ⟨gi, 0, rfl, fun i hi => by
    rw [Nat.zero_add, HI4.out.cell]
    match i, hi with
    | 0, _ => rfl
    | 1, _ => rfl⟩
  clear hHeld HK HKb HK7 HK8 HBl HWr HSt HS4 HR3 HB3 HX3 HY7 HX HGi HI HD HB hg3 HD4 HT HI4
  go_wp2_with fail
  refine HRd.out.mono ?_
  rintro e w5 ⟨fa, fc, ia, ic, ba5, bc5, rfl, hI5, hb5⟩
  have HB5 := Lib.hid (HB4.out.trans (hb5.mono HB4.out.size))
  have HX5 := Lib.hid (HX4.out.later hb5)
  have HI5 := Lib.hid (HI4b.out.below hb5)
  have HJ5 := Lib.hid hI5
  clear hb5 hI5 HRd HB4 HX4 HI4b
  go_upto_region 8 with (fail)
  have hb6 := sup_pc w5 (.cells #[.int .i64 3, .int .i64 1, .int .i64 2, .int .i64 0, .int .i64 1, .int .i64 8, .slice fa 0 fc, .slice ia 2 ic, .slice ba5 2 bc5] 38)
  have HB6 := Lib.hid (HB5.out.trans (hb6.mono HB5.out.size))
  have HX6 := Lib.hid (HX5.out.later hb6)
  have HF6 := Lib.hid (blo_laid w5 38 #[.int .i64 3, .int .i64 1, .int .i64 2, .int .i64 0, .int .i64 1, .int .i64 8, .slice fa 0 fc, .slice ia 2 ic, .slice ba5 2 bc5])
  have HI6 := Lib.hid (HI5.out.below hb6)
  have HJ6 := Lib.hid (HJ5.out.below hb6)
  clear hb6 HB5 HX5 HI5 HJ5
  generalize w5.alloc (.cells #[.int .i64 3, .int .i64 1, .int .i64 2, .int .i64 0, .int .i64 1, .int .i64 8, .slice fa 0 fc, .slice ia 2 ic, .slice ba5 2 bc5] 38) = w6 at *
  generalize w5.heap.size = g5 at *
  have c0 := HX6.out.cell 0
  have c1 := HX6.out.cell 1
  have c2 := HX6.out.cell 2
  have c3 := HX6.out.cell 3
  have c4 := HX6.out.cell 4
  have c5 := HX6.out.cell 5
  have c6 := HX6.out.cell 6
  have d1 := HF6.out.cell 1
  have d2 := HF6.out.cell 2
  have d3 := HF6.out.cell 3
  have d4 := HF6.out.cell 4
  have d5 := HF6.out.cell 5
  have d6 := HF6.out.cell 6
  have d7 := HF6.out.cell 7
  have d8 := HF6.out.cell 8
  simp [pcA] at c0 c1 c2 c3 c4 c5 c6 d1 d2 d3 d4 d5 d6 d7 d8
  have HSm : Hid (Calls Tryd.prog 35 #[.agg #[.int .i64 1, .int .i64 2, .int .i64 0, .int .i64 1, .int .i64 8, .slice fa 0 fc, .slice ia 2 ic], .agg #[.int .i64 1, .int .i64 2, .int .i64 0, .int .i64 1, .int .i64 8, .slice none 0 0, .slice (some ⟨gi, 0, none⟩) 2 2]] w6 fun e w' => e = .returned (.bool true) ∧ Below w6.heap.size w6 w') :=
    (same_any (w := w6) AM AM fa 0 fc ia 2 ic none 0 0 (some ⟨gi, 0, none⟩) 2 2 (Fis.nil _ _) (Fis.nil _ _) rfl rfl (by decide) (fun x hx => by cases hx) HJ6.out HI6.out rfl rfl (by decide)).mono fun e w' h => by
      obtain ⟨⟨b, rfl, hb⟩, h2⟩ := h
      rw [hb.2 rfl]
      exact ⟨rfl, h2⟩
  go_wp2_with fail
  refine HSm.out.mono ?_
  rintro e w7 ⟨rfl, hb7⟩
  have HB7 := Lib.hid (HB6.out.trans (hb7.mono HB6.out.size))
  have e8 := (HF6.out.later hb7).cell 8
  simp at e8
  clear hb7 HB6 HX6 HF6 HI6 HJ6 HSm c0 c1 c2 c3 c4 c5 c6 d1 d2 d3 d4 d5 d6 d7 d8
  go_wp2
  go_ret
  exact ⟨rfl, HB7.out⟩
end Go.Proofs.YtlkgaefabahkoaaDoor
/-
  A piece (an address, a summary's part, data) that came in, opened.
-/
namespace Go.Proofs.YtlkgaefabahkoaaDoor
open Go.RowKit

/-- What the walk is told of a piece that came in. -/
structure PieceIn (w : World) (ad : Int) (m : Sm) (fa : Option Addr) (fn fc : Nat) (ia : Option Addr) (inn ic : Nat) (da : Option Addr) (dn dc : Nat) (dt : List Nat) : Prop where
  part : PartIn w m fa fn fc ia inn ic
  data : Bytes w da dt
  len : dn = dt.length
  nil : da = none → dn = 0 ∧ dc = 0
  le : dn ≤ 9223372036854775807
  cap : dn ≤ dc
  wa : -9223372036854775808 ≤ ad ∧ ad ≤ 9223372036854775807
abbrev pieceA (ad : Int) (m : Sm) (fa : Option Addr) (fn fc : Nat) (ia : Option Addr) (inn ic : Nat) (da : Option Addr) (dn dc : Nat) : Array Value :=
  #[.int .i64 ad, .int .i64 m.e, .int .i64 m.c, .int .i64 m.i, .int .i64 m.p, .int .i64 m.x, .slice fa fn fc, .slice ia inn ic, .slice da dn dc]
section
open Go.ChangeShapes Go.WideShapes Go.ChangeAt
set_option maxRecDepth 100000 in
theorem part_of_trod {H : Type} {enc : TypeId × Value → H} {w : World} {base fuel : Nat} {c0 c1 c2 c3 c4 c5 c6 : Value} {x : DataW H × List MemPlace}
    (hf : DataW.trod enc Tryd.prog w base (fun _ => true) true fuel 36 [c0, c1, c2, c3, c4, c5, c6] = some x) :
    ∃ (m : Sm) (fa : Option Addr) (fn fc : Nat) (ia : Option Addr) (inn ic : Nat), [c0, c1, c2, c3, c4, c5, c6] = [.int .i64 m.e, .int .i64 m.c, .int .i64 m.i, .int .i64 m.p, .int .i64 m.x, .slice fa fn fc, .slice ia inn ic] ∧ PartIn w m fa fn fc ia inn ic := by
  have hc7 : Tryd.prog.cellsOf 36 = 7 := by kernel_rfl
  have hci : Tryd.prog.cellsOf 3 = 1 := by kernel_rfl
  have hcf : Tryd.prog.cellsOf 33 = 1 := by kernel_rfl
  have hcl : Tryd.prog.cellsOf 34 = 1 := by kernel_rfl
  obtain ⟨xs, n, _, hx, _, hlen, hg⟩ := DataW.trod_struct Tryd.underlying36 hf
  have hlen7 : xs.length = 7 := hlen
  have h0 := hg 0 _ rfl
  rw [List.getElem?_eq_getElem (by omega)] at h0
  obtain ⟨x0, e0, _, w0⟩ := DataW.trod_int Tryd.underlying3 h0
  simp [Value.cells, hci] at e0
  subst e0
  have h1 := hg 1 _ rfl
  rw [List.getElem?_eq_getElem (by omega)] at h1
  obtain ⟨x1, e1, _, w1⟩ := DataW.trod_int Tryd.underlying3 h1
  simp [Value.cells, hci] at e1
  subst e1
  have h2 := hg 2 _ rfl
  rw [List.getElem?_eq_getElem (by omega)] at h2
  obtain ⟨x2, e2, _, w2⟩ := DataW.trod_int Tryd.underlying3 h2
  simp [Value.cells, hci] at e2
  subst e2
  have h3 := hg 3 _ rfl
  rw [List.getElem?_eq_getElem (by omega)] at h3
  obtain ⟨x3, e3, _, w3⟩ := DataW.trod_int Tryd.underlying3 h3
  simp [Value.cells, hci] at e3
  subst e3
  have h4 := hg 4 _ rfl
  rw [List.getElem?_eq_getElem (by omega)] at h4
  obtain ⟨x4, e4, _, w4⟩ := DataW.trod_int Tryd.underlying3 h4
  simp [Value.cells, hci] at e4
  subst e4
  have h5 := hg 5 _ rfl
  rw [List.getElem?_eq_getElem (by omega)] at h5
  obtain ⟨fa, fn, fc, L, e5, hF⟩ := files_of_trod Tryd.underlying33 Tryd.underlying108 (by kernel_rfl) ⟨rfl, rfl⟩ ⟨rfl, rfl⟩ ⟨rfl, rfl⟩ Tryd.underlying3 (by kernel_rfl) Tryd.underlying34 (by kernel_rfl) h5
  simp [Value.cells, hcf] at e5
  subst e5
  have h6 := hg 6 _ rfl
  rw [List.getElem?_eq_getElem (by omega)] at h6
  obtain ⟨ia, inn, ic, zs, e6, hI⟩ := intsIn_of_trod Tryd.underlying34 Tryd.underlying3 (by kernel_rfl) h6
  simp [Value.cells, hcl] at e6
  subst e6
  exact ⟨⟨x0, x1, x2, x3, x4, L, zs⟩, fa, fn, fc, ia, inn, ic, rfl, hF, hI, Go.bounds_i64 w0, Go.bounds_i64 w1, Go.bounds_i64 w2, Go.bounds_i64 w3, Go.bounds_i64 w4⟩
set_option maxRecDepth 100000 in
theorem piece_of_trod {H : Type} {enc : TypeId × Value → H} {w : World} {base fuel : Nat} {c0 c1 c2 c3 c4 c5 c6 c7 c8 : Value} {x : DataW H × List MemPlace}
    (hf : DataW.trod enc Tryd.prog w base (fun _ => true) true fuel 51 [c0, c1, c2, c3, c4, c5, c6, c7, c8] = some x) :
    ∃ (ad : Int) (m : Sm) (fa : Option Addr) (fn fc : Nat) (ia : Option Addr) (inn ic : Nat) (da : Option Addr) (dn dc : Nat) (dt : List Nat), [c0, c1, c2, c3, c4, c5, c6, c7, c8] = (pieceA ad m fa fn fc ia inn ic da dn dc).toList ∧ PieceIn w ad m fa fn fc ia inn ic da dn dc dt := by
  have hci : Tryd.prog.cellsOf 3 = 1 := by kernel_rfl
  have hcp : Tryd.prog.cellsOf 36 = 7 := by kernel_rfl
  have hcb : Tryd.prog.cellsOf 49 = 1 := by kernel_rfl
  obtain ⟨xs, n, _, hx, _, hlen, hg⟩ := DataW.trod_struct Tryd.underlying51 hf
  have hlen3 : xs.length = 3 := hlen
  have h0 := hg 0 _ rfl
  rw [List.getElem?_eq_getElem (by omega)] at h0
  obtain ⟨ad, e0, _, w0⟩ := DataW.trod_int Tryd.underlying3 h0
  simp [Value.cells, hci] at e0
  subst e0
  have h1 := hg 1 _ rfl
  rw [List.getElem?_eq_getElem (by omega)] at h1
  simp [Value.cells, hcp] at h1
  obtain ⟨m, fa, fn, fc, ia, inn, ic, e1, hP⟩ := part_of_trod h1
  have h2 := hg 2 _ rfl
  rw [List.getElem?_eq_getElem (by omega)] at h2
  have hrow : ∃ da dn dc zs, c8 = .slice da dn dc ∧ IsRow .u8 w da dn dc zs := by
    rcases open_ints Tryd.underlying49 Tryd.underlying5 (by kernel_rfl) h2 with ⟨hcs, _⟩ | ⟨x, l, c, zs, hcs, _, h1, h2, h3, _, hcell, hwz⟩
    · simp [Value.cells, hcb] at hcs
      exact ⟨none, 0, 0, [], hcs, .inl ⟨rfl, rfl, rfl, rfl⟩⟩
    · simp [Value.cells, hcb] at hcs
      exact ⟨some x, l, c, zs, hcs, .inr ⟨_, rfl, h1, h2, by simpa using h3, hcell, hwz⟩⟩
  obtain ⟨da, dn, dc, zs, rfl, hr⟩ := hrow
  obtain ⟨dt, hdn, hB, hnil, hle, hcap⟩ := hr.bytes
  simp only [List.cons.injEq, and_true] at e1
  obtain ⟨rfl, rfl, rfl, rfl, rfl, rfl, rfl⟩ := e1
  exact ⟨ad, m, fa, fn, fc, ia, inn, ic, da, dn, dc, dt, rfl, hP, hB, hdn, fun e => ⟨by rw [hdn, (hnil e).1]; rfl, (hnil e).2⟩, hle, hcap, Go.bounds_i64 w0⟩
set_option maxRecDepth 100000 in
theorem open_piece {H : Type} {enc : TypeId × Value → H} {w : World} {base : Nat} {r : Reach} {b0 : Nat} {v : Value} {d : DataW H} {p : List MemPlace}
    (hv : Value.okWide Tryd.prog w r b0 51 v) (h : DataW.Trod enc Tryd.prog w base (fun _ => true) true 51 v d p) :
    ∃ (ad : Int) (m : Sm) (fa : Option Addr) (fn fc : Nat) (ia : Option Addr) (inn ic : Nat) (da : Option Addr) (dn dc : Nat) (dt : List Nat), v = .agg (pieceA ad m fa fn fc ia inn ic da dn dc) ∧ PieceIn w ad m fa fn fc ia inn ic da dn dc dt := by
  obtain ⟨cs, rfl, hsz⟩ := okWide_struct Tryd.underlying51 hv
  obtain ⟨l⟩ := cs
  have hc9 : Tryd.prog.cellsOf 51 = 9 := by kernel_rfl
  match l, hsz.trans hc9 with
  | [c0, c1, c2, c3, c4, c5, c6, c7, c8], _ =>
    obtain ⟨fuel, hf⟩ := h
    obtain ⟨ad, m, fa, fn, fc, ia, inn, ic, da, dn, dc, dt, e, hP⟩ := piece_of_trod hf
    exact ⟨ad, m, fa, fn, fc, ia, inn, ic, da, dn, dc, dt, by
      have := congrArg (fun l => Value.agg l.toArray) e
      simpa using this, hP⟩
end
end Go.Proofs.YtlkgaefabahkoaaDoor
/-
  Partial segments, SegOwn: bytes of a row of one's own changed one by one; what the law keeps.
-/
namespace Go.Proofs.YtlkgaefabahkoaaDoor
open Go.RowKit

section
variable {C base n : Nat} {w w' W : World} {L : Dl} {d : Dm} {v : Value} {G : Nat → Nat} {F : Nat → List Nat}
theorem cellsB_set (l : List Nat) (k y : Nat) : (cellsB l).toArray.setIfInBounds k (.int .u8 (y : Int)) = (cellsB (l.set k y)).toArray := by
  apply Array.ext_getElem?
  intro j
  simp only [cellsB, List.setIfInBounds_toArray, List.getElem?_toArray, List.map_set]
theorem RowB.poke (h : RowB w base v n G F) {i k : Nat} (hi : i < n) (y : Nat) (hy : y < 256) : RowB (w.setCell ⟨G i, k, none⟩ (.int .u8 (y : Int))) base v n G (updB F i ((F i).set k y)) := by
  have hne : ∀ g, v.ownBlock = some g → g ≠ G i := fun g hg e => by
    have := own_type h.row (h.each i hi).1 (by decide)
    exact this (by rw [hg, e])
  refine ⟨own_far h.row (fun e => hne (G i) e.symm rfl) _, fun j hj => ?_, h.low, h.inj⟩
  by_cases e : j = i
  · subst e
    rw [updB_at]
    have hb := h.each j hj
    refine ⟨?_, by rw [List.length_set]; exact hb.2.1, fun x hx => ?_⟩
    · rw [← cellsB_set]; exact hb.1.put k _
    · rcases List.mem_or_eq_of_mem_set hx with h1 | rfl
      · exact hb.2.2 x h1
      · exact hy
  · rw [updB_ne _ _ e]
    have hb := h.each j hj
    exact ⟨hb.1.far (fun e2 => e (h.inj j i hj hi e2)) _, hb.2⟩
def PokX (G : Nat → Nat) (n : Nat) : Nat → Prop := fun j => ∃ i, i < n ∧ G i = j
/-- Bytes of a row of blocks have been changed; nothing else has. -/
def PokR (w0 : World) (base n : Nat) (v : Value) (G : Nat → Nat) (W : World) : Prop := ∃ F', RowB W base v n G F' ∧ Out (PokX G n) w0 W
theorem PokR.start (h : RowB w base v n G F) : PokR w base n v G w := ⟨F, h, Out.refl _ _⟩
theorem u8_up (y : Nat) (h : y < 256) : IntKind.u8.wrap ((y : Int) + 1) = (((y + 1) % 256 : Nat) : Int) := by
  show ((y : Int) + 1) % 256 = _
  omega
theorem PokR.at (h : PokR w base n v G W) {i : Nat} (hi : i < n) (hn : n ≤ 100000) : ∃ b cap, v = .slice (some ⟨b, 0, none⟩) n cap ∧ W.cell? ⟨b, i, none⟩ = some (.slice (some ⟨G i, 0, none⟩) 64 64) := by
  obtain ⟨F', h1, h2⟩ := h
  rcases id h1.row.2 with ⟨_, h0⟩ | ⟨g, c, cur, hv, _⟩
  · omega
  · exact ⟨g, c, hv, by rw [show v = .slice (some ⟨g, 0, none⟩) n c from hv] at h1; rw [h1.row.cellAt i (by omega)]; exact cellsG_get G hi⟩
theorem PokR.poke (h : PokR w base n v G W) {i k : Nat} (hi : i < n) (hk : k < 64) : ∃ y : Nat, y < 256 ∧ W.cell? ⟨G i, k, none⟩ = some (.int .u8 (y : Int)) ∧ W.frozen? ⟨G i, k, none⟩ = false ∧ ∀ z : Nat, z < 256 → PokR w base n v G (W.setCell ⟨G i, k, none⟩ (.int .u8 (z : Int))) := by
  obtain ⟨F', h1, h2⟩ := h
  have hb := h1.each i hi
  refine ⟨(F' i).getD k 0, getD_b hb.2.2 k, by rw [hb.1.cell, List.getElem?_toArray, cellsB_get _ _ (by rw [hb.2.1]; exact hk)], hb.1.frozen k, fun z hz => ?_⟩
  exact ⟨_, h1.poke hi z hz, h2.trans (out_put W ⟨G i, k, none⟩ _ (show PokX G n (G i) from ⟨i, hi, rfl⟩)) (fun _ _ e => e)⟩
theorem PokR.blo {g : Nat} {t : TypeId} {cs : Array Value} (h : PokR w base n v G W) (hR : RowB w base v n G F) (hb : Blo w g t cs) (ht : t ≠ U8) : Blo W g t cs := by
  obtain ⟨F', h1, h2⟩ := h
  refine h2.blo hb (fun hx => ?_)
  obtain ⟨j, hj, e⟩ := hx
  exact (hR.each j hj).1.apart hb (fun q => ht q.symm) e
structure OwS (w : World) (bx : Nat) (pa : Array Value) (L : Dl) (d : Dm) (W : World) : Prop where
  dk : Dk w.heap.size W L d
  box : Blo W bx 51 pa
  below : Below w.heap.size w W
theorem OwS.later {bx : Nat} {pa : Array Value} (h : OwS w bx pa L d W) (hb : Below W.heap.size W w') : OwS w bx pa L d w' :=
  ⟨h.dk.later hb, h.box.later hb, h.below.trans (hb.mono h.below.size)⟩
theorem OwS.poked {bx : Nat} {pa : Array Value} (h : OwS w bx pa L d W) (hR : RowB W base v n G F) (hbase : w.heap.size ≤ base) (hp : PokR W base n v G w') : OwS w bx pa L d w' := by
  obtain ⟨F', h1, h2⟩ := hp
  refine ⟨h.dk.out h2 (fun i hi hx => ?_), h2.blo h.box (fun hx => ?_), h.below.trans (h2.below h.below.size (fun i _ hx => ?_))⟩
  · obtain ⟨j, hj, rfl⟩ := hx
    exact (hR.apart h.dk).2 j hj hi
  · obtain ⟨j, hj, e⟩ := hx
    exact (hR.each j hj).1.apart h.box (by decide) e
  · obtain ⟨j, hj, rfl⟩ := hx
    exact Nat.le_trans hbase (hR.low j hj)
theorem OwS.wrote {bx : Nat} {pa : Array Value} {d' : Dm} {c : Int} {e : Ending} (h : OwS w bx pa L d W) (hO : CodeO w.heap.size W L d' c e w') : e = .returned (.int .i64 c) ∧ ∃ q, OwS w bx pa { L with qv := q } d' w' := by
  obtain ⟨h1, q, h2, h3, h4⟩ := hO
  exact ⟨h1, q, h2, h3.blo h.box (h.dk.apart h.box (by decide) (by decide) (by decide)), h.below.trans (h3.below h.below.size (fun i _ hi => (h.dk.has_lt hi).1))⟩
end
end Go.Proofs.YtlkgaefabahkoaaDoor
/-
  What the condition on the listed variable gives: the table of sums stands in its place. And a start that meets it.
-/
namespace Go.Proofs.YtlkgaefabahkoaaDoor
open Go.ChangeShapes Go.WideShapes Go.ChangeAt Go.RowKit

abbrev laid1 : List (String × DataW Unit) := [("marl/sum.ahead", Rows.laid_marl_sum_ahead)]
theorem own : ownKnob Tryd.prog.godebug = none := by kernel_rfl
theorem laidOut : laidOutB Tryd.prog = true := by kernel_rfl
theorem gAhead : Tryd.prog.globalNamed "marl/sum.ahead" = some 0 := by kernel_rfl
theorem tAhead : (Tryd.prog.globals[0]?).map (·.type) = some 171 := by kernel_rfl
theorem cells_u32 : Tryd.prog.cellsOf 99 = 1 := by kernel_rfl
theorem cells_tab : Tryd.prog.cellsOf 171 = 16 := by kernel_rfl
theorem tab_data : ∀ i, i < 16 → (match Rows.laid_marl_sum_ahead (H := Unit) with | .agg xs => xs[i]? | _ => none) = some (.lit (.int .u32 (tab16.getD i 0 : Nat))) := by
  intro i hi
  match i, hi with
  | 0, _ | 1, _ | 2, _ | 3, _ | 4, _ | 5, _ | 6, _ | 7, _ | 8, _ | 9, _ | 10, _ | 11, _ | 12, _ | 13, _ | 14, _ | 15, _ => rfl
  | n + 16, h => exact absurd h (by omega)
theorem tab_of_laid {W : World} (h : laidMetH Tryd.prog laid1 W) : Tab W ∧ 0 < W.heap.size := by
  rw [MakeChecks.laidMetH_plain _ _ _ (by kernel_rfl)] at h
  obtain ⟨ps, ⟨g0, t0, cs0, f0, p0, q0, hg0, ht0, hv0, hd0, _, _⟩, _, _⟩ := h
  obtain rfl := Option.some.inj (gAhead.symm.trans hg0)
  obtain rfl := Option.some.inj (tAhead.symm.trans ht0)
  obtain ⟨xs, m1, rfl, hx1, hlen, hn, hel⟩ := DataW.trod_array Tryd.underlying171 hd0
  simp only [Prod.mk.injEq] at hx1
  have hcells : ∀ i, i < 16 → W.cell? ⟨0, i, none⟩ = some (.int .u32 (tab16.getD i 0 : Nat)) := by
    intro i hi
    have h1 := hel i hi
    rw [cells_u32] at h1
    have hxi : i < xs.length := by omega
    rw [List.getElem?_eq_getElem hxi] at h1
    obtain ⟨k, e1, e2, _⟩ := DataW.trod_int Tryd.underlying99 h1
    have hd := tab_data i hi
    rw [hx1.1] at hd
    simp only [List.getElem?_map, List.getElem?_eq_getElem hxi, Option.map_some, Option.some.injEq] at hd
    rw [e2] at hd
    simp only [DataW.lit.injEq, Lit.int.injEq, true_and] at hd
    rw [World.var?_cell gAhead hv0 i]
    have h2 : (cs0.toList.drop (i * 1)).take 1 = [Value.int .u32 k] := e1
    have h3 : cs0.toList[i]? = some (Value.int .u32 k) := by
      have := congrArg (fun l => l[0]?) h2
      simpa using this
    rw [← Array.getElem?_toList, h3, hd]
  exact ⟨hcells, World.block_lt_of_cell? _ _ (hcells 0 (by decide))⟩
theorem door_met (os : Os) (args : Array Value) : laidMetH Tryd.prog laid1 ((World.doorLaid Tryd.prog 400 os).forCall (fun _ _ => 0) ⟨#[], args, []⟩).memory :=
  laidMetH_of_parts3 (fuel := 8) (laidMet_of_run' 8 (by kernel_rfl) (by kernel_rfl)) (by kernel_rfl) (by kernel_rfl)
end Go.Proofs.YtlkgaefabahkoaaDoor
