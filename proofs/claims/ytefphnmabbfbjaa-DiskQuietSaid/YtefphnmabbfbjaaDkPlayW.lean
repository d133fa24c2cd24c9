/-
  Play's call of Write.
-/
import Derived.Test.YtefphnmabbfbjaaDkPlayC
namespace Go.Proofs.Ytefphnmabbfbjaa
open Go.RowKit

/-- The bytes that are written, where they lie. -/
structure Src (C : Nat) (W : World) (xa : Option Addr) (xn xc : Nat) (l : List Nat) : Prop where
  n : xn = l.length
  b : Bytes W xa l
  nil : xa = none → xn = 0 ∧ xc = 0
  cap : xn ≤ xc
  few : xn ≤ 140737488351232
  at_ : l ≠ [] → ∃ b o, xa = some ⟨b, o, none⟩ ∧ (b < C ∨ ∃ cs, Blo W b U8 cs)
theorem Src.out {X : Nat → Prop} {C : Nat} {W W' : World} {xa : Option Addr} {xn xc : Nat} {l : List Nat} (h : Src C W xa xn xc l) (ho : Out X W W') (h1 : ∀ b, b < C → ¬ X b) (h2 : ∀ b cs, Blo W b U8 cs → ∀ o, l ≠ [] → xa = some ⟨b, o, none⟩ → ¬ X b) : Src C W' xa xn xc l := by
  have key : ∀ b o, l ≠ [] → xa = some ⟨b, o, none⟩ → ¬ X b := fun b o hl e => by
    obtain ⟨b', o', e', hb⟩ := h.at_ hl
    rw [e] at e'
    cases e'
    rcases hb with hb | ⟨cs, hb⟩
    · exact h1 b hb
    · exact h2 b cs hb o hl e
  refine ⟨h.n, bytes_out h.b (fun b o v hx hc => ho.cell hc hx) key, h.nil, h.cap, h.few, fun hl => ?_⟩
  obtain ⟨b, o, e, hb⟩ := h.at_ hl
  refine ⟨b, o, e, ?_⟩
  rcases hb with hb | ⟨cs, hb⟩
  · exact .inl hb
  · exact .inr ⟨cs, ho.blo hb (key b o hl e)⟩
theorem Src.later {C : Nat} {W W' : World} {xa : Option Addr} {xn xc : Nat} {l : List Nat} (h : Src C W xa xn xc l) (hb : Below W.heap.size W W') : Src C W' xa xn xc l :=
  h.out (X := fun _ => False) (Out.of_below hb) (fun _ _ h => h) (fun _ _ _ _ _ _ h => h)
theorem Src.disk {C : Nat} {W W' : World} {L : Dl} {d : Dm} {xa : Option Addr} {xn xc : Nat} {l : List Nat} (h : Src C W xa xn xc l) (hD : Dk C W L d) (ho : Out L.has W W') : Src C W' xa xn xc l :=
  h.out ho (fun b hb hi => by have := (hD.has_lt hi).1; omega) (fun b cs hb _ _ _ => hD.apart hb (by decide) (by decide) (by decide))
theorem info_u8b : (Try.prog.info? U8).map (fun i => (i.zero, i.size, i.bytes)) = some (some (.int .u8 0), 1, 1) := by kernel_rfl
theorem bytes_add {w : World} {a : Option Addr} {l : List Nat} (h : Bytes w a l) : ∀ ad, a = some ad → ∀ j u, (cellsB l)[j]? = some u → w.cell? (ad.add j) = some u := fun ad ha j u hj => by
  have hjl : j < l.length := by
    have := (List.getElem?_eq_some_iff.1 hj).1
    rwa [cellsB_length] at this
  obtain ⟨b, o, ha', hc⟩ := h.2.2 (fun e => by rw [e] at hjl; cases hjl)
  rw [ha] at ha'
  cases ha'
  rw [Addr.add_lit, hc j hjl, ← hj, cellsB_get l j hjl]
theorem sblk_own {w : World} {base n cap : Nat} {a : Option Addr} {l : List Nat} (h : w.ownsRow base U8 1 (.slice a n cap) n (cellsB l)) (hn : n = l.length) (hb : ∀ x ∈ l, x < 256) (h64 : l.length = 64) : ∃ g, a = some ⟨g, 0, none⟩ ∧ SBlk w g l := by
  rcases id h.2 with ⟨h1, h0⟩ | ⟨g, c, cur, h1, _, h3, _⟩
  · omega
  · cases h1
    have hB : Blo w g U8 cur := h3
    exact ⟨g, rfl, ⟨⟨cur, hB, fun j hj => by rw [← hB.cell, h.cellAt j (by omega)]⟩, h64, hb⟩⟩
theorem own_disk {C : Nat} {w w' : World} {L : Dl} {d : Dm} {base n cap : Nat} {a : Option Addr} {xs : List Value} (h : w.ownsRow base U8 1 (.slice a n cap) n xs) (hD : Dk C w L d) (ho : Out L.has w w') : w'.ownsRow base U8 1 (.slice a n cap) n xs :=
  ho.own h (fun g hg => by
    cases a with
    | none => cases hg
    | some ad =>
      obtain ⟨cs, hb⟩ := own_typed h ad rfl
      have e : ad.block = g := by simpa [Value.ownBlock] using hg
      rw [← e]
      exact hD.apart hb (by decide) (by decide) (by decide))
theorem Ps4.out {X : Nat → Prop} {C : Nat} {W W' : World} {B : Nat} {o : Array Value} {L : Dl} {d : Dm} {sa qa : Option Addr} {sc qc : Nat} (h : Ps4 C W B o L d sa qa sc qc) (ho : Out X W W') (h0 : ¬ X B) (h1 : ¬ X (B + 1)) (h2 : ¬ X (B + 1 + 1))(hxs : ∀ g, X g → ∃ cs, Blo W g U8 cs) : Ps4 C W' B o L d sa qa sc qc :=
  ⟨h.ps.out ho h0 h1 h2, h.dk.out ho (fun i hi hX => by obtain ⟨cs, hb⟩ := hxs i hX; exact (h.dk.apart hb (by decide) (by decide) (by decide)) hi), h.mr.out ho (fun g cs hb hX => by
    obtain ⟨cs', hb'⟩ := hxs g hX
    rcases hb with hb | hb
    · exact hb.apart hb' (by decide) rfl
    · exact hb.apart hb' (by decide) rfl)⟩
/-- The rounds that turn the copy. -/
structure LpR (C : Nat) (L0 : Dl) (w : World) (B1 : Nat) (o : Array Value) (L : Dl) (d : Dm) (sa qa : Option Addr) (sc qc : Nat) (xa : Option Addr) (xn xc : Nat) (l : List Nat) (a5 : Option Addr) (k : Nat) (wr : World) : Prop where
  ps : Ps4 C wr w.heap.size o L d sa qa sc qc
  src : Src C wr xa xn xc l
  row : 0 < xn → ∃ g cs, a5 = some ⟨g, 0, none⟩ ∧ B1 ≤ g ∧ Blo wr g U8 cs ∧ ∀ j, k ≤ j → j < xn → cs[j]? = some (.int .u8 (l.getD j 0 : Nat))
  fr : Fr L0 w wr
theorem LpR.later {C : Nat} {L0 : Dl} {w : World} {B1 : Nat} {o : Array Value} {L : Dl} {d : Dm} {sa qa : Option Addr} {sc qc : Nat} {xa : Option Addr} {xn xc : Nat} {l : List Nat} {a5 : Option Addr} {k : Nat} {wr wr' : World} (h : LpR C L0 w B1 o L d sa qa sc qc xa xn xc l a5 k wr) (hb : Below wr.heap.size wr wr') (hC : C ≤ wr.heap.size) : LpR C L0 w B1 o L d sa qa sc qc xa xn xc l a5 k wr' :=
  ⟨h.ps.out (X := fun _ => False) (Out.of_below hb) (fun h => h) (fun h => h) (fun h => h) (fun _ h => h.elim), h.src.later hb, fun hn => by
    obtain ⟨g, cs, h1, h2, h3, h4⟩ := h.row hn
    exact ⟨g, cs, h1, h2, h3.later hb, h4⟩, h.fr.later hb⟩
def LpT (C : Nat) (L0 : Dl) (w : World) (B1 : Nat) (o : Array Value) (L : Dl) (d : Dm) (sa qa : Option Addr) (sc qc : Nat) (xa : Option Addr) (xn xc : Nat) (l : List Nat) (a5 : Option Addr) (t : Value) (wr : World) : Prop :=
  ∃ k : Nat, k ≤ xn ∧ t = .int .i64 k ∧ LpR C L0 w B1 o L d sa qa sc qc xa xn xc l a5 k wr
def plL (x : OpT) : List Nat := if x.raw = true then x.b else byt x.b
/-- What stands where the bytes are known. -/
def CutW (C : Nat) (w2 : World) (x : OpT) (v : Value) (W : World) : Prop := ∃ xa xn xc, v = .slice xa xn xc ∧ Src C W xa xn xc (plL x) ∧ Below w2.heap.size w2 W
set_option maxRecDepth 100000 in
set_option maxHeartbeats 4000000 in
theorem play_write {w0 w : World} {L : Dl} {d : Dm} {sa qa ba ka : Option Addr} {sc qc bn bc kn kc : Nat} {x : OpT} (h0 : Below w0.heap.size w0 w) (hop : OpIs w0 ba bn bc ka kn kc x) (h : Dk w0.heap.size w L d) (hm : Mr w sa qa sc qc d) (hsm : Sm 90000 d) (hk : x.k = 1) :
    Calls Try.prog 13 #[.pointer (some ⟨L.bd, 0, none⟩), .agg (agR sa qa sc qc d), .agg (opA ba bn bc ka kn kc x)] w (PlayO w0.heap.size L w (writeD d x.n (plL x)).1) := by
  have HC : Hid (w0.heap.size ≤ w.heap.size) := h0.size
  have HPS := Lib.hid (ps_new w (agR sa qa sc qc d) (opA ba bn bc ka kn kc x))
  have hb := three_below w (.cells (agR sa qa sc qc d) RDT) (.cells (opA ba bn bc ka kn kc x) OPT) (.cells zeroR RDT)
  have HB : Hid (Fr L w _) := fr_new hb
  have HD := Lib.hid (h.later hb)
  have HM := Lib.hid (hm.later hb)
  have HK := Lib.hid hk
  have HB0 := Lib.hid (h0.trans (hb.mono h0.size))
  have HOp := Lib.hid hop
  have HSm := Lib.hid hsm
  have HDd := Lib.hid h
  clear h0 h hm hb hk hop hsm
  show Calls Try.prog 13 #[.pointer (some ⟨L.bd, 0, none⟩), .agg #[.slice sa d.n sc, .slice qa d.Q.length qc, .int .i64 d.steps, .int .i64 (lfD d)], .agg #[.int .i64 x.k, .int .i64 x.n, .int .i64 x.s, .slice ba bn bc, .bool x.raw, .slice ka kn kc]] w (PlayO w0.heap.size L w (writeD d x.n (plL x)).1)
  go_enter Try.func13, Try.ntmps13
  go_upto_region 2 with (fail)
  obtain ⟨w2, hw2⟩ : ∃ w2, ((w.alloc (.cells (agR sa qa sc qc d) RDT)).alloc (.cells (opA ba bn bc ka kn kc x) OPT)).alloc (.cells zeroR RDT) = w2 := ⟨_, rfl⟩
  rw [hw2] at HPS HB HD HM HB0
  have hw3 : ((w.alloc (.cells #[.slice sa d.n sc, .slice qa d.Q.length qc, .int .i64 d.steps, .int .i64 (lfD d)] RDT)).alloc (.cells #[.int .i64 x.k, .int .i64 x.n, .int .i64 x.s, .slice ba bn bc, .bool x.raw, .slice ka kn kc] OPT)).alloc (.cells #[.slice none 0 0, .slice none 0 0, .int .i64 0, .int .i64 0] RDT) = w2 := hw2
  simp only [hw3]
  clear hw2 hw3
  have o0 := HPS.out.o.cell 0
  have o3 := HPS.out.o.cell 3
  have o4 := HPS.out.o.cell 4
  simp [opA] at o0 o3 o4
  rw [HK.out] at o0
  generalize (Value.agg #[.int .i64 x.k, .int .i64 x.n, .int .i64 x.s, .slice ba bn bc, .bool x.raw, .slice ka kn kc]) = ov
  go_upto_if 23 with (fail)
  clear o0
  obtain ⟨hbn, hbb, hbnone, hbc, hbr⟩ := HOp.out.b
  have HBn := Lib.hid hbn
  have HBb := Lib.hid (hbb.below HB0.out)
  have HBx := Lib.hid hbnone
  have HBat := Lib.hid (fun hl : x.b ≠ [] => bytes_blk0 hbb hl)
  clear hbn hbb hbnone
  go_cut [11] (fun v W => CutW w0.heap.size w2 x v W)
  case first =>
    rcases (show x.raw = true ∨ x.raw = false by cases x.raw <;> simp) with hr | hr
    · have HR := Lib.hid hr
      rw [hr]
      clear hr
      go_wp2_with fail
      go_meet
      refine ⟨ba, bn, bc, rfl, ?_, Below.refl _ _⟩
      unfold plL
      rw [if_pos HR.out]
      refine ⟨HBn.out, HBb.out, HBx.out, hbc, hbr, fun hl => ?_⟩
      obtain ⟨b, o, e, hlt⟩ := HBat.out hl
      exact ⟨b, o, e, .inl hlt⟩
    · have HR := Lib.hid hr
      rw [hr]
      clear hr
      go_wp2_with fail
      refine (bytes_any ba bn bc x.b w2 HBn.out (by omega) HBb.out).mono ?_
      rintro e w3 ⟨g3, rfl, hk3, hg3, hb3⟩
      have HK3 := Lib.hid hk3
      have HB3 := Lib.hid hb3
      clear hk3 hg3 hb3
      go_wp2_with fail
      go_meet
      refine ⟨some ⟨g3, 0, none⟩, 64, 64, rfl, ?_, HB3.out⟩
      unfold plL
      rw [if_neg (by rw [HR.out]; decide)]
      exact ⟨(byt_length _).symm, bytes_blk HK3.out, fun h => (by cases h), Nat.le_refl _, by decide, fun _ => ⟨g3, 0, rfl, .inr ⟨_, HK3.out.1⟩⟩⟩
  case rest =>
    obtain ⟨xa, xn, xc, rfl, hS, hb⟩ := hcut
    have HS := Lib.hid hS
    have HPSc := Lib.hid (HPS.out.later hb)
    have HDc := Lib.hid (HD.out.later hb)
    have HMc := Lib.hid (HM.out.later hb)
    have HBc : Hid (Fr L w wc) := HB.out.later hb
    have HLt : Hid (w.heap.size + 1 + 1 < wc.heap.size) := Nat.lt_of_lt_of_le HPS.out.z.lt hb.size
    have HSb : Hid (∀ b o, plL x ≠ [] → xa = some ⟨b, o, none⟩ → b < wc.heap.size) := fun b o hl e => by
      obtain ⟨b', o', e', hlt⟩ := bytes_blk0 hS.b hl
      rw [e] at e'
      cases e'
      exact hlt
    clear hS hb HPS HD HM HB HB0 HBn HBb HBx HBat o3 o4
    generalize plL x = l at *
    have HLen : Hid ((cellsB l).length = xn * 1) := by show (cellsB l).length = xn * 1; rw [cellsB_length, HS.out.n]; omega
    have hal : Below wc.heap.size wc (wc.alloc (.cells #[] U8)) := (Below.refl _ _).alloc (Nat.le_refl _) _
    have HAl := Lib.hid hal
    have hxr := HS.out.few
    clear hal
    go_upto_region 8 with (at_builtin; refine wp_copy_in rfl (.tmp 27) (.tmp 28) 36 rfl wc.heap.size U8 (.int .u8 0) 1 1 Try.underlying36 info_u8b rfl (by decide) (.slice (some ⟨wc.heap.size, 0, none⟩) 0 0) rfl (own_empty wc wc.heap.size U8 1 (Nat.le_refl _)) xa xn xc (cellsB l) rfl HLen.out (bytes_add (HS.out.later HAl.out).b) (cellsB_one _) HS.out.nil (by omega) (by omega) (by simp) ?_; intro a5 c5 w3 hown hgrow; have HO3 := Lib.hid hown; have HB3 : Hid (Below wc.heap.size wc w3) := HAl.out.grown hgrow HAl.out.size (fun q hq => by simp [Value.ownBlock] at hq; omega); clear hown hgrow)
    have HS3 := Lib.hid (HS.out.later HB3.out)
    have HPS3 := Lib.hid (HPSc.out.later HB3.out)
    have HD3 := Lib.hid (HDc.out.later HB3.out)
    have HM3 := Lib.hid (HMc.out.later HB3.out)
    have HB3w : Hid (Fr L w w3) := HBc.out.later HB3.out
    clear HB3 HS HPSc HDc HMc HBc HAl HLen
    have o1 := HPS3.out.o.cell 1
    simp [opA] at o1
    go_wp2_with fail
    refine (write_any (d := d) x.n a5 xn c5 l HS3.out.n (by omega) HSm.out.pos (by have := HSm.out.st; omega) (by have := HSm.out.ql; omega) (fun h64 => sblk_own HO3.out HS3.out.n HS3.out.b.1 h64) HD3.out).mono ?_
    intro e w4 hO
    obtain ⟨rfl, qv, hD4, hO4, _⟩ := hO
    have HD4 := Lib.hid hD4
    have HO4 := Lib.hid (own_disk HO3.out HD3.out hO4)
    have HS4 := Lib.hid (HS3.out.disk HD3.out hO4)
    have HPS4 := Lib.hid (HPS3.out.disk HD3.out hO4)
    have HM4 := Lib.hid (HM3.out.disk HD3.out hO4)
    have HB4 : Hid (Fr L w w4) := HB3w.out.disk hO4
    have HP := Lib.hid (mput_any (w := w4) x.n l HDd.out HM4.out (by have := HSm.out.st; omega) (by have := HSm.out.ql; omega))
    clear hD4 hO4 HO3 HS3 HPS3 HD3 HM3 HB3w o1
    generalize writeD d x.n l = q at *
    obtain ⟨d', c⟩ := q
    have hcc : (c == c) = true := by simp
    have y0 := HPS4.out.m.cell 0
    have y1 := HPS4.out.m.cell 1
    have y2 := HPS4.out.m.cell 2
    have y3 := HPS4.out.m.cell 3
    have o1 := HPS4.out.o.cell 1
    simp [agR, opA] at y0 y1 y2 y3 o1
    have hcv := run_str w4 36 9 U8 Try.underlying36 Try.underlying5 Try.underlying9 l xa xn xc HS4.out.n HS4.out.b
    go_wp2_with fail
    refine HP.out.mono ?_
    rintro e w5 ⟨sa', qa', sc', qc', rfl, hM5, hB5⟩
    unfold agR
    have HPS5 := Lib.hid (HPS4.out.later hB5)
    have HD5 := Lib.hid (HD4.out.later hB5)
    have HO5 := Lib.hid (own_later HO4.out hB5)
    have HS5 := Lib.hid (HS4.out.later hB5)
    have HM5 := Lib.hid hM5
    have HB5 : Hid (Fr L w w5) := HB4.out.later hB5
    clear hM5 hB5 HPS4 HD4 HO4 HS4 HM4 HB4 HP hcv y0 y1 y2 y3 o1
    have y0 := HPS5.out.m.cell 0
    have y1 := HPS5.out.m.cell 1
    have y2 := HPS5.out.m.cell 2
    have y3 := HPS5.out.m.cell 3
    have f0 := HPS5.out.m.frozen 0
    have f1 := HPS5.out.m.frozen 1
    have f2 := HPS5.out.m.frozen 2
    have f3 := HPS5.out.m.frozen 3
    simp [agR] at y0 y1 y2 y3
    go_upto_region 10 with (fail)
    have HF := Lib.hid (ps4_put HPS5.out rfl HD5.out HM5.out)
    have hso := put4_out w5 w.heap.size (.slice sa' d'.n sc') (.slice qa' d'.Q.length qc') (.int .i64 d'.steps) (.int .i64 (lfD d'))
    have HS6 : Hid (Src w0.heap.size (SetR w5 w.heap.size sa' qa' sc' qc' d') xa xn xc l) := HS5.out.out hso (fun b hb e => by have := HC.out; omega) (fun b cs hb _ _ _ e => by subst e; exact hb.apart HPS5.out.m (by decide) rfl)
    have HO6 : Hid ((SetR w5 w.heap.size sa' qa' sc' qc' d').ownsRow wc.heap.size U8 1 (.slice a5 xn c5) xn (cellsB l)) := hso.own HO5.out (fun g hg e => by have := (own_lt HO5.out hg).1; have := HLt.out; omega)
    have HB6 : Hid (Fr L w (SetR w5 w.heap.size sa' qa' sc' qc' d')) := HB5.out.put hso (Nat.le_refl _)
    obtain ⟨w6, hw5⟩ : ∃ w6, SetR w5 w.heap.size sa' qa' sc' qc' d' = w6 := ⟨_, rfl⟩
    rw [hw5] at HF HB6 HS6 HO6
    have hw6 : ((((w5.setCell ⟨w.heap.size, 0, none⟩ (.slice sa' d'.n sc')).setCell ⟨w.heap.size, 1, none⟩ (.slice qa' d'.Q.length qc')).setCell ⟨w.heap.size, 2, none⟩ (.int .i64 d'.steps)).setCell ⟨w.heap.size, 3, none⟩ (.int .i64 (lfD d'))) = w6 := hw5
    simp only [hw6]
    clear hw5 hw6 hso HPS5 HD5 HM5 HB5 HS5 HO5 y0 y1 y2 y3 f0 f1 f2 f3
    have HR0 : Hid (LpT w0.heap.size L w wc.heap.size (opA ba bn bc ka kn kc x) { L with qv := qv } d' sa' qa' sc' qc' xa xn xc l a5 (.int .i64 0) w6) := by
      refine ⟨0, Nat.zero_le _, rfl, HF.out, HS6.out, fun hn => ?_, HB6.out⟩
      rcases id HO6.out.2 with ⟨h1, h0⟩ | ⟨g, cc, cur, h1, h2, h3, _⟩
      · omega
      · cases h1
        have hB : Blo w6 g U8 cur := h3
        refine ⟨g, cur, rfl, h2, hB, fun j _ hj => ?_⟩
        rw [← hB.cell, HO6.out.cellAt j (by omega), cellsB_get l j (by rw [← HS6.out.n]; exact hj)]
    clear HF HS6 HO6 HB6
    go_wp2_with fail
    go_loopw [46] (fun t wr => LpT w0.heap.size L w wc.heap.size (opA ba bn bc ka kn kc x) { L with qv := qv } d' sa' qa' sc' qc' xa xn xc l a5 t wr) (fun t _ => xn - (intOf t).toNat)
    case atStart => exact HR0.out
    case round =>
      clear HR0
      obtain ⟨k, hk, rfl, hR⟩ := hrel
      have HR := Lib.hid hR
      have HCr : Hid (w0.heap.size ≤ wr.heap.size) := Nat.le_trans HC.out hR.fr.size
      clear hR
      have k0 : (0 : Int) ≤ (k : Int) := by omega
      by_cases hlt : k < xn
      · obtain ⟨g, cs, ha5, hg1, hB, hcs⟩ := HR.out.row (by omega)
        have hlk : k < l.length := by rw [← HR.out.src.n]; exact hlt
        obtain ⟨b, o, hxa, hsc⟩ := HR.out.src.b.2.2 (fun e => by rw [e] at hlk; cases hlk)
        have hz0 := hcs k (Nat.le_refl _) hlt
        have HZ := Lib.hid hz0
        clear hz0
        have x0 : wr.cell? ⟨g, k, none⟩ = some (.int .u8 (l.getD k 0 : Nat)) := by rw [hB.cell, hcs k (Nat.le_refl _) hlt]
        have x1 := hsc k hlk
        have HGb : Hid (b < wc.heap.size) := HSb.out b o (fun e => by rw [e] at hlk; cases hlk) hxa
        have HB7 := Lib.hid hB
        have HCs := Lib.hid hcs
        have HG1 := Lib.hid hg1
        have HKn : Hid (k < xn) := hlt
        have k1 : (k : Int) < (xn : Int) := by omega
        have HV : Hid (l.getD k 0 < 256) := getD_byte HR.out.src.b.1 k
        clear hB hcs hg1 hsc hlk
        subst ha5
        have HXa := Lib.hid hxa
        subst hxa
        generalize l.getD k 0 = z at *
        have q0 : ((z : Int) != (z : Int)) = false := by simp
        go_wp2_with fail
        go_quiet (fail)
        have HR9 : Hid (LpR w0.heap.size L w wc.heap.size (opA ba bn bc ka kn kc x) { L with qv := qv } d' sa' qa' sc' qc' (some ⟨b, o, none⟩) xn xc l (some ⟨g, 0, none⟩) k (wr.drewN nq)) := HR.out.later (ie_drewN (Below.refl _ _) nq) HCr.out
        have HB9 : Hid (Blo (wr.drewN nq) g U8 cs) := HB7.out.later (ie_drewN (Below.refl _ _) nq)
        have HC9 : Hid (w0.heap.size ≤ (wr.drewN nq).heap.size) := HCr.out
        clear HR HB7 HCr x0 x1 q0
        generalize wr.drewN nq = w9 at *
        have x0 : w9.cell? ⟨g, k, none⟩ = some (.int .u8 (z : Int)) := by rw [HB9.out.cell]; exact HZ.out
        have f0 := HB9.out.frozen k
        have z0 : (0 : Int) ≤ (z : Int) := by omega
        have z1 : (z : Int) ≤ 255 := by have := HV.out; omega
        go_wp2_with fail
        have HNx : Hid (LpR w0.heap.size L w wc.heap.size (opA ba bn bc ka kn kc x) { L with qv := qv } d' sa' qa' sc' qc' (some ⟨b, o, none⟩) xn xc l (some ⟨g, 0, none⟩) (k + 1) (w9.setCell ⟨g, k, none⟩ (.int .u8 (((z : Int) + 1) % 256)))) := by
          have h1 := HG1.out
          have h2 := HLt.out
          have h3 := HC.out
          have ho := out_put (X := fun j => j = g) w9 ⟨g, k, none⟩ (.int .u8 (((z : Int) + 1) % 256)) rfl
          refine ⟨HR9.out.ps.out ho (fun e => by omega) (fun e => by omega) (fun e => by omega) (fun i e => ⟨cs, by rw [e]; exact HB9.out⟩), HR9.out.src.out ho (fun b' hb' e => by omega) (fun b' cs' _ o' _ e e2 => by cases e; have := HGb.out; omega), fun _ => ⟨g, _, rfl, h1, HB9.out.put k _, fun j hj hj2 => ?_⟩, HR9.out.fr.put ho (by omega)⟩
          rw [Array.getElem?_setIfInBounds, if_neg (by omega)]
          exact HCs.out j (by omega) hj2
        clear HR9 HB9 HCs x0 f0
        go_roundw
        case rel => exact ⟨k + 1, HKn.out, by simp, HNx.out⟩
        case measure => simp [intOf]; have := HKn.out; omega
      · have hke : k = xn := by omega
        have k1 : ¬ (k : Int) < (xn : Int) := by omega
        have HF := Lib.hid HR.out.ps
        have HB5 := Lib.hid HR.out.fr
        clear hke
        go_upto_region 30 with (fail)
        have y0 := HF.out.ps.m.cell 0
        have y1 := HF.out.ps.m.cell 1
        have y2 := HF.out.ps.m.cell 2
        have y3 := HF.out.ps.m.cell 3
        have z0 := HF.out.ps.z.cell 0
        have z1 := HF.out.ps.z.cell 1
        have z2 := HF.out.ps.z.cell 2
        have z3 := HF.out.ps.z.cell 3
        have f0 := HF.out.ps.z.frozen 0
        have f1 := HF.out.ps.z.frozen 1
        have f2 := HF.out.ps.z.frozen 2
        have f3 := HF.out.ps.z.frozen 3
        simp [agR, zeroR] at y0 y1 y2 y3 z0 z1 z2 z3
        have HFin := Lib.hid (ps4_fin HF.out HB5.out)
        go_region
        all_goals
          clear y0 y1 y2 y3 f0 f1 f2 f3
          go_wp2
          refine bodyPost_ret (v := .tuple #[.pointer (some ⟨L.bd, 0, none⟩), .agg #[.slice sa' d'.n sc', .slice qa' d'.Q.length qc', .int .i64 d'.steps, .int .i64 (lfD d')], .bool true]) ?_ rfl HFin.out
          simp [results, Try.results13, go_sem, z0, z1, z2, z3]
end Go.Proofs.Ytefphnmabbfbjaa
