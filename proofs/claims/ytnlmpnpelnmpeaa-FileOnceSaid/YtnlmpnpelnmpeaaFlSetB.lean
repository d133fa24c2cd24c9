/-
  The walk of Set, of data and of a block of pointers that is there.
-/
import Derived.Test.YtnlmpnpelnmpeaaFlSet
namespace Go.Proofs.Ytnlmpnpelnmpeaa
open Go.RowKit Go.Maps
section
variable {B M b n : Nat} {d : Nat → Int} {f : Int → Option Nat} {ad ct : Int → Int} {w w' : World}
theorem set_data (k : Nat) (hk : k < 600) (v : Int) (h0 : 0 ≤ v) (h1 : v < 4096) (h : FX B M b n d ad w) (hn : n < 900000) :
    Calls Try.prog 12 #[.pointer (some ⟨M, 0, none⟩), .int .i64 k, .int .i64 v] w fun e w' => ∃ u m, e = .returned (.tuple #[u, .int .i64 0]) ∧ m = (sdL d ad k v).length ∧ w'.ownsRow w.heap.size 3 1 u m (cellsI (sdL d ad k v)) ∧
      FX B M b (n + 3) (updN d k v) (sdA d ad k v) w' ∧ FS B b w w' := by
  have hd := data_isB k hk
  have HL := Lib.hid (fun W => level_yes (k : Int) W (by omega) hd.1)
  rw [hd.2.2] at HL
  have HF := Lib.hid h
  have hBw := h.hle
  clear h hd
  go_enter Try.func12, Try.ntmps12
  go_wp2_with fail
  refine (HL.out _).mono ?_
  rintro e w1 ⟨rfl, hb1⟩
  have HF1 := Lib.hid (HF.out.later hb1)
  have HS1 := Lib.hid (FS.of_below (b := b) hb1 hBw)
  have hz : w.heap.size ≤ w1.heap.size := hb1.size
  clear hb1 HF HL
  go_wp2_with fail
  refine (setData_any k hk v h0 h1 HF1.out hn).mono ?_
  rintro e w2 ⟨u, m, rfl, hm, hr, hf, hs⟩
  have HR := Lib.hid (own_weak hr hz)
  have HM := Lib.hid hm
  have HF2 := Lib.hid hf
  have HS2 := Lib.hid (HS1.out.trans hs)
  clear hr hm hf hs HF1 HS1
  go_wp2_with fail
  go_ret2
  exact ⟨u, m, rfl, HM.out, HR.out, HF2.out, HS2.out⟩
set_option maxRecDepth 20000 in
theorem set_meta (x : Int) (hx : isB x = true) (hl : 0 < lvOf x) (hw : (Lit.int .i64 x).wf = true) (hc : 0 < cov d x) (v : Int) (h0 : 0 ≤ v) (h1 : v < 4096) (h : FX B M b n d ad w) :
    Calls Try.prog 12 #[.pointer (some ⟨M, 0, none⟩), .int .i64 x, .int .i64 v] w fun e w' => ∃ u m, e = .returned (.tuple #[u, .int .i64 0]) ∧ m = (goneM (ad x) v).length ∧ w'.ownsRow w.heap.size 3 1 u m (cellsI (goneM (ad x) v)) ∧
      FX B M b n d (updO ad x v) w' ∧ FS B b w w' := by
  have hxb := isB_rangeF x hx
  have HL := Lib.hid (fun W => level_yes x W (by omega) hx)
  obtain ⟨f, h⟩ := h
  obtain ⟨g, hf⟩ : ∃ g, f x = some g := by
    have := h.is x
    rw [decide_eq_true hc] at this
    exact Option.isSome_iff_exists.1 this
  have HF := Lib.hid h
  have hBw := h.hle
  have hl0 : (lvOf x == 0) = false := by simp; omega
  have HWf := Lib.hid hw
  generalize lvOf x = lv at *
  obtain ⟨av, hav⟩ : ∃ av, ad x = av := ⟨_, rfl⟩
  rw [hav]
  have HAv := Lib.hid hav
  clear h hx hl hxb hw hav
  go_enter Try.func12, Try.ntmps12
  go_wp2_with fail
  refine (HL.out _).mono ?_
  rintro e w1 ⟨rfl, hb1⟩
  have HF1 := Lib.hid (HF.out.later hb1)
  have HS1 := Lib.hid (FS.of_below (b := b) hb1 hBw)
  have hz : w.heap.size ≤ w1.heap.size := hb1.size
  have c600 := HF1.out.bd
  have HP := Lib.hid HF1.out.mp
  have hmt := (HF1.out.mt x g hf).1
  rw [HAv.out] at hmt
  have cm := hmt.cell 0
  have fm := hmt.frozen 0
  simp at cm
  have HBg := Lib.hid hmt
  clear hb1 HF HL hmt
  have hmm : FX B M b n d (updO ad x v) (w1.setCell ⟨g, 0, none⟩ (.int .i64 v)) ∧ FS B b w1 (w1.setCell ⟨g, 0, none⟩ (.int .i64 v)) := by
    have e := HF1.out.meta x g hf v (cov d x) ⟨h0, h1⟩ ⟨hc, (cov_bd d x).2⟩ (HBg.out.put 0 (.int .i64 v)) (grown_put w1 ⟨g, 0, none⟩ _)
    rw [updO_self] at e
    exact ⟨⟨f, e.1⟩, e.2⟩
  have HF2 := Lib.hid hmm.1
  have HS2 := Lib.hid (HS1.out.trans hmm.2)
  have HG := Lib.hid (fun W (hw : w1.heap.size ≤ W.heap.size) => gone_any (w := W) w1.heap.size 0 (.slice none 0 0) [] av v ⟨rfl, .inl ⟨rfl, rfl⟩⟩ (by decide) hw)
  have hz2 : w1.heap.size ≤ (w1.setCell ⟨g, 0, none⟩ (.int .i64 v)).heap.size := hmm.2.sz
  clear hmm HBg
  go_wp2_with (at_lookup; refine wp_look_ok_some _ rfl _ _ PT rfl _ undM (zeroM _) b _ _ rfl HP.out x rfl HWf.out g hf ?_)
  generalize w1.setCell ⟨g, 0, none⟩ (.int .i64 v) = w2 at *
  refine (HG.out _ hz2).mono ?_
  rintro e w3 ⟨v2, rfl, hr2, hg2⟩
  simp only [Value.ownBlock] at hg2
  have hb2 : Below w2.heap.size w2 w3 := ⟨hg2.os, hg2.tape, hg2.output, hg2.size, fun i hi => hg2.block i hi (by simp)⟩
  have HF3 := Lib.hid (HF2.out.later hb2)
  have HS3 := Lib.hid (HS2.out.trans (FS.of_below (b := b) hb2 HF2.out.hle))
  rw [List.nil_append, Nat.zero_add] at hr2
  have HR := Lib.hid (own_weak hr2 hz)
  clear hr2 hg2 hb2 HF2 HS2 HG
  go_wp2_with fail
  go_ret2
  exact ⟨v2, _, rfl, rfl, HR.out, HF3.out, HS3.out⟩
end
end Go.Proofs.Ytnlmpnpelnmpeaa
