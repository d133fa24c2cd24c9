/-
  The walk of SummaryReads: just what is a summary's blocks is read, as the document reads it, and written so again.
-/
import Derived.Test.YtkdjfhbdcfjnnaaSwRDec
import Derived.Test.YtkdjfhbdcfjnnaaSwSame
import Derived.Test.YtkdjfhbdcfjnnaaSwAwake
import Derived.Deep.DeepCutAuto
namespace Go.Proofs.Ytkdjfhbdcfjnnaa
open Go.RowKit

theorem own_emptyB (w : World) : (w.alloc (.cells #[] U8)).ownsRow w.heap.size U8 1 (.slice (some ⟨w.heap.size, 0, none⟩) 0 0) 0 (cellsB []) :=
  ⟨rfl, .inr ⟨w.heap.size, 0, #[], rfl, Nat.le_refl _, heap_alloc_new w _, Nat.le_refl _, by decide, rfl, rfl⟩⟩
def mU (l : List Nat) : Sm := if okB l = true then decM l else ⟨0, 0, 0, 0, 0, [], []⟩
def sU (l : List Nat) : Nat := if okB l = true then sumM (gat l 8) else 0
def cU (l : List Nat) : Nat := if okB l = true then 0 else 100
structure SmU (l : List Nat) (m : Sm) (s c : Nat) : Prop where
  two : (c = 0 ∧ chkM m = 0 ∧ encM m s = l) ∨ c = 100
  s4 : s < 4294967296
  fn : m.fs.length ≤ 1000000
  lb : ∀ x ∈ m.fs, x.lb.length ≤ 1000000
  inn : m.is.length ≤ 1000000
theorem smU (l : List Nat) (hl : ∀ x ∈ l, x < 256) : SmU l (mU l) (sU l) (cU l) := by
  have hg : ∀ i, at' (gat l 8) i < 256 := fun i => at_lt (gat_lt hl 8) i
  have hs : sumM (gat l 8) < 4294967296 := by
    have := hg 6; have := hg 7; have := hg 8; have := hg 9
    unfold sumM; omega
  by_cases h : okB l = true
  · have e1 : mU l = decM l := if_pos h
    have e2 : sU l = sumM (gat l 8) := if_pos h
    have e3 : cU l = 0 := if_pos h
    rw [e1, e2, e3]
    unfold okB at h
    simp only [Bool.and_eq_true, decide_eq_true_eq] at h
    obtain ⟨-, h1, h2⟩ := h
    have hG := good_of h1
    have hz := hG.size
    have hf := len_szF (decM l).fs
    refine ⟨.inl ⟨rfl, h1, h2⟩, hs, by omega, fun x hx => ?_, by omega⟩
    have := (goodF_of (hG.fs x hx)).1.2.2.2.2.1
    omega
  · have e1 : mU l = ⟨0, 0, 0, 0, 0, [], []⟩ := if_neg h
    have e2 : sU l = 0 := if_neg h
    have e3 : cU l = 100 := if_neg h
    rw [e1, e2, e3]
    exact ⟨.inr rfl, by decide, Nat.zero_le _, fun x hx => (by cases hx), Nat.zero_le _⟩
theorem decO_u {w w' : World} {l : List Nat} {e : Ending} (h : DecO l w e w') : ∃ fa fc ia ic, e = .returned (.tuple #[part (mU l).e (mU l).c (mU l).i (mU l).p (mU l).x fa (mU l).fs.length fc ia (mU l).is.length ic, .int .u32 (sU l : Nat), .int .i64 (cU l : Nat)]) ∧ Fis w' fa (mU l).fs ∧ Ints w' ia (mU l).is ∧ Below w.heap.size w w' := by
  obtain ⟨hb, h0, h1⟩ := h
  by_cases hk : okB l = true
  · have e1 : mU l = decM l := if_pos hk
    have e2 : sU l = sumM (gat l 8) := if_pos hk
    have e3 : cU l = 0 := if_pos hk
    rw [e1, e2, e3]
    obtain ⟨fa, fc, ia, ic, av, SB, hd⟩ := h1 hk
    have q1 : (decM l).fs.length = at' (gat l 8) 4 := filesM_len _ _
    have q2 : (decM l).is.length = at' (gat l 8) 5 := inosM_len _ _ _
    rw [q1, q2]
    exact ⟨fa, fc, ia, ic, hd.eq, hd.fo.fis q1.symm, Ints.own hd.ino, hb⟩
  · have e1 : mU l = ⟨0, 0, 0, 0, 0, [], []⟩ := if_neg hk
    have e2 : sU l = 0 := if_neg hk
    have e3 : cU l = 100 := if_neg hk
    rw [e1, e2, e3]
    refine ⟨none, 0, none, 0, h0 (by cases h : okB l with | false => rfl | true => exact absurd h hk), fun h => absurd rfl h, ?_, hb⟩
    exact fun h => absurd rfl h
set_option maxRecDepth 100000 in
set_option maxHeartbeats 16000000 in
theorem summaryReads_bytes (a : Option Addr) (n c : Nat) (l : List Nat) (w : World) (hn : n = l.length) (hb : Bytes w a l) (hnone : a = none → l = [] ∧ c = 0) (hc : n ≤ c) :
    Calls Try.prog 4 #[.slice a n c] w fun e w' => e = .returned (.bool true) ∧ Below w.heap.size w w' := by
  have HLn := Lib.hid hn
  have HC := Lib.hid hc
  have HNn := Lib.hid hnone
  have HBt := Lib.hid hb
  have h9 : n ≤ 9223372036854775807 := by rw [hn]; exact hb.2.1
  clear hn hb hnone hc
  go_enter Try.func4, Try.ntmps4
  by_cases hbig : 1000 < n
  · have i1 : (1000 : Int) < (n : Int) := by omega
    go_wp2_with fail
    refine (awake_any _).mono ?_
    rintro e w1 ⟨rfl, hb1⟩
    have HB1 := Lib.hid hb1
    clear hb1
    go_wp2_with fail
    refine (awake_any _).mono ?_
    rintro e w2 ⟨rfl, hb2⟩
    have HB2 := Lib.hid (HB1.out.trans (hb2.mono HB1.out.size))
    clear hb2 HBt
    go_wp2
    go_ret
    exact ⟨rfl, HB2.out⟩
  · have i1 : ¬ (1000 : Int) < (n : Int) := by omega
    have HBg : Hid (n ≤ 1000) := by show _ ≤ _; omega
    clear hbig
    go_wp2_with fail
    refine (awake_any _).mono ?_
    rintro e w1 ⟨rfl, hb1⟩
    have HB1 := Lib.hid hb1
    have HY1 := Lib.hid (HBt.out.below hb1)
    have hal := sup_pc w1 (.cells #[] U8)
    have HO := Lib.hid (own_emptyB w1)
    have HY2 := Lib.hid (HY1.out.below hal)
    have HBe := Lib.hid hal
    clear hb1 hal
    go_wp2_with (at_builtin; refine wp_append_bytes rfl (.tmp 20) (.tmp 21) 30 rfl w1.heap.size U8 Try.underlying30 info_u8 _ 0 [] rfl HO.out (fun _ h => by cases h) a n c l rfl HLn.out HY2.out HNn.out (by have := HBg.out; omega) HBe.out.size ?_; intro a5 c5 w5 ho5 hg5 hB5 hN5; have HO5 := Lib.hid ho5; have HB5 := Lib.hid (HBe.out.grown hg5 HBe.out.size (fun q hq => (HO.out.lt q hq).1)); have HYi := Lib.hid hB5; clear ho5 hg5 hB5 hN5)
    rw [List.nil_append] at HYi
    have HCi : Hid (n ≤ c5) := by
      have h := HO5.out
      rw [Nat.zero_add] at h
      obtain ⟨a', c', hv, hc⟩ := own_slice h
      cases hv; exact hc
    have HYb := Lib.hid (HY1.out.below HB5.out)
    have HB6 := Lib.hid (HB1.out.trans (HB5.out.mono HB1.out.size))
    have HU := Lib.hid (smU l HBt.out.1)
    clear HY1 HY2 HBe HB1 HO HO5 HB5 HBt
    go_wp2_with fail
    refine (decode_any a5 n c5 l HLn.out HCi.out HYi.out).mono ?_
    intro e w6 hd
    obtain ⟨fa, fc, ia, ic, rfl, hF, hI, hb6⟩ := decO_u hd
    have HYi := Lib.hid (HYi.out.below hb6)
    have HYb := Lib.hid (HYb.out.below hb6)
    have HB6 := Lib.hid (HB6.out.trans (hb6.mono HB6.out.size))
    have HF := Lib.hid hF
    have HI := Lib.hid hI
    have HD := Lib.hid (fun W (h : Bytes W a l) => (rdecode_any a n c l HLn.out HC.out h).mono (fun e w' h => decO_u h))
    clear hd hF hI hb6
    obtain ⟨m, hm⟩ : ∃ m, mU l = m := ⟨_, rfl⟩
    obtain ⟨s, hs⟩ : ∃ s, sU l = s := ⟨_, rfl⟩
    obtain ⟨cd, hcd⟩ : ∃ c, cU l = c := ⟨_, rfl⟩
    simp only [hm, hs, hcd] at HU HF HI HD ⊢
    clear hm hs hcd
    go_wp2_with fail
    have hl7 := sup_pc w6 (.cells (pcs m fa m.fs.length fc ia m.is.length ic) 25)
    have HP := Lib.hid (blo_laid w6 25 (pcs m fa m.fs.length fc ia m.is.length ic))
    have HYi := Lib.hid (HYi.out.below hl7)
    have HYb := Lib.hid (HYb.out.below hl7)
    have HB6 := Lib.hid (HB6.out.trans (hl7.mono HB6.out.size))
    have HF := Lib.hid (HF.out.later hl7)
    have HI := Lib.hid (HI.out.below hl7)
    clear hl7
    generalize (w6.alloc (.cells (pcs m fa m.fs.length fc ia m.is.length ic) 25)) = w7 at *
    generalize w6.heap.size = P at *
    refine (HD.out w7 HYb.out).mono ?_
    rintro e w8 ⟨fb, gc, ib, jc, rfl, hF2, hI2, hb8⟩
    have HP := Lib.hid (HP.out.later hb8)
    have HYi := Lib.hid (HYi.out.below hb8)
    have HYb := Lib.hid (HYb.out.below hb8)
    have HB6 := Lib.hid (HB6.out.trans (hb8.mono HB6.out.size))
    have HF := Lib.hid (HF.out.later hb8)
    have HI := Lib.hid (HI.out.below hb8)
    have HF2 := Lib.hid hF2
    have HI2 := Lib.hid hI2
    clear hF2 hI2 hb8 HD
    have hl9 := sup_pc w8 (.cells (pcs m fb m.fs.length gc ib m.is.length jc) 25)
    have HQ := Lib.hid (blo_laid w8 25 (pcs m fb m.fs.length gc ib m.is.length jc))
    have HP := Lib.hid (HP.out.later hl9)
    have HYi := Lib.hid (HYi.out.below hl9)
    have HYb := Lib.hid (HYb.out.below hl9)
    have HB6 := Lib.hid (HB6.out.trans (hl9.mono HB6.out.size))
    have HF := Lib.hid (HF.out.later hl9)
    have HI := Lib.hid (HI.out.below hl9)
    have HF2 := Lib.hid (HF2.out.later hl9)
    have HI2 := Lib.hid (HI2.out.below hl9)
    clear hl9
    have HSm := Lib.hid (same_any m m fa m.fs.length fc ia m.is.length ic fb m.fs.length gc ib m.is.length jc HF.out HF2.out rfl rfl HU.out.fn HU.out.lb HI.out HI2.out rfl rfl HU.out.inn)
    have eb1 : ((cd : Int) != (cd : Int)) = false := by simp
    have eb2 : ((s : Int) != (s : Int)) = false := by simp
    go_upto_region 6 with fail
    generalize (w8.alloc (.cells (pcs m fb m.fs.length gc ib m.is.length jc) 25)) = w9 at *
    generalize w8.heap.size = Q at *
    have c0 := HP.out.cell 0
    have c1 := HP.out.cell 1
    have c2 := HP.out.cell 2
    have c3 := HP.out.cell 3
    have c4 := HP.out.cell 4
    have c5' := HP.out.cell 5
    have c6 := HP.out.cell 6
    have d0 := HQ.out.cell 0
    have d1 := HQ.out.cell 1
    have d2 := HQ.out.cell 2
    have d3 := HQ.out.cell 3
    have d4 := HQ.out.cell 4
    have d5 := HQ.out.cell 5
    have d6 := HQ.out.cell 6
    simp [pcs] at c0 c1 c2 c3 c4 c5' c6 d0 d1 d2 d3 d4 d5 d6
    go_wp2_with fail
    refine HSm.out.mono ?_
    rintro e wa ⟨⟨b, rfl, hbt⟩, hba⟩
    obtain rfl : b = true := hbt.2 rfl
    have HP := Lib.hid (HP.out.later hba)
    have HYi := Lib.hid (HYi.out.below hba)
    have HYb := Lib.hid (HYb.out.below hba)
    have HB6 := Lib.hid (HB6.out.trans (hba.mono HB6.out.size))
    have HF := Lib.hid (HF.out.later hba)
    have HI := Lib.hid (HI.out.below hba)
    have v1 := run_str wa 30 9 5 Try.underlying30 Try.underlying5 Try.underlying9 l a5 n c5 HLn.out HYi.out
    have v2' := run_str wa 30 9 5 Try.underlying30 Try.underlying5 Try.underlying9 l a n c HLn.out HYb.out
    have eb3 : ((strOf l).toList == (strOf l).toList) = true := by simp
    clear hbt hba HSm HQ HF2 HI2 c0 c1 c2 c3 c4 c5' c6 d0 d1 d2 d3 d4 d5 d6
    rcases HU.out.two with ⟨rfl, hk, he⟩ | rfl
    · have HHe := Lib.hid he
      have HEn := Lib.hid (encode_good (w := wa) m s fa m.fs.length fc ia m.is.length ic hk HF.out rfl HI.out rfl HU.out.s4)
      have hlen := encM_len m s (good_of hk)
      have HLe := Lib.hid hlen
      clear hk he hlen
      have c0 := HP.out.cell 0
      have c1 := HP.out.cell 1
      have c2 := HP.out.cell 2
      have c3 := HP.out.cell 3
      have c4 := HP.out.cell 4
      have c5' := HP.out.cell 5
      have c6 := HP.out.cell 6
      simp [pcs] at c0 c1 c2 c3 c4 c5' c6
      go_wp2_with fail
      refine HEn.out.mono ?_
      rintro e wb ⟨g, rfl, hg, hf, hbb⟩
      have hy : Bytes wb (some ⟨g, 0, none⟩) (encM m s) := by
        have := hf.bytes (by decide)
        rwa [show zpad 128 (encM m s) = encM m s by unfold zpad; rw [HLe.out]; simp] at this
      have hYb := HYb.out.below hbb
      have HB7 := Lib.hid (HB6.out.trans (hbb.mono HB6.out.size))
      have x1 := run_str wb 30 9 5 Try.underlying30 Try.underlying5 Try.underlying9 (encM m s) (some ⟨g, 0, none⟩) 128 128 HLe.out.symm hy
      have x2 := run_str wb 30 9 5 Try.underlying30 Try.underlying5 Try.underlying9 l a n c HLn.out hYb
      rw [HHe.out] at x1
      clear hf hbb hy hYb HEn c0 c1 c2 c3 c4 c5' c6 v1 v2'
      go_wp2_with fail
      go_ret
      exact ⟨rfl, HB7.out⟩
    · go_wp2_with fail
      go_ret
      exact ⟨rfl, HB6.out⟩
theorem summaryReads_walk (a : Option Addr) (len cap : Nat) (zs : List Int) (w : World) (hr : IsRow .u8 w a len cap zs) : Calls Try.prog 4 #[.slice a len cap] w fun e w' => e = .returned (.bool true) ∧ Below w.heap.size w w' := by
  obtain ⟨l, hn, hb, h0, -, hc⟩ := hr.bytes
  exact summaryReads_bytes a len cap l w hn hb h0 hc
end Go.Proofs.Ytkdjfhbdcfjnnaa
