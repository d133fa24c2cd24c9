/-
  The walk of PointBlocks.
-/
import Derived.Test.YtmkhliabmodbdaaPtRefD
import Derived.Test.YtmkhliabmodbdaaPtAwake
import Derived.Test.YtmkhliabmodbdaaCopyIn
import Derived.Test.YtmkhliabmodbdaaQuiet
import Derived.Test.YtmkhliabmodbdaaPairs
namespace Go.Proofs.Ytmkhliabmodbdaa
open Go.RowKit

/-- What a block is read as. -/
def decV (l : List Nat) : Pt × Int := match decP l with
  | some p => (p, 0)
  | none => (⟨0, 0, 0, 0⟩, 100)
theorem decV_or (l : List Nat) : (decP l = some (decV l).1 ∧ (decV l).2 = 0) ∨ (decP l = none ∧ (decV l).1 = ⟨0, 0, 0, 0⟩ ∧ (decV l).2 = 100) := by
  unfold decV
  cases h : decP l with
  | none => exact .inr ⟨rfl, rfl, rfl⟩
  | some p => exact .inl ⟨rfl, rfl⟩
theorem decV_len {l : List Nat} (h : l.length ≠ 64) : decV l = (⟨0, 0, 0, 0⟩, 100) := by
  have : decP l = none := by unfold decP; rw [if_neg (fun hh => h hh.1)]
  unfold decV; rw [this]
theorem decV_fit (l : List Nat) : FitP (decV l).1 := by
  rcases decV_or l with ⟨h, _⟩ | ⟨_, h, _⟩
  · exact (decP_some h).1.fit
  · rw [h]; exact fit_zero
theorem dec_any (a : Option Addr) (n cap : Nat) (l : List Nat) (w : World) (hn : n = l.length) (hm : n ≤ 9223372036854775807) (hcap : n ≤ cap) (h : Bytes w a l) : Calls Try.prog 31 #[.slice a n cap] w (DecO w (decV l).1 (decV l).2) := by
  by_cases h64 : l.length = 64
  · rw [hn, h64]
    exact decode_64 a cap l w h64 (by omega) h _ _ (decV_or l)
  · rw [decV_len h64]
    exact decode_len a n cap w (by omega) hm
theorem rdec_any (l : List Nat) (w : World) (hb : ∀ x ∈ l, x < 256) : Calls Try.prog 32 #[.string (strOf l)] w (RDecO w (decV l).1 (decV l).2) := by
  by_cases h64 : l.length = 64
  · exact rdecode_64 l w h64 hb _ _ (decV_or l)
  · rw [decV_len h64]
    exact rdecode_len l w h64
theorem cells_rpt : Try.prog.cellsOf RPT = 4 := by kernel_rfl
theorem key_rpt : Try.prog.keyTypeAt 4 RPT = true := by kernel_rfl
theorem rpt_lits (p : Pt) (h : FitP p) : Try.prog.keyLits 4 RPT (ptA p).toList = some [.int .i64 p.e, .int .i64 p.c, .int .i64 p.n, .int .i64 p.f] := by
  obtain ⟨h1, h2, h3, h4⟩ := h
  have wa := wf_i64 _ h1
  have wb := wf_i64 _ h2
  have wc := wf_i64 _ h3
  have wd := wf_i64 _ h4
  simp [ptA, Program.keyLits, Try.underlying42, Try.underlying3, cells_int, cells_rpt, List.range, List.range.loop, wa, wb, wc, wd]
theorem eql_rpt (p q : Pt) (hp : FitP p) (hq : FitP q) (W : World) : (binOp .eql RPT (.agg (ptA p)) (.agg (ptA q))).run Try.prog W = .ok (.bool (decide (p = q))) W := by
  obtain ⟨r, hr, hiff⟩ := run_equalIn_deep (P := Try.prog) 9996 4 RPT key_rpt W 4 4 (.agg (ptA p)) (.agg (ptA q)) _ _ (by simp [Value.formed, Try.underlying42, cells_rpt, ptA]) (by simp [Value.formed, Try.underlying42, cells_rpt, ptA]) (rpt_lits p hp) (rpt_lits q hq)
  have e : r = decide (p = q) := by
    rw [Bool.eq_iff_iff, hiff, decide_eq_true_iff, pt_ext]; simp
  subst e
  rw [run_eql_struct, hr]; rfl
theorem bytes_add {w : World} {a : Option Addr} {l : List Nat} (h : Bytes w a l) : ∀ ad, a = some ad → ∀ j u, (cellsB l)[j]? = some u → w.cell? (ad.add j) = some u := fun ad ha j u hj => by
  have hjl : j < l.length := by
    have := (List.getElem?_eq_some_iff.1 hj).1
    rwa [cellsB_length] at this
  obtain ⟨b, o, ha', hc⟩ := h.2.2 (fun e => by rw [e] at hjl; cases hjl)
  rw [ha] at ha'
  cases ha'
  rw [Addr.add_lit, hc j hjl, ← hj, cellsB_get l j hjl]
theorem bytes_own {w : World} {base n cap : Nat} {a : Option Addr} {l : List Nat} (h : w.ownsRow base U8 1 (.slice a n cap) n (cellsB l)) (hb : ∀ x ∈ l, x < 256) (hm : l.length ≤ 9223372036854775807) : Bytes w a l ∧ n = l.length ∧ n ≤ cap := by
  have hlen : n = l.length := by have := h.1; rw [cellsB_length, Nat.mul_one] at this; exact this.symm
  rcases id h.2 with ⟨h1, h0⟩ | ⟨g, c, cur, h1, _, _, hc, _⟩
  · cases h1
    exact ⟨⟨hb, hm, fun hl => absurd (List.eq_nil_of_length_eq_zero (by omega)) hl⟩, hlen, by omega⟩
  · cases h1
    exact ⟨⟨hb, hm, fun _ => ⟨g, 0, rfl, fun i hi => by rw [Nat.zero_add, h.cellAt i (by omega), cellsB_get _ _ hi]⟩⟩, hlen, hc⟩
theorem pointBlocks_long (p0 p1 p2 p3 : Int) (a : Option Addr) (len cap : Nat) (w : World) (h : 500 < len) (hm : len ≤ 9223372036854775807) :
    Calls Try.prog 4 #[.agg #[.int .i64 p0, .int .i64 p1, .int .i64 p2, .int .i64 p3], .slice a len cap] w fun e w' => e = .returned (.bool true) ∧ Below w.heap.size w w' := by
  have HAw := Lib.hid (fun W => awake_any W)
  have hl : (500 : Int) < (len : Int) := by omega
  have hb := sup_pt w (.cells #[.int .i64 p0, .int .i64 p1, .int .i64 p2, .int .i64 p3] PNT)
  have HB := Lib.hid hb
  clear hb
  go_enter Try.func4, Try.ntmps4
  go_wp2_with fail
  refine (HAw.out _).mono ?_
  rintro e w1 ⟨rfl, hb1⟩
  have HB1 := Lib.hid (HB.out.trans (hb1.mono HB.out.size))
  clear hb1
  go_wp2_with fail
  refine (HAw.out _).mono ?_
  rintro e w2 ⟨rfl, hb2⟩
  have HB2 := Lib.hid (HB1.out.trans (hb2.mono HB1.out.size))
  clear hb2
  go_wp2
  go_ret
  exact ⟨rfl, HB2.out⟩
set_option maxRecDepth 100000 in
set_option maxHeartbeats 4000000 in
theorem pointBlocks_any (p0 p1 p2 p3 : Int) (a : Option Addr) (len cap : Nat) (l : List Nat) (w : World) (h : len ≤ 500) (hf : FitP ⟨p0, p1, p2, p3⟩) (hn : len = l.length) (hby : Bytes w a l) (hnil : a = none → len = 0 ∧ cap = 0) (hcap : len ≤ cap) :
    Calls Try.prog 4 #[.agg #[.int .i64 p0, .int .i64 p1, .int .i64 p2, .int .i64 p3], .slice a len cap] w fun e w' => e = .returned (.bool true) ∧ Below w.heap.size w w' := by
  have HAw := Lib.hid (fun W => awake_any W)
  have hl : ¬ (500 : Int) < (len : Int) := by omega
  have hb := sup_pt w (.cells #[.int .i64 p0, .int .i64 p1, .int .i64 p2, .int .i64 p3] PNT)
  have HB := Lib.hid hb
  have HP := Lib.hid (blo_laid w PNT #[.int .i64 p0, .int .i64 p1, .int .i64 p2, .int .i64 p3])
  have HF := Lib.hid hf
  have HN := Lib.hid hn
  have HBy := Lib.hid hby
  have HNil := Lib.hid hnil
  have HL : Hid (len ≤ 500) := h
  clear hb hf hn hby hnil
  go_enter Try.func4, Try.ntmps4
  go_wp2_with fail
  refine (HAw.out _).mono ?_
  rintro e w1 ⟨rfl, hb1⟩
  have HP1 := Lib.hid (HP.out.later hb1)
  have HB1 := Lib.hid (HB.out.trans (hb1.mono HB.out.size))
  clear hb1 HB HP HAw
  have v0 := HP1.out.cell 0
  have v1 := HP1.out.cell 1
  have v2 := HP1.out.cell 2
  have v3 := HP1.out.cell 3
  simp at v0 v1 v2 v3
  go_wp2_with fail
  by_cases hg : Good4 ⟨p0, p1, p2, p3⟩
  · have HG := Lib.hid hg
    clear hg
    refine (encode_good ⟨p0, p1, p2, p3⟩ w1 HG.out).mono ?_
    rintro e w2 ⟨g2, rfl, hk2, hg2, hb2⟩
    have HK2 := Lib.hid hk2
    have HP2 := Lib.hid (HP1.out.later hb2)
    have HB2 := Lib.hid (HB1.out.trans (hb2.mono HB1.out.size))
    clear hk2 hg2 hb2 HP1 HB1 v0 v1 v2 v3
    have v0 := HP2.out.cell 0
    have v1 := HP2.out.cell 1
    have v2 := HP2.out.cell 2
    have v3 := HP2.out.cell 3
    simp at v0 v1 v2 v3
    go_wp2_with fail
    refine (ref_any p0 p1 p2 p3 w2).mono ?_
    rintro e w3 ⟨rfl, hb3⟩
    have HK3 := Lib.hid (HK2.out.out (X := fun _ => False) (Out.of_below hb3) (fun h => h))
    have HP3 := Lib.hid (HP2.out.later hb3)
    have HB3 := Lib.hid (HB2.out.trans (hb3.mono HB2.out.size))
    clear hb3 HK2 HP2 HB2 v0 v1 v2 v3
    go_wp2_with fail
    refine (rgood_any p0 p1 p2 p3 w3).mono ?_
    rintro e w4 ⟨rfl, hb4⟩
    have HK4 := Lib.hid (HK3.out.out (X := fun _ => False) (Out.of_below hb4) (fun h => h))
    have HP4 := Lib.hid (HP3.out.later hb4)
    have HB4 := Lib.hid (HB3.out.trans (hb4.mono HB3.out.size))
    clear hb4 HK3 HP3 HB3
    rw [decide_eq_true HG.out]
    go_wp2_with fail
    refine (dec_any (some ⟨g2, 0, none⟩) 64 64 (encP ⟨p0, p1, p2, p3⟩) w4 (encP_length _).symm (by decide) (Nat.le_refl _) (HK4.out.bytes)).mono ?_
    rintro e w5 ⟨rfl, hb5⟩
    have hdv : decV (encP ⟨p0, p1, p2, p3⟩) = (⟨p0, p1, p2, p3⟩, 0) := by unfold decV; rw [decP_enc HG.out]
    rw [hdv]
    have HK5 := Lib.hid ((HK4.out.out (X := fun _ => False) (Out.of_below hb5) (fun h => h)).out (X := fun _ => False) (Out.of_below (sup_pt w5 (.cells #[.int .i64 p0, .int .i64 p1, .int .i64 p2, .int .i64 p3] PNT))) (fun h => h))
    have HP5 := Lib.hid ((HP4.out.later hb5).alloc (.cells #[.int .i64 p0, .int .i64 p1, .int .i64 p2, .int .i64 p3] PNT))
    have HQ5 := Lib.hid (blo_laid w5 PNT #[.int .i64 p0, .int .i64 p1, .int .i64 p2, .int .i64 p3])
    have HB5 := Lib.hid ((HB4.out.trans (hb5.mono HB4.out.size)).trans ((sup_pt w5 (.cells #[.int .i64 p0, .int .i64 p1, .int .i64 p2, .int .i64 p3] PNT)).mono (Nat.le_trans HB4.out.size hb5.size)))
    clear hb5 hdv HK4 HP4 HB4
    simp only [ptA]
    go_wp2_with fail
    generalize (w5.alloc (.cells #[.int .i64 p0, .int .i64 p1, .int .i64 p2, .int .i64 p3] PNT)) = w6 at *
    have v0 : ∀ x : Kept w6, x.at_.cell? ⟨w.heap.size, 0, none⟩ = some (.int .i64 p0) := fun x => by simpa using (HP5.out.later x.below).cell 0
    have v1 : ∀ x : Kept w6, x.at_.cell? ⟨w.heap.size, 1, none⟩ = some (.int .i64 p1) := fun x => by simpa using (HP5.out.later x.below).cell 1
    have v2 : ∀ x : Kept w6, x.at_.cell? ⟨w.heap.size, 2, none⟩ = some (.int .i64 p2) := fun x => by simpa using (HP5.out.later x.below).cell 2
    have v3 : ∀ x : Kept w6, x.at_.cell? ⟨w.heap.size, 3, none⟩ = some (.int .i64 p3) := fun x => by simpa using (HP5.out.later x.below).cell 3
    have u0 : ∀ x : Kept w6, x.at_.cell? ⟨w5.heap.size, 0, none⟩ = some (.int .i64 p0) := fun x => by simpa using (HQ5.out.later x.below).cell 0
    have u1 : ∀ x : Kept w6, x.at_.cell? ⟨w5.heap.size, 1, none⟩ = some (.int .i64 p1) := fun x => by simpa using (HQ5.out.later x.below).cell 1
    have u2 : ∀ x : Kept w6, x.at_.cell? ⟨w5.heap.size, 2, none⟩ = some (.int .i64 p2) := fun x => by simpa using (HQ5.out.later x.below).cell 2
    have u3 : ∀ x : Kept w6, x.at_.cell? ⟨w5.heap.size, 3, none⟩ = some (.int .i64 p3) := fun x => by simpa using (HQ5.out.later x.below).cell 3
    have HC1 := Lib.hid (fun x : Kept w6 => check_yes p0 p1 p2 p3 x.at_ HG.out)
    have HC2 := Lib.hid (fun x : Kept w6 => ref_any p0 p1 p2 p3 x.at_)
    have HC3 := Lib.hid (fun x : Kept w6 => rencode_any ⟨p0, p1, p2, p3⟩ x.at_ HG.out)
    have hcv : ∀ x : Kept w6, (convert 36 9 (.slice (some ⟨g2, 0, none⟩) 64 64)).run Try.prog x.at_ = .ok (.string (strOf (encP ⟨p0, p1, p2, p3⟩))) x.at_ := fun x =>
      run_str x.at_ 36 9 U8 Try.underlying36 Try.underlying5 Try.underlying9 (encP ⟨p0, p1, p2, p3⟩) _ 64 64 (encP_length _).symm ((HK5.out.out (X := fun _ => False) (Out.of_below x.below) (fun h => h)).bytes)
    have hne : ∀ W : World, (binOp .neq PNT (.agg #[.int .i64 p0, .int .i64 p1, .int .i64 p2, .int .i64 p3]) (.agg #[.int .i64 p0, .int .i64 p1, .int .i64 p2, .int .i64 p3])).run Try.prog W = .ok (.bool false) W := fun W => by
      have := neq_pt ⟨p0, p1, p2, p3⟩ ⟨p0, p1, p2, p3⟩ HF.out HF.out W
      simpa [ptA] using this
    generalize encP ⟨p0, p1, p2, p3⟩ = X at *
    have hs1 : ((strOf X).toList == (strOf X).toList) = true := by simp
    have hs2 : ((strOf X).toList != (strOf X).toList) = false := by simp
    refine wp_region_kept (by kernel_rfl) (by kernel_rfl) ?_
    repeat (go_big_quiet_step ((first | (go_at_call 30; exact kept_call _ (HC1.out _)) | (go_at_call 14; exact kept_call _ (HC2.out _)) | (go_at_call 25; exact kept_call _ (HC3.out _)) | fail)))
    refine wpQuiet_nil ?_
    rintro W ⟨wx, rfl⟩
    have HB6 := Lib.hid (HB5.out.trans (wx.below.mono HB5.out.size))
    obtain ⟨w7, hw7⟩ : ∃ w7, wx.at_ = w7 := ⟨_, rfl⟩
    rw [hw7] at HB6 ⊢
    clear hw7 v0 v1 v2 v3 u0 u1 u2 u3 HC1 HC2 HC3 hcv hne hs1 hs2 HK5 HP5 HQ5 HB5
    go_upto_region 10 with (fail)
    have hal : Below w7.heap.size w7 (w7.alloc (.cells #[] U8)) := (Below.refl _ _).alloc (Nat.le_refl _) _
    have HAl := Lib.hid hal
    have HLen : Hid ((cellsB l).length = len * 1) := by show (cellsB l).length = len * 1; rw [cellsB_length, HN.out]; omega
    clear hal
    go_upto_region 11 with (at_builtin; refine wp_copy_in rfl (.tmp 72) (.tmp 73) 36 rfl w7.heap.size U8 (.int .u8 0) 1 1 Try.underlying36 info_u8b rfl (by decide) (.slice (some ⟨w7.heap.size, 0, none⟩) 0 0) rfl (own_empty w7 w7.heap.size U8 1 (Nat.le_refl _)) a len cap (cellsB l) rfl HLen.out (bytes_add (HBy.out.below (HB6.out.trans (HAl.out.mono HB6.out.size)))) (cellsB_one _) HNil.out (by omega) (by omega) (by simp) ?_; intro a5 c5 w8 hown hgrow; have HO8 := Lib.hid hown; have HB8 : Hid (Below w7.heap.size w7 w8) := HAl.out.grown hgrow HAl.out.size (fun q hq => by simp [Value.ownBlock] at hq; omega); clear hown hgrow)
    have HB8w := Lib.hid (HB6.out.trans (HB8.out.mono HB6.out.size))
    clear HB6 HB8 HAl HLen
    obtain ⟨hi1, hi2, hi3⟩ := bytes_own HO8.out HBy.out.1 HBy.out.2.1
    have HI1 := Lib.hid hi1
    have HI2 := Lib.hid hi2
    have HI3 := Lib.hid hi3
    clear hi1 hi2 hi3
    go_wp2_with fail
    refine (dec_any a5 len c5 l w8 HI2.out (by have := HL.out; omega) HI3.out HI1.out).mono ?_
    rintro e w9 ⟨rfl, hb9⟩
    have HI9 := Lib.hid (HI1.out.below hb9)
    have HB9 := Lib.hid (HB8w.out.trans (hb9.mono HB8w.out.size))
    have HFt := Lib.hid (decV_fit l)
    have HR := Lib.hid (fun W => rdec_any l W HBy.out.1)
    clear hb9 HI1 HB8w HO8
    generalize decV l = dv at *
    obtain ⟨⟨d0, d1, d2, d3⟩, code⟩ := dv
    simp only [ptA] at HR ⊢
    have HI10 : Hid (Bytes (w9.alloc (.cells #[.int .i64 d0, .int .i64 d1, .int .i64 d2, .int .i64 d3] PNT)) a5 l) := HI9.out.below (sup_pt w9 _)
    have HQ10 := Lib.hid (blo_laid w9 PNT #[.int .i64 d0, .int .i64 d1, .int .i64 d2, .int .i64 d3])
    have HB10 := Lib.hid (HB9.out.trans ((sup_pt w9 (.cells #[.int .i64 d0, .int .i64 d1, .int .i64 d2, .int .i64 d3] PNT)).mono HB9.out.size))
    clear HI9 HB9
    go_upto_region 12 with (fail)
    generalize (w9.alloc (.cells #[.int .i64 d0, .int .i64 d1, .int .i64 d2, .int .i64 d3] PNT)) = w10 at *
    generalize w9.heap.size = gq at *
    have hcv := run_str w10 36 9 U8 Try.underlying36 Try.underlying5 Try.underlying9 l a len cap HN.out (HBy.out.below HB10.out)
    go_wp2_with fail
    clear hcv
    refine (HR.out w10).mono ?_
    rintro e w11 ⟨rfl, hb11⟩
    have HI11 := Lib.hid ((HI10.out.below hb11).below (sup_pt w11 (.cells #[.int .i64 d0, .int .i64 d1, .int .i64 d2, .int .i64 d3] RPT)))
    have HQ11 := Lib.hid ((HQ10.out.later hb11).alloc (.cells #[.int .i64 d0, .int .i64 d1, .int .i64 d2, .int .i64 d3] RPT))
    have HW11 := Lib.hid (blo_laid w11 RPT #[.int .i64 d0, .int .i64 d1, .int .i64 d2, .int .i64 d3])
    have HB11 := Lib.hid ((HB10.out.trans (hb11.mono HB10.out.size)).trans ((sup_pt w11 (.cells #[.int .i64 d0, .int .i64 d1, .int .i64 d2, .int .i64 d3] RPT)).mono (Nat.le_trans HB10.out.size hb11.size)))
    clear hb11 HI10 HQ10 HB10 HR
    simp only [ptA]
    go_wp2_with fail
    generalize (w11.alloc (.cells #[.int .i64 d0, .int .i64 d1, .int .i64 d2, .int .i64 d3] RPT)) = w12 at *
    have v0 : ∀ x : Kept w12, x.at_.cell? ⟨gq, 0, none⟩ = some (.int .i64 d0) := fun x => by simpa using (HQ11.out.later x.below).cell 0
    have v1 : ∀ x : Kept w12, x.at_.cell? ⟨gq, 1, none⟩ = some (.int .i64 d1) := fun x => by simpa using (HQ11.out.later x.below).cell 1
    have v2 : ∀ x : Kept w12, x.at_.cell? ⟨gq, 2, none⟩ = some (.int .i64 d2) := fun x => by simpa using (HQ11.out.later x.below).cell 2
    have v3 : ∀ x : Kept w12, x.at_.cell? ⟨gq, 3, none⟩ = some (.int .i64 d3) := fun x => by simpa using (HQ11.out.later x.below).cell 3
    have u0 : ∀ x : Kept w12, x.at_.cell? ⟨w11.heap.size, 0, none⟩ = some (.int .i64 d0) := fun x => by simpa using (HW11.out.later x.below).cell 0
    have u1 : ∀ x : Kept w12, x.at_.cell? ⟨w11.heap.size, 1, none⟩ = some (.int .i64 d1) := fun x => by simpa using (HW11.out.later x.below).cell 1
    have u2 : ∀ x : Kept w12, x.at_.cell? ⟨w11.heap.size, 2, none⟩ = some (.int .i64 d2) := fun x => by simpa using (HW11.out.later x.below).cell 2
    have u3 : ∀ x : Kept w12, x.at_.cell? ⟨w11.heap.size, 3, none⟩ = some (.int .i64 d3) := fun x => by simpa using (HW11.out.later x.below).cell 3
    have HC2 := Lib.hid (fun x : Kept w12 => ref_any d0 d1 d2 d3 x.at_)
    have hcv1 : ∀ x : Kept w12, (convert 36 9 (.slice a5 len c5)).run Try.prog x.at_ = .ok (.string (strOf l)) x.at_ := fun x =>
      run_str x.at_ 36 9 U8 Try.underlying36 Try.underlying5 Try.underlying9 l a5 len c5 HN.out (HI11.out.below x.below)
    have hcv2 : ∀ x : Kept w12, (convert 36 9 (.slice a len cap)).run Try.prog x.at_ = .ok (.string (strOf l)) x.at_ := fun x =>
      run_str x.at_ 36 9 U8 Try.underlying36 Try.underlying5 Try.underlying9 l a len cap HN.out (HBy.out.below (HB11.out.trans (x.below.mono HB11.out.size)))
    have hne : ∀ W : World, (binOp .eql RPT (.agg #[.int .i64 d0, .int .i64 d1, .int .i64 d2, .int .i64 d3]) (.agg #[.int .i64 d0, .int .i64 d1, .int .i64 d2, .int .i64 d3])).run Try.prog W = .ok (.bool true) W := fun W => by
      have := eql_rpt ⟨d0, d1, d2, d3⟩ ⟨d0, d1, d2, d3⟩ HFt.out HFt.out W
      simpa [ptA] using this
    have hs1 : ((strOf l).toList == (strOf l).toList) = true := by simp
    have hcc : (code == code) = true := by simp
    refine wp_region_kept (by kernel_rfl) (by kernel_rfl) ?_
    repeat (go_big_quiet_step ((first | (go_at_call 14; exact kept_call _ (HC2.out _)) | fail)))
    refine wpQuiet_nil ?_
    rintro W ⟨wy, rfl⟩
    have HB12 := Lib.hid (HB11.out.trans (wy.below.mono HB11.out.size))
    clear v0 v1 v2 v3 u0 u1 u2 u3 HC2 hcv1 hcv2 hne hs1 hcc
    go_wp2
    go_ret
    exact ⟨by first | rfl | simp, HB12.out⟩
  · have HG := Lib.hid hg
    clear hg
    refine (encode_bad p0 p1 p2 p3 w1 HG.out).mono ?_
    rintro e w2 ⟨rfl, hb2⟩
    have HP2 := Lib.hid (HP1.out.later hb2)
    have HB2 := Lib.hid (HB1.out.trans (hb2.mono HB1.out.size))
    clear hb2 HP1 HB1 v0 v1 v2 v3
    have v0 := HP2.out.cell 0
    have v1 := HP2.out.cell 1
    have v2 := HP2.out.cell 2
    have v3 := HP2.out.cell 3
    simp at v0 v1 v2 v3
    go_wp2_with fail
    refine (ref_any p0 p1 p2 p3 w2).mono ?_
    rintro e w3 ⟨rfl, hb3⟩
    have HP3 := Lib.hid (HP2.out.later hb3)
    have HB3 := Lib.hid (HB2.out.trans (hb3.mono HB2.out.size))
    clear hb3 HP2 HB2 v0 v1 v2 v3
    go_wp2_with fail
    refine (rgood_any p0 p1 p2 p3 w3).mono ?_
    rintro e w4 ⟨rfl, hb4⟩
    have HP4 := Lib.hid (HP3.out.later hb4)
    have HB4 := Lib.hid (HB3.out.trans (hb4.mono HB3.out.size))
    clear hb4 HP3 HB3
    rw [decide_eq_false HG.out]
    have v0 := HP4.out.cell 0
    have v1 := HP4.out.cell 1
    have v2 := HP4.out.cell 2
    have v3 := HP4.out.cell 3
    simp at v0 v1 v2 v3
    go_wp2_with fail
    refine (check_no p0 p1 p2 p3 w4 HG.out).mono ?_
    rintro e w7 ⟨rfl, hb7⟩
    have HB6 := Lib.hid (HB4.out.trans (hb7.mono HB4.out.size))
    clear hb7 HP4 HB4 v0 v1 v2 v3
    go_upto_region 10 with (fail)
    have hal : Below w7.heap.size w7 (w7.alloc (.cells #[] U8)) := (Below.refl _ _).alloc (Nat.le_refl _) _
    have HAl := Lib.hid hal
    have HLen : Hid ((cellsB l).length = len * 1) := by show (cellsB l).length = len * 1; rw [cellsB_length, HN.out]; omega
    clear hal
    go_upto_region 11 with (at_builtin; refine wp_copy_in rfl (.tmp 72) (.tmp 73) 36 rfl w7.heap.size U8 (.int .u8 0) 1 1 Try.underlying36 info_u8b rfl (by decide) (.slice (some ⟨w7.heap.size, 0, none⟩) 0 0) rfl (own_empty w7 w7.heap.size U8 1 (Nat.le_refl _)) a len cap (cellsB l) rfl HLen.out (bytes_add (HBy.out.below (HB6.out.trans (HAl.out.mono HB6.out.size)))) (cellsB_one _) HNil.out (by omega) (by omega) (by simp) ?_; intro a5 c5 w8 hown hgrow; have HO8 := Lib.hid hown; have HB8 : Hid (Below w7.heap.size w7 w8) := HAl.out.grown hgrow HAl.out.size (fun q hq => by simp [Value.ownBlock] at hq; omega); clear hown hgrow)
    have HB8w := Lib.hid (HB6.out.trans (HB8.out.mono HB6.out.size))
    clear HB6 HB8 HAl HLen
    obtain ⟨hi1, hi2, hi3⟩ := bytes_own HO8.out HBy.out.1 HBy.out.2.1
    have HI1 := Lib.hid hi1
    have HI2 := Lib.hid hi2
    have HI3 := Lib.hid hi3
    clear hi1 hi2 hi3
    go_wp2_with fail
    refine (dec_any a5 len c5 l w8 HI2.out (by have := HL.out; omega) HI3.out HI1.out).mono ?_
    rintro e w9 ⟨rfl, hb9⟩
    have HI9 := Lib.hid (HI1.out.below hb9)
    have HB9 := Lib.hid (HB8w.out.trans (hb9.mono HB8w.out.size))
    have HFt := Lib.hid (decV_fit l)
    have HR := Lib.hid (fun W => rdec_any l W HBy.out.1)
    clear hb9 HI1 HB8w HO8
    generalize decV l = dv at *
    obtain ⟨⟨d0, d1, d2, d3⟩, code⟩ := dv
    simp only [ptA] at HR ⊢
    have HI10 : Hid (Bytes (w9.alloc (.cells #[.int .i64 d0, .int .i64 d1, .int .i64 d2, .int .i64 d3] PNT)) a5 l) := HI9.out.below (sup_pt w9 _)
    have HQ10 := Lib.hid (blo_laid w9 PNT #[.int .i64 d0, .int .i64 d1, .int .i64 d2, .int .i64 d3])
    have HB10 := Lib.hid (HB9.out.trans ((sup_pt w9 (.cells #[.int .i64 d0, .int .i64 d1, .int .i64 d2, .int .i64 d3] PNT)).mono HB9.out.size))
    clear HI9 HB9
    go_upto_region 12 with (fail)
    generalize (w9.alloc (.cells #[.int .i64 d0, .int .i64 d1, .int .i64 d2, .int .i64 d3] PNT)) = w10 at *
    generalize w9.heap.size = gq at *
    have hcv := run_str w10 36 9 U8 Try.underlying36 Try.underlying5 Try.underlying9 l a len cap HN.out (HBy.out.below HB10.out)
    go_wp2_with fail
    clear hcv
    refine (HR.out w10).mono ?_
    rintro e w11 ⟨rfl, hb11⟩
    have HI11 := Lib.hid ((HI10.out.below hb11).below (sup_pt w11 (.cells #[.int .i64 d0, .int .i64 d1, .int .i64 d2, .int .i64 d3] RPT)))
    have HQ11 := Lib.hid ((HQ10.out.later hb11).alloc (.cells #[.int .i64 d0, .int .i64 d1, .int .i64 d2, .int .i64 d3] RPT))
    have HW11 := Lib.hid (blo_laid w11 RPT #[.int .i64 d0, .int .i64 d1, .int .i64 d2, .int .i64 d3])
    have HB11 := Lib.hid ((HB10.out.trans (hb11.mono HB10.out.size)).trans ((sup_pt w11 (.cells #[.int .i64 d0, .int .i64 d1, .int .i64 d2, .int .i64 d3] RPT)).mono (Nat.le_trans HB10.out.size hb11.size)))
    clear hb11 HI10 HQ10 HB10 HR
    simp only [ptA]
    go_wp2_with fail
    generalize (w11.alloc (.cells #[.int .i64 d0, .int .i64 d1, .int .i64 d2, .int .i64 d3] RPT)) = w12 at *
    have v0 : ∀ x : Kept w12, x.at_.cell? ⟨gq, 0, none⟩ = some (.int .i64 d0) := fun x => by simpa using (HQ11.out.later x.below).cell 0
    have v1 : ∀ x : Kept w12, x.at_.cell? ⟨gq, 1, none⟩ = some (.int .i64 d1) := fun x => by simpa using (HQ11.out.later x.below).cell 1
    have v2 : ∀ x : Kept w12, x.at_.cell? ⟨gq, 2, none⟩ = some (.int .i64 d2) := fun x => by simpa using (HQ11.out.later x.below).cell 2
    have v3 : ∀ x : Kept w12, x.at_.cell? ⟨gq, 3, none⟩ = some (.int .i64 d3) := fun x => by simpa using (HQ11.out.later x.below).cell 3
    have u0 : ∀ x : Kept w12, x.at_.cell? ⟨w11.heap.size, 0, none⟩ = some (.int .i64 d0) := fun x => by simpa using (HW11.out.later x.below).cell 0
    have u1 : ∀ x : Kept w12, x.at_.cell? ⟨w11.heap.size, 1, none⟩ = some (.int .i64 d1) := fun x => by simpa using (HW11.out.later x.below).cell 1
    have u2 : ∀ x : Kept w12, x.at_.cell? ⟨w11.heap.size, 2, none⟩ = some (.int .i64 d2) := fun x => by simpa using (HW11.out.later x.below).cell 2
    have u3 : ∀ x : Kept w12, x.at_.cell? ⟨w11.heap.size, 3, none⟩ = some (.int .i64 d3) := fun x => by simpa using (HW11.out.later x.below).cell 3
    have HC2 := Lib.hid (fun x : Kept w12 => ref_any d0 d1 d2 d3 x.at_)
    have hcv1 : ∀ x : Kept w12, (convert 36 9 (.slice a5 len c5)).run Try.prog x.at_ = .ok (.string (strOf l)) x.at_ := fun x =>
      run_str x.at_ 36 9 U8 Try.underlying36 Try.underlying5 Try.underlying9 l a5 len c5 HN.out (HI11.out.below x.below)
    have hcv2 : ∀ x : Kept w12, (convert 36 9 (.slice a len cap)).run Try.prog x.at_ = .ok (.string (strOf l)) x.at_ := fun x =>
      run_str x.at_ 36 9 U8 Try.underlying36 Try.underlying5 Try.underlying9 l a len cap HN.out (HBy.out.below (HB11.out.trans (x.below.mono HB11.out.size)))
    have hne : ∀ W : World, (binOp .eql RPT (.agg #[.int .i64 d0, .int .i64 d1, .int .i64 d2, .int .i64 d3]) (.agg #[.int .i64 d0, .int .i64 d1, .int .i64 d2, .int .i64 d3])).run Try.prog W = .ok (.bool true) W := fun W => by
      have := eql_rpt ⟨d0, d1, d2, d3⟩ ⟨d0, d1, d2, d3⟩ HFt.out HFt.out W
      simpa [ptA] using this
    have hs1 : ((strOf l).toList == (strOf l).toList) = true := by simp
    have hcc : (code == code) = true := by simp
    refine wp_region_kept (by kernel_rfl) (by kernel_rfl) ?_
    repeat (go_big_quiet_step ((first | (go_at_call 14; exact kept_call _ (HC2.out _)) | fail)))
    refine wpQuiet_nil ?_
    rintro W ⟨wy, rfl⟩
    have HB12 := Lib.hid (HB11.out.trans (wy.below.mono HB11.out.size))
    clear v0 v1 v2 v3 u0 u1 u2 u3 HC2 hcv1 hcv2 hne hs1 hcc
    go_wp2
    go_ret
    exact ⟨by first | rfl | simp, HB12.out⟩
theorem pointBlocks_walk (p0 p1 p2 p3 : Int) (a : Option Addr) (len cap : Nat) (zs : List Int) (w : World) (w0 : (Lit.int .i64 p0).wf = true) (w1 : (Lit.int .i64 p1).wf = true) (w2 : (Lit.int .i64 p2).wf = true) (w3 : (Lit.int .i64 p3).wf = true) (hr : IsRow .u8 w a len cap zs) :
    Calls Try.prog 4 #[.agg #[.int .i64 p0, .int .i64 p1, .int .i64 p2, .int .i64 p3], .slice a len cap] w fun e w' => e = .returned (.bool true) ∧ Below w.heap.size w w' := by
  obtain ⟨l, hl, hB, ha, hm, hc⟩ := hr.bytes
  by_cases h : len ≤ 500
  · exact pointBlocks_any p0 p1 p2 p3 a len cap l w h ⟨wf_bounds w0, wf_bounds w1, wf_bounds w2, wf_bounds w3⟩ hl hB (fun e => ⟨by rw [hl, (ha e).1]; rfl, (ha e).2⟩) hc
  · exact pointBlocks_long p0 p1 p2 p3 a len cap w (by omega) hm
end Go.Proofs.Ytmkhliabmodbdaa
