/-
  Four directory entries: come in by value; held against each other; EntryDirs.
-/
import Derived.Test.YtagigeacjendiaaEnRefE
import Derived.Test.YtagigeacjendiaaEnAwake
namespace Go.Proofs.Ytagigeacjendiaa
open Go.RowKit

theorem cells_a4 : Try.prog.cellsOf A4D = 8 := by kernel_rfl
theorem key_a4 : Try.prog.keyTypeAt 4 A4D = true := by kernel_rfl
def lits8 (I : Nat → Int) (N : Nat → ByteArray) : List Lit := [.int .i64 (I 0), .string (N 0).data.toList, .int .i64 (I 1), .string (N 1).data.toList, .int .i64 (I 2), .string (N 2).data.toList, .int .i64 (I 3), .string (N 3).data.toList]
set_option maxHeartbeats 2000000 in
theorem a4_lits (I : Nat → Int) (N : Nat → ByteArray) (h : FitD I N) : Try.prog.keyLits 4 A4D (cells8 I N).toList = some (lits8 I N) := by
  have wa := fun i hi => wf_i64 _ (h i hi).1
  have a0 := wa 0 (by decide)
  have a1 := wa 1 (by decide)
  have a2 := wa 2 (by decide)
  have a3 := wa 3 (by decide)
  have s0 := (h 0 (by decide)).2
  have s1 := (h 1 (by decide)).2
  have s2 := (h 2 (by decide)).2
  have s3 := (h 3 (by decide)).2
  have b0 := (h 0 (by decide)).1
  have b1 := (h 1 (by decide)).1
  have b2 := (h 2 (by decide)).1
  have b3 := (h 3 (by decide)).1
  have c0 : IntKind.i64.min ≤ I 0 ∧ I 0 ≤ 9223372036854775807 := ⟨b0.1, b0.2⟩
  have c1 : IntKind.i64.min ≤ I 1 ∧ I 1 ≤ 9223372036854775807 := ⟨b1.1, b1.2⟩
  have c2 : IntKind.i64.min ≤ I 2 ∧ I 2 ≤ 9223372036854775807 := ⟨b2.1, b2.2⟩
  have c3 : IntKind.i64.min ≤ I 3 ∧ I 3 ≤ 9223372036854775807 := ⟨b3.1, b3.2⟩
  simp [cells8, lits8, Program.keyLits, Try.underlying40, Try.underlying39, Try.underlying3, Try.underlying9, cells_int, cells_strd, cells_den, cells_a4, List.range, List.range.loop, Lit.wf, c0, c1, c2, c3, s0, s1, s2, s3]
def Same4 (I I' : Nat → Int) (N N' : Nat → ByteArray) : Prop := ∀ i, i < 4 → I i = I' i ∧ N i = N' i
theorem equal_a4 (I I' : Nat → Int) (N N' : Nat → ByteArray) (h : FitD I N) (h' : FitD I' N') : ∃ r : Bool, (r = true ↔ Same4 I I' N N') ∧ ∀ W, (Op.equalIn 10000 A4D (.agg (cells8 I N)) (.agg (cells8 I' N'))).run Try.prog W = .ok r W := by
  have hiff : lits8 I N = lits8 I' N' ↔ Same4 I I' N N' := by
    unfold lits8
    simp only [List.cons.injEq, Lit.int.injEq, Lit.string.injEq, and_true, true_and]
    constructor
    · rintro ⟨a0, b0, a1, b1, a2, b2, a3, b3⟩ i hi
      have : i = 0 ∨ i = 1 ∨ i = 2 ∨ i = 3 := by omega
      rcases this with rfl | rfl | rfl | rfl
      · exact ⟨a0, str_extE b0⟩
      · exact ⟨a1, str_extE b1⟩
      · exact ⟨a2, str_extE b2⟩
      · exact ⟨a3, str_extE b3⟩
    · intro h
      exact ⟨(h 0 (by decide)).1, by rw [(h 0 (by decide)).2], (h 1 (by decide)).1, by rw [(h 1 (by decide)).2], (h 2 (by decide)).1, by rw [(h 2 (by decide)).2], (h 3 (by decide)).1, by rw [(h 3 (by decide)).2]⟩
  classical
  refine ⟨decide (Same4 I I' N N'), by simp, fun W => ?_⟩
  obtain ⟨r, hr, hi⟩ := run_equalIn_deep (P := Try.prog) 9996 4 A4D key_a4 W 4 4 (.agg (cells8 I N)) (.agg (cells8 I' N')) _ _ (by simp [Value.formed, Try.underlying40, cells_a4, cells8]) (by simp [Value.formed, Try.underlying40, cells_a4, cells8]) (a4_lits I N h) (a4_lits I' N' h')
  have e : r = decide (Same4 I I' N N') := by rw [Bool.eq_iff_iff, hi, hiff, decide_eq_true_eq]
  rw [e] at hr
  exact hr
theorem equal_a4s (I : Nat → Int) (N : Nat → ByteArray) (h : FitD I N) (W : World) : (Op.equalIn 10000 A4D (.agg (cells8 I N)) (.agg (cells8 I N))).run Try.prog W = .ok true W := by
  obtain ⟨r, h1, h2⟩ := equal_a4 I I N N h h
  rw [h2, h1.2 (fun i _ => ⟨rfl, rfl⟩)]
section
open Go.ChangeShapes Go.WideShapes Go.ChangeAt
/-- Four directory entries that came in by value. -/
theorem open_dir4 {H : Type} {enc : TypeId × Value → H} {w : World} {base : Nat} {spare : Nat → Bool} {held : Bool} {r : Reach} {b0 : Nat} {v : Value} {d : DataW H} {p : List MemPlace}
    (hv : Value.okWide Try.prog w r b0 A4D v) (h : DataW.Trod enc Try.prog w base spare held A4D v d p) :
    ∃ (I : Nat → Int) (N : Nat → ByteArray), v = .agg (cells8 I N) ∧ FitD I N := by
  have hs := Try.underlying40
  simp only [Value.okWide, hs] at hv
  obtain ⟨cs, rfl, hsz, _⟩ := hv
  have hsz' := hsz.trans cells_a4
  obtain ⟨fuel, hf⟩ := h
  obtain ⟨xs, m, rfl, hx1, hlen, hn, hel⟩ := DataW.trod_array hs hf
  have key : ∀ i, i < 4 → ∃ (x : Int) (y : ByteArray), cs[i * 2]? = some (.int .i64 x) ∧ cs[i * 2 + 1]? = some (.string y) ∧ FitZ x ∧ y.size ≤ maxLen := fun i hi => by
    have h0 := hel i hi
    rw [cells_den, List.getElem?_eq_getElem (by omega)] at h0
    obtain ⟨y0, y1, n, _, hl, q0, q1⟩ := trod_struct2 Try.underlying39 h0
    obtain ⟨x, e1, _, wx⟩ := DataW.trod_int Try.underlying3 q0
    obtain ⟨y, e2, _, wy⟩ := DataW.trod_string Try.underlying9 q1
    have u1 := congrArg (·[0]?) e1
    have u2 := congrArg (·[0]?) e2
    simp [Value.cells, cells_int, cells_strd, List.getElem?_take, List.getElem?_drop] at u1 u2
    exact ⟨x, y, u1, u2, fit_wf wx, wy⟩
  refine ⟨fun i => match cs[i * 2]? with | some (.int _ x) => x | _ => 0, fun i => match cs[i * 2 + 1]? with | some (.string x) => x | _ => ⟨#[]⟩, ?_, fun i hi => ?_⟩
  · congr 1
    refine Array.ext_getElem? fun j => ?_
    rcases Nat.lt_or_ge j 8 with hj | hj
    · obtain ⟨x, y, k1, k2, _, _⟩ := key (j / 2) (by omega)
      obtain ⟨c0, c1⟩ := cells8_at (fun i => match cs[i * 2]? with | some (.int _ x) => x | _ => 0) (fun i => match cs[i * 2 + 1]? with | some (.string x) => x | _ => ⟨#[]⟩) (j / 2) (by omega)
      simp only [k1, k2] at c0 c1
      rcases Nat.mod_two_eq_zero_or_one j with e | e
      · have ej : j / 2 * 2 = j := by omega
        rw [ej] at k1 c0
        rw [k1, c0]
      · have ej : j / 2 * 2 + 1 = j := by omega
        rw [ej] at k2 c1
        rw [k2, c1]
    · rw [Array.getElem?_eq_none (by omega), Array.getElem?_eq_none (show (cells8 _ _).size ≤ j by show 8 ≤ j; exact hj)]
  · obtain ⟨x, y, k1, k2, fx, fy⟩ := key i hi
    simp only [k1, k2]
    exact ⟨fx, fy⟩
end
def DnR (w1 : World) (t : Value) (W : World) : Prop := ∃ k : Nat, k ≤ 4 ∧ t = .int .i64 k ∧ w1 = W
set_option maxRecDepth 100000 in
set_option maxHeartbeats 8000000 in
theorem entryDirs_walk (I : Nat → Int) (N : Nat → ByteArray) (w : World) (hf : FitD I N) : Calls Try.prog 4 #[.agg (cells8 I N)] w fun e w' => e = .returned (.bool true) ∧ Below w.heap.size w w' := by
  have hb0 := sup_en w (.cells (cells8 I N) A4D)
  have HB0 := Lib.hid hb0
  have HM0 := Lib.hid (blo_laid w A4D (cells8 I N))
  have HI := Lib.hid (info_a4g I N)
  have HO := Lib.hid (cells8_one I N)
  have HMb : Hid (∀ W, Calls Try.prog 14 #[.agg (cells8 I N)] W (DbO W I N)) := fun W => dirBlock_any I N W hf
  have HRm := Lib.hid (refDir_any I N)
  have HRb := Lib.hid (rdirBlock_any I N)
  have HEq := Lib.hid (equal_a4s I N hf)
  have HZ : Hid ((Try.prog.info? A4D).map (·.size) = some z8d.size) := info_a4
  have hu := Try.underlying40
  have HEl : Hid (AllGD I N 4 → (encDK I N 4).length = 64) := encDK_len I N 4
  have HEb := Lib.hid (encDK_byte I N 4)
  have HRead : Hid (∀ b o cap W, 64 ≤ cap → Bytes W (some ⟨b, o, none⟩) (encDK I N 4) → AllGD I N 4 → Calls Try.prog 17 #[.slice (some ⟨b, o, none⟩) 64 cap] W fun e W' => e = .returned (.tuple #[.agg (cells8 I N), .int .i64 0]) ∧ Below W.heap.size W W') := fun b o cap W hcap hby hg =>
    (readDir_64 b o cap (encDK I N 4) W (encDK_len I N 4 hg) hcap hby).mono fun e W' ⟨h1, h2⟩ => by
      obtain ⟨ok, hc⟩ := okD_enc hg
      rcases h1 with ⟨_, he⟩ | ⟨hno, _⟩
      · exact ⟨by rw [he, hc], h2⟩
      · exact absurd ok hno
  have HSz : Hid ((cells8 I N).size = z8d.size) := rfl
  have HAt := Lib.hid (cells8_at I N)
  clear hf hb0
  unfold DbO at HMb
  unfold RdbO at HRb
  generalize cells8 I N = CS at *
  generalize encDK I N 4 = ek at *
  generalize AllGD I N 4 = AG at *
  go_enter Try.func4, Try.ntmps4
  go_wp2_with fail
  refine (awake_any _).mono ?_
  rintro e w1 ⟨rfl, hb1⟩
  have HB1 := Lib.hid (HB0.out.trans (hb1.mono HB0.out.size))
  have HM1 := Lib.hid (HM0.out.later hb1)
  clear hb1 HB0 HM0
  go_wp2_with fail
  go_loopw [3, 12] (fun _ t wq => DnR w1 t wq) (fun _ t _ => 4 - (intOf t).toNat)
  case atStart => exact ⟨0, by decide, rfl, rfl⟩
  case round =>
    obtain ⟨k, hk, rfl, rfl⟩ := hrel
    by_cases hlt : k < 4
    · have k0 : (0 : Int) ≤ (k : Int) := by omega
      have k1 : (k : Int) < 4 := by omega
      have HKn : Hid (k < 4) := hlt
      have d1 := (HAt.out k hlt).2
      rw [← HM1.out.cell] at d1
      clear hlt hk
      generalize N k = nk at *
      by_cases hbig : 300 < nk.size
      · have hb' : (300 : Int) < (nk.size : Int) := by omega
        clear hbig
        go_wp2_with fail
        go_ret
        exact ⟨rfl, HB1.out⟩
      · have hb' : ¬ (300 : Int) < (nk.size : Int) := by omega
        clear hbig
        go_wp2_with fail
        go_roundw
        case rel => exact ⟨k + 1, HKn.out, by go_num, rfl⟩
        case measure => simp [intOf]; have := HKn.out; omega
    · have k1 : ¬ (k : Int) < 4 := by omega
      clear hlt hk HAt
      go_wp2_with (refine wpList_load_row rfl A4D (.tmp 1) rfl w.heap.size rfl A4D CS (0, 0) _ HM1.out hu rfl HI.out ?_)
      refine (HMb.out _).mono ?_
      rintro e w2 ⟨h1, hb2⟩
      have HB2 := Lib.hid (HB1.out.trans (hb2.mono HB1.out.size))
      have HM2 := Lib.hid (HM1.out.later hb2)
      clear HB1 HM1
      rcases h1 with ⟨hag, a, cap, rfl, ho⟩ | ⟨hag, rfl⟩
      · obtain ⟨a', cap', hva, -, hby, -⟩ := Bytes.own ho HEb.out
        cases hva
        have HBy := Lib.hid hby
        have HCap : Hid (64 ≤ cap) := by obtain ⟨a2, c2, hv2, hc2⟩ := own_slice ho; cases hv2; exact hc2
        have HAg := Lib.hid hag
        have HLe := Lib.hid (HEl.out hag)
        obtain ⟨g, og, hg, -⟩ := hby.2.2 (by intro e; have := HLe.out; rw [e] at this; cases this)
        subst hg
        clear ho hby hag hb2
        go_wp2_with (refine wpList_load_row rfl A4D (.tmp 1) rfl w.heap.size rfl A4D CS (0, 0) _ HM2.out hu rfl HI.out ?_)
        refine (HRm.out _).mono ?_
        rintro e w3 ⟨rfl, hb3⟩
        have HB3 := Lib.hid (HB2.out.trans (hb3.mono HB2.out.size))
        have HM3 := Lib.hid (HM2.out.later hb3)
        have HBy3 := Lib.hid (HBy.out.below hb3)
        clear hb3 HB2 HM2 HBy
        go_wp2_with fail
        refine (HRb.out _).mono ?_
        rintro e w4 ⟨h4, hb4⟩
        rcases h4 with ⟨_, rfl⟩ | ⟨hno, _⟩
        · have HB4 := Lib.hid (HB3.out.trans (hb4.mono HB3.out.size))
          have HM4 := Lib.hid (HM3.out.later hb4)
          have HBy4 := Lib.hid (HBy3.out.below hb4)
          have hcv := run_str w4 26 9 U8 Try.underlying26 Try.underlying5 Try.underlying9 ek (some ⟨g, og, none⟩) 64 cap HLe.out.symm HBy4.out
          clear hb4 HB3 HM3 HBy3
          generalize strOf ek = tx at *
          go_wp2_with fail
          refine (HRead.out _ _ _ _ HCap.out HBy4.out HAg.out).mono ?_
          rintro e w5 ⟨rfl, hb5⟩
          have HB5 := Lib.hid (HB4.out.trans (hb5.mono HB4.out.size))
          have HM5 := Lib.hid (HM4.out.later hb5)
          clear hb5 HB4 HM4 HBy4 hcv
          have hz5 := blo_laid w5 A4D z8d
          go_upto_region 16 with (refine wpList_store_row rfl A4D (.tmp 8) (.tmp 47) rfl w5.heap.size CS rfl rfl A4D _ hz5 HI.out HSz.out.symm HO.out ?_)
          have hr5 : Blo ((w5.alloc (.cells #[.int .i64 0, .string ⟨#[]⟩, .int .i64 0, .string ⟨#[]⟩, .int .i64 0, .string ⟨#[]⟩, .int .i64 0, .string ⟨#[]⟩] 40)).setRow w5.heap.size CS) w5.heap.size A4D CS := setRow_heap _ w5.heap.size _ _ _ _ hz5
          have hb5 := sup_en w5 (.cells z8d A4D)
          have hl0 : w.heap.size ≠ w5.heap.size := Nat.ne_of_lt HM5.out.lt
          have hr0 : Blo ((w5.alloc (.cells #[.int .i64 0, .string ⟨#[]⟩, .int .i64 0, .string ⟨#[]⟩, .int .i64 0, .string ⟨#[]⟩, .int .i64 0, .string ⟨#[]⟩] 40)).setRow w5.heap.size CS) w.heap.size A4D CS := by
            show _ = _
            rw [setRow_other _ _ _ _ hl0]; exact HM5.out.later hb5
          have hB : Below w.heap.size w ((w5.alloc (.cells #[.int .i64 0, .string ⟨#[]⟩, .int .i64 0, .string ⟨#[]⟩, .int .i64 0, .string ⟨#[]⟩, .int .i64 0, .string ⟨#[]⟩] 40)).setRow w5.heap.size CS) := below_setRow (HB5.out.trans (hb5.mono HB5.out.size)) HB5.out.size _
          have HR5 := Lib.hid hr5
          have HR0 := Lib.hid hr0
          have HB6 := Lib.hid hB
          have heq := HEq.out ((w5.alloc (.cells #[.int .i64 0, .string ⟨#[]⟩, .int .i64 0, .string ⟨#[]⟩, .int .i64 0, .string ⟨#[]⟩, .int .i64 0, .string ⟨#[]⟩] 40)).setRow w5.heap.size CS)
          clear hr5 hr0 hB hz5 hb5 hl0 HM5 HB5
          generalize (w5.alloc (.cells #[.int .i64 0, .string ⟨#[]⟩, .int .i64 0, .string ⟨#[]⟩, .int .i64 0, .string ⟨#[]⟩, .int .i64 0, .string ⟨#[]⟩] 40)).setRow w5.heap.size CS = w6 at *
          generalize w5.heap.size = g6 at *
          go_wp2_with (first | (refine wpList_load_row_g rfl A4D (.tmp 8) rfl g6 rfl A4D CS (0, 0) _ HR5.out hu rfl HI.out ?_) | (refine wpList_load_row_g rfl A4D (.tmp 1) rfl w.heap.size rfl A4D CS (0, 0) _ HR0.out hu rfl HI.out ?_))
          go_ret
          exact ⟨rfl, HB6.out⟩
        · exact absurd HAg.out hno
      · have HNo := Lib.hid hag
        clear hag hb2
        go_wp2_with (refine wpList_load_row rfl A4D (.tmp 1) rfl w.heap.size rfl A4D CS (0, 0) _ HM2.out hu rfl HI.out ?_)
        refine (HRm.out _).mono ?_
        rintro e w3 ⟨rfl, hb3⟩
        have HB3 := Lib.hid (HB2.out.trans (hb3.mono HB2.out.size))
        clear hb3 HB2 HM2
        go_wp2_with fail
        refine (HRb.out _).mono ?_
        rintro e w4 ⟨h4, hb4⟩
        rcases h4 with ⟨hyes, _⟩ | ⟨_, rfl⟩
        · exact absurd hyes HNo.out
        · have HB4 := Lib.hid (HB3.out.trans (hb4.mono HB3.out.size))
          have hcv := run_str_nil w4
          clear hb4 HB3
          go_wp2
          go_ret
          exact ⟨rfl, HB4.out⟩
end Go.Proofs.Ytagigeacjendiaa
