/-
  EntryMaps.
-/
import Derived.Test.YtagigeacjendiaaEnSame
import Derived.Test.YtagigeacjendiaaEnRefB
namespace Go.Proofs.Ytagigeacjendiaa
open Go.RowKit

theorem run_str_nil (W : World) : (convert 26 9 (.slice none 0 0)).run Try.prog W = .ok (.string ⟨#[]⟩) W :=
  run_str W 26 9 U8 Try.underlying26 Try.underlying5 Try.underlying9 [] none 0 0 rfl ⟨by simp, by decide, fun h => absurd rfl h⟩
theorem wpList_load_row_g {P : Program} {ops : Array Oper} {rest : List Oper} {o : Oper} {a : Act} {w : World} {Q : Exit → Act → World → Prop} (hw : Region.wanted o (yielded ops a.tmps) = true) (ty : TypeId) (x : Operand) (ho : o.op = .load ty x)
    (g : Nat) (hx : a.eval x = .pointer (some ⟨g, 0, none⟩)) (t : TypeId) (cs : Array Value) (fr : Nat × Nat) (d : TypeDesc) (hg : w.heap[g]? = some (.cells cs t fr))
    (hu : P.underlying ty = some d) (hd : (match d with | .struct _ | .array _ _ => true | _ => false) = true) (hi : (P.info? ty).map (·.size) = some cs.size)
    (h : wpList P ops Q rest (a.put o.dst (.agg cs)) w) : wpList P ops Q (o :: rest) a w :=
  wpList_step fun K hK => by
    simp only [hw, if_true]
    exact wp_load_row ty x ho g hx t cs fr d hg hu hd hi (hK _ _ h)
set_option maxRecDepth 100000 in
set_option maxHeartbeats 4000000 in
theorem entryMaps_walk (A V : Nat → Int) (w : World) (hf : Fit8 A V) : Calls Try.prog 3 #[.agg (cells16 A V)] w fun e w' => e = .returned (.bool true) ∧ Below w.heap.size w w' := by
  have HF := Lib.hid hf
  have hb0 := sup_en w (.cells (cells16 A V) A8T)
  have HB0 := Lib.hid hb0
  have HM0 := Lib.hid (blo_laid w A8T (cells16 A V))
  have HI := Lib.hid (info_a8 A V)
  have HO := Lib.hid (cells16_one A V)
  have HMb := Lib.hid (mapBlock_any A V)
  have HRm := Lib.hid (refMap_any A V)
  have HRb := Lib.hid (rmapBlock_any A V)
  have HEq := Lib.hid (equal_a8 A V hf)
  have HZ : Hid ((Try.prog.info? A8T).map (·.size) = some z16.size) := info_a8 _ _
  have hu := Try.underlying24
  have HOk := Lib.hid (okM_enc A V)
  have HEl := Lib.hid (encK_len A V 8)
  have HEb := Lib.hid (encK_byte A V 8)
  have HRead : Hid (∀ b o cap W, 64 ≤ cap → Bytes W (some ⟨b, o, none⟩) (encK A V 8) → AllG A V 8 → Calls Try.prog 13 #[.slice (some ⟨b, o, none⟩) 64 cap] W fun e W' => e = .returned (.tuple #[.agg (cells16 A V), .int .i64 0]) ∧ Below W.heap.size W W') := fun b o cap W hcap hby hg =>
    (readMap_64 b o cap (encK A V 8) W HEl.out hcap hby).mono fun e W' ⟨h1, h2⟩ => by
      obtain ⟨ok, hc⟩ := okM_enc A V hg
      rcases h1 with ⟨_, he⟩ | ⟨hno, _⟩
      · exact ⟨by rw [he, hc], h2⟩
      · exact absurd ok hno
  have HSz : Hid ((cells16 A V).size = z16.size) := rfl
  clear hf hb0
  unfold MbO at HMb
  unfold RbO at HRb
  generalize cells16 A V = CS at *
  generalize encK A V 8 = ek at *
  generalize AllG A V 8 = AG at *
  go_enter Try.func3, Try.ntmps3
  go_wp2_with fail
  refine (awake_any _).mono ?_
  rintro e w1 ⟨rfl, hb1⟩
  have HB1 := Lib.hid (HB0.out.trans (hb1.mono HB0.out.size))
  have HM1 := Lib.hid (HM0.out.later hb1)
  clear hb1 HB0 HM0
  go_wp2_with (refine wpList_load_row rfl A8T (.tmp 1) rfl w.heap.size rfl A8T CS (0, 0) _ HM1.out hu rfl HI.out ?_)
  refine (HMb.out _).mono ?_
  rintro e w2 ⟨h1, hb2⟩
  have HB2 := Lib.hid (HB1.out.trans (hb2.mono HB1.out.size))
  have HM2 := Lib.hid (HM1.out.later hb2)
  clear HB1 HM1
  rcases h1 with ⟨hag, a, cap, rfl, ho⟩ | ⟨hag, rfl⟩
  · obtain ⟨a', cap', hva, -, hby, -⟩ := Bytes.own ho HEb.out
    cases hva
    have HBy := Lib.hid hby
    have HCap : Hid (64 ≤ cap) := by obtain ⟨a2, c2, hv2, hc2⟩ := own_slice ho; cases hv2; exact hc2
    have HAg := Lib.hid hag
    obtain ⟨g, og, hg, -⟩ := hby.2.2 (by intro e; have := HEl.out; rw [e] at this; cases this)
    subst hg
    clear ho hby hag hb2
    go_wp2_with (refine wpList_load_row rfl A8T (.tmp 1) rfl w.heap.size rfl A8T CS (0, 0) _ HM2.out hu rfl HI.out ?_)
    refine (HRm.out _).mono ?_
    rintro e w3 ⟨rfl, hb3⟩
    have HB3 := Lib.hid (HB2.out.trans (hb3.mono HB2.out.size))
    have HM3 := Lib.hid (HM2.out.later hb3)
    have HBy3 := Lib.hid (HBy.out.below hb3)
    clear hb3 HB2 HM2 HBy
    go_wp2_with fail
    refine (HRb.out _).mono ?_
    rintro e w4 ⟨h4, hb4⟩
    rcases h4 with ⟨_, rfl⟩ | ⟨hno, _⟩
    · have HB4 := Lib.hid (HB3.out.trans (hb4.mono HB3.out.size))
      have HM4 := Lib.hid (HM3.out.later hb4)
      have HBy4 := Lib.hid (HBy3.out.below hb4)
      have hcv := run_str w4 26 9 U8 Try.underlying26 Try.underlying5 Try.underlying9 ek (some ⟨g, og, none⟩) 64 cap HEl.out.symm HBy4.out
      clear hb4 HB3 HM3 HBy3
      generalize strOf ek = tx at *
      go_wp2_with fail
      refine (HRead.out _ _ _ _ HCap.out HBy4.out HAg.out).mono ?_
      rintro e w5 ⟨rfl, hb5⟩
      have HB5 := Lib.hid (HB4.out.trans (hb5.mono HB4.out.size))
      have HM5 := Lib.hid (HM4.out.later hb5)
      clear hb5 HB4 HM4 HBy4 hcv
      have hz5 := blo_laid w5 A8T z16
      go_upto_region 10 with (refine wpList_store_row rfl A8T (.tmp 7) (.tmp 36) rfl w5.heap.size CS rfl rfl A8T _ hz5 HI.out HSz.out.symm HO.out ?_)
      have hr5 : Blo ((w5.alloc (.cells #[.int .i64 0, .int .i64 0, .int .i64 0, .int .i64 0, .int .i64 0, .int .i64 0, .int .i64 0, .int .i64 0, .int .i64 0, .int .i64 0, .int .i64 0, .int .i64 0, .int .i64 0, .int .i64 0, .int .i64 0, .int .i64 0] 24)).setRow w5.heap.size CS) w5.heap.size A8T CS := setRow_heap _ w5.heap.size _ _ _ _ hz5
      have hb5 := sup_en w5 (.cells z16 A8T)
      have hl0 : w.heap.size ≠ w5.heap.size := Nat.ne_of_lt HM5.out.lt
      have hr0 : Blo ((w5.alloc (.cells #[.int .i64 0, .int .i64 0, .int .i64 0, .int .i64 0, .int .i64 0, .int .i64 0, .int .i64 0, .int .i64 0, .int .i64 0, .int .i64 0, .int .i64 0, .int .i64 0, .int .i64 0, .int .i64 0, .int .i64 0, .int .i64 0] 24)).setRow w5.heap.size CS) w.heap.size A8T CS := by
        show _ = _
        rw [setRow_other _ _ _ _ hl0]; exact HM5.out.later hb5
      have hB : Below w.heap.size w ((w5.alloc (.cells #[.int .i64 0, .int .i64 0, .int .i64 0, .int .i64 0, .int .i64 0, .int .i64 0, .int .i64 0, .int .i64 0, .int .i64 0, .int .i64 0, .int .i64 0, .int .i64 0, .int .i64 0, .int .i64 0, .int .i64 0, .int .i64 0] 24)).setRow w5.heap.size CS) := below_setRow (HB5.out.trans (hb5.mono HB5.out.size)) HB5.out.size _
      have HR5 := Lib.hid hr5
      have HR0 := Lib.hid hr0
      have HB6 := Lib.hid hB
      have heq := HEq.out ((w5.alloc (.cells #[.int .i64 0, .int .i64 0, .int .i64 0, .int .i64 0, .int .i64 0, .int .i64 0, .int .i64 0, .int .i64 0, .int .i64 0, .int .i64 0, .int .i64 0, .int .i64 0, .int .i64 0, .int .i64 0, .int .i64 0, .int .i64 0] 24)).setRow w5.heap.size CS)
      clear hr5 hr0 hB hz5 hb5 hl0 HM5 HB5
      generalize (w5.alloc (.cells #[.int .i64 0, .int .i64 0, .int .i64 0, .int .i64 0, .int .i64 0, .int .i64 0, .int .i64 0, .int .i64 0, .int .i64 0, .int .i64 0, .int .i64 0, .int .i64 0, .int .i64 0, .int .i64 0, .int .i64 0, .int .i64 0] 24)).setRow w5.heap.size CS = w6 at *
      generalize w5.heap.size = g6 at *
      go_wp2_with (first | (refine wpList_load_row_g rfl A8T (.tmp 7) rfl g6 rfl A8T CS (0, 0) _ HR5.out hu rfl HI.out ?_) | (refine wpList_load_row_g rfl A8T (.tmp 1) rfl w.heap.size rfl A8T CS (0, 0) _ HR0.out hu rfl HI.out ?_))
      go_ret
      exact ⟨rfl, HB6.out⟩
    · exact absurd HAg.out hno
  · have HNo := Lib.hid hag
    clear hag hb2
    go_wp2_with (refine wpList_load_row rfl A8T (.tmp 1) rfl w.heap.size rfl A8T CS (0, 0) _ HM2.out hu rfl HI.out ?_)
    refine (HRm.out _).mono ?_
    rintro e w3 ⟨rfl, hb3⟩
    have HB3 := Lib.hid (HB2.out.trans (hb3.mono HB2.out.size))
    clear hb3 HB2 HM2
    go_wp2_with fail
    refine (HRb.out _).mono ?_
    rintro e w4 ⟨h4, hb4⟩
    rcases h4 with ⟨hyes, _⟩ | ⟨_, rfl⟩
    · exact absurd hyes HNo.out
    · have HB4 := Lib.hid (HB3.out.trans (hb4.mono HB3.out.size))
      have hcv := run_str_nil w4
      clear hb4 HB3
      go_wp2
      go_ret
      exact ⟨rfl, HB4.out⟩
end Go.Proofs.Ytagigeacjendiaa
