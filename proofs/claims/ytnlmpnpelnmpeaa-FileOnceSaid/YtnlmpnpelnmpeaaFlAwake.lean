/-
  The walk of awake: the document's example.
-/
import Derived.Test.YtnlmpnpelnmpeaaFlAwakeM
import Derived.Test.YtnlmpnpelnmpeaaFlSetB
import Derived.Test.YtnlmpnpelnmpeaaFlNew
import Derived.Test.YtnlmpnpelnmpeaaFlRoot
import Derived.Test.YtnlmpnpelnmpeaaIntsEq
namespace Go.Proofs.Ytnlmpnpelnmpeaa
open Go.RowKit Go.Maps

theorem grown_row (w : World) (g : Nat) (cs : Array Value) : w.grownBy (w.setRow g cs) (some g) := by
  refine ⟨rfl, rfl, rfl, by simp [World.setRow], fun i hi hx => ?_⟩
  simp only [World.setRow]
  rw [Array.getElem?_modify, if_neg (fun e => hx (by rw [← e]))]
theorem ex_root : (rootC exD exA 9)[7]? = some (.int .u32 61) := by rw [rootC_get _ _ _ _ (by decide)]; rfl
set_option maxRecDepth 20000 in
set_option maxHeartbeats 4000000 in
theorem awake_any (w : World) : Calls Try.prog 10 #[] w fun e w' => e = .returned (.bool true) ∧ Below w.heap.size w w' := by
  have HX := Lib.hid ex_f
  go_enter Try.func10, Try.ntmps10
  go_wp2_with fail
  refine (new_any w).mono ?_
  rintro e w1 ⟨rfl, hf1, hb1⟩
  have HF1 := Lib.hid hf1
  have HB1 := Lib.hid hb1
  have hz1 := hb1.size
  clear hf1 hb1
  generalize hM : w.heap.size + 1 = M at *
  clear hM
  go_wp2_with fail
  refine (set_data 22 (by decide) 50 (by decide) (by decide) HF1.out (by decide)).mono ?_
  rintro e w2 ⟨u2, m2, rfl, -, -, hf2, hs2⟩
  rw [ex_sd] at hf2
  have HF2 : Hid (FX w.heap.size M w.heap.size 3 exD (fun _ => 0) w2) := hf2
  have HB2 := Lib.hid (HB1.out.trans hs2.be)
  clear hf2 hs2 HF1 HB1
  go_wp2_with fail
  refine (metas_anyF HF2.out).mono ?_
  rintro e w3 ⟨u3, m3, rfl, hm3, ho3, hb3⟩
  rw [HX.out.2.1] at hm3 ho3
  obtain ⟨a3, c3, rfl, hc3⟩ := own_slice ho3
  obtain rfl : m3 = 2 := hm3
  have HO3 := Lib.hid ho3
  have HF3 := Lib.hid (HF2.out.later hb3)
  have HB3 := Lib.hid (HB2.out.trans (hb3.mono HB2.out.size))
  clear ho3 hb3 HF2 HB2
  go_wp2_with fail
  refine (set_meta (-22) HX.out.2.2.2.2.1 HX.out.2.2.2.2.2.2.1 (wfI _ (by decide) (by decide)) (by rw [HX.out.2.2.1]; decide) 60 (by decide) (by decide) HF3.out).mono ?_
  rintro e w4 ⟨u4, m4, rfl, -, -, hf4, hs4⟩
  have HF4 := Lib.hid hf4
  have HB4 := Lib.hid (HB3.out.trans hs4.be)
  have HO4 := Lib.hid (hs4.own HO3.out (by decide) (by decide))
  clear hf4 hs4 HF3 HB3 HO3
  go_wp2_with fail
  refine (set_meta (-23) HX.out.2.2.2.2.2.1 HX.out.2.2.2.2.2.2.2 (wfI _ (by decide) (by decide)) (by rw [HX.out.2.2.2.1]; decide) 61 (by decide) (by decide) HF4.out).mono ?_
  rintro e w5 ⟨u5, m5, rfl, -, -, hf5, hs5⟩
  have HF5 : Hid (FX w.heap.size M w.heap.size 3 exD exA w5) := hf5
  have HB5 := Lib.hid (HB4.out.trans hs5.be)
  have HO5 := Lib.hid (hs5.own HO4.out (by decide) (by decide))
  clear hf5 hs5 HF4 HB4 HO4
  go_wp2_with fail
  refine (root_any9 HF5.out).mono ?_
  rintro e w6 ⟨rfl, hb6⟩
  have HF6 := Lib.hid (HF5.out.later hb6)
  have HB6 := Lib.hid (HB5.out.trans (hb6.mono HB5.out.size))
  have HO6 := Lib.hid (own_later HO5.out hb6)
  have HX7 := Lib.hid ex_root
  have hsz : (Try.prog.info? RT).map (·.size) = some (rootC exD exA 9).size := by
    rw [rootC_size]; kernel_rfl
  have HSz := Lib.hid hsz
  have H1 := Lib.hid (rootC_one exD exA 9)
  have HS9 := Lib.hid (rootC_size exD exA 9)
  clear hb6 HF5 HB5 HO5 hsz
  generalize hR : rootC exD exA 9 = R at *
  clear hR
  have hl7 := sup_pc w6 (.cells #[.int .u32 0, .int .u32 0, .int .u32 0, .int .u32 0, .int .u32 0, .int .u32 0, .int .u32 0, .int .u32 0, .int .u32 0] RT)
  have HL7 := Lib.hid (blo_laid w6 RT #[.int .u32 0, .int .u32 0, .int .u32 0, .int .u32 0, .int .u32 0, .int .u32 0, .int .u32 0, .int .u32 0, .int .u32 0])
  have HF7 := Lib.hid (HF6.out.later hl7)
  have HB7 := Lib.hid (HB6.out.trans (hl7.mono HB6.out.size))
  have HO7 := Lib.hid (own_later HO6.out hl7)
  have hz6 := HB6.out.size
  clear hl7 HF6 HB6 HO6
  go_wp2_with (refine wpList_store_row rfl RT (.tmp 9) (.tmp 33) rfl w6.heap.size R (by first | rfl | simp [go_sem]) (by first | rfl | simp [go_sem]) RT _ HL7.out HSz.out (by rw [HS9.out]; rfl) H1.out ?_)
  have hg8 := grown_row (w6.alloc (.cells #[.int .u32 0, .int .u32 0, .int .u32 0, .int .u32 0, .int .u32 0, .int .u32 0, .int .u32 0, .int .u32 0, .int .u32 0] RT)) w6.heap.size R
  have HF8 := Lib.hid (HF7.out.blk HL7.out (by decide) (by decide) hg8)
  have HB8 := Lib.hid (below_setRow HB7.out hz6 R)
  have HR8 := Lib.hid (blo_row HL7.out R)
  have HO8 := Lib.hid (HO7.out.kept hg8 (by
    have := HL7.out.row_apart HO7.out (by decide)
    cases hq : (Value.slice a3 2 c3).ownBlock with
    | none => exact .inl rfl
    | some k => exact .inr (fun e => this (by rw [hq]; exact e.symm))))
  clear hg8 HF7 HB7 HO7 HL7
  generalize (w6.alloc (.cells #[.int .u32 0, .int .u32 0, .int .u32 0, .int .u32 0, .int .u32 0, .int .u32 0, .int .u32 0, .int .u32 0, .int .u32 0] RT)).setRow w6.heap.size R = w8 at *
  go_wp2_with fail
  refine (cut_any 0 (by decide) HF8.out (by decide)).mono ?_
  rintro e w9 ⟨u9, m9, rfl, hm9, ho9, -, hs9⟩
  rw [ex_gone] at hm9 ho9
  obtain ⟨a9, c9, rfl, hc9⟩ := own_slice ho9
  obtain rfl : m9 = 3 := hm9
  have HO9 := Lib.hid (hs9.own HO8.out (by decide) (by decide))
  have HB9 := Lib.hid (HB8.out.trans hs9.be)
  have HR9 := Lib.hid (hs9.blo HR8.out (by decide) (by decide))
  have HG9 := Lib.hid ho9
  clear ho9 hs9 HF8 HB8 HO8 HR8
  have cR := HR9.out.cell 7
  rw [HX7.out] at cR
  go_wp2_with fail
  have hl10 := sup_pc w9 (.cells #[.int .i64 (-23), .int .i64 (-22)] 3)
  refine (ints_same [-23, -22] [-23, -22] a3 _ 2 c3 2 _ rfl rfl (by decide) (Ints.own (own_later HO9.out hl10)) (Ints.laid w9 [-23, -22] _ _ rfl)).mono ?_
  rintro e w10 ⟨rfl, hb10⟩
  have HB10 := Lib.hid ((HB9.out.trans (hl10.mono HB9.out.size)).trans (hb10.mono (Nat.le_trans HB9.out.size hl10.size)))
  have HG10 := Lib.hid (own_later HG9.out (hl10.trans (hb10.mono hl10.size)))
  have HR10 := Lib.hid (HR9.out.later (hl10.trans (hb10.mono hl10.size)))
  have cR2 := HR10.out.cell 7
  rw [HX7.out] at cR2
  clear hl10 hb10 HB9 HG9 HR9 cR HO9
  rw [decide_eq_true rfl]
  go_wp2_with fail
  have hl11 := sup_pc w10 (.cells #[.int .i64 50, .int .i64 60, .int .i64 61] 3)
  refine (ints_same [50, 60, 61] [50, 60, 61] a9 _ 3 c9 3 _ rfl rfl (by decide) (Ints.own (own_later HG10.out hl11)) (Ints.laid w10 [50, 60, 61] _ _ rfl)).mono ?_
  rintro e w11 ⟨rfl, hb11⟩
  have HB11 := Lib.hid ((HB10.out.trans (hl11.mono HB10.out.size)).trans (hb11.mono (Nat.le_trans HB10.out.size hl11.size)))
  clear hl11 hb11 HB10 HG10 HR10 cR2
  rw [decide_eq_true rfl]
  go_wp2_with fail
  go_ret
  exact ⟨rfl, HB11.out⟩
end Go.Proofs.Ytnlmpnpelnmpeaa
