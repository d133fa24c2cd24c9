/-
  PackSummaries.
-/
import Derived.Test.YtonlhkhjdnaojaaPcAll
import Derived.Test.YtonlhkhjdnaojaaSmCk2
namespace Go.Proofs.Ytonlhkhjdnaojaa
open Go.RowKit

/-- An item that a summary may have. -/
def goodX (fs : List Fi) (x : It) : Bool := if x.f = 0 then !outB x.n 1 200 else !outB (inoOf fs x.f) 1 200 && !outB (verOf fs x.f) 0 65535 && isB x.n
theorem chk_one {i v b : Int} : chkC 0 0 0 1 0 [⟨i, v, [b]⟩] [] = 0 → outB i 1 200 = false ∧ outB v 0 65535 = false ∧ isB b = true := fun h => by
  unfold chkC at h
  have e1 : outB 0 0 65535 = false := rfl
  have e2 : outB 1 1 64 = false := rfl
  have e3 : outB 0 0 (1 - 1) = false := rfl
  have e4 : outB 0 0 4095 = false := rfl
  rw [e1, e2, e3, e4] at h
  simp only [Bool.or_false, Bool.false_eq_true, if_false] at h
  cases hb : badF ⟨i, v, [b]⟩ with
  | true => simp [hb] at h
  | false =>
    unfold badF at hb
    simp only [Bool.or_eq_false_iff, List.any_cons, List.any_nil, Bool.or_false] at hb
    refine ⟨hb.1.1.1, hb.1.1.2, by simpa using hb.2⟩
theorem mem_items {fs : List Fi} {is : List Int} {s : Pl} (hc : catI s.N s.it = items fs is) {i : Nat} (hi : i < s.N) {x : It} (hx : x ∈ s.it i) : x ∈ items fs is := by
  rw [← hc]
  exact List.mem_flatMap.2 ⟨i, List.mem_range.2 hi, hx⟩
/-- Each piece is a summary's. -/
theorem piece_chk {fs : List Fi} {is : List Int} {left size : Int} {s : Pl} (hK : PlK fs is left size s) (hwd : ∀ i, i < s.N → (bs (s.it i)).wd ≤ 88) (hg : ∀ x ∈ items fs is, goodX fs x = true) {k : Nat} (hk : k < s.N) :
    chkC 0 0 k s.N 0 (fsZ (inoOf fs) (verOf fs) (bs (s.it k)).z) ((bs (s.it k)).z.li 0) = 0 := by
  have h64 := hK.n64
  have hfl := bs_fl (s.it k)
  have hlb := (hK.lb k hk).lb
  have e1 : outB 0 0 65535 = false := rfl
  have e2 : outB s.N 1 64 = false := by unfold outB; rw [decide_eq_false (by omega), decide_eq_false (by omega)]; rfl
  have e3 : outB k 0 ((s.N : Int) - 1) = false := by unfold outB; rw [decide_eq_false (by omega), decide_eq_false (by omega)]; rfl
  have e4 : outB 0 0 4095 = false := rfl
  have e5 : (fsZ (inoOf fs) (verOf fs) (bs (s.it k)).z).any badF = false := by
    rw [List.any_eq_false]
    intro x hx
    obtain ⟨q, hq, rfl⟩ := List.mem_map.1 hx
    have hq := List.mem_range.1 hq
    obtain ⟨l1, l2⟩ := hlb q hq
    have hmem : ∀ y ∈ (bs (s.it k)).z.li (q + 1), goodX fs ⟨(bs (s.it k)).z.fi q, y⟩ = true ∧ (bs (s.it k)).z.fi q ≠ 0 := fun y hy => by
      have h1 : (⟨(bs (s.it k)).z.fi q, y⟩ : It) ∈ flatZ (bs (s.it k)).z := List.mem_flatMap.2 ⟨q, List.mem_range.2 hq, List.mem_map.2 ⟨y, hy, rfl⟩⟩
      rw [hfl.fl, List.mem_filter] at h1
      refine ⟨hg _ (mem_items hK.cat hk h1.1), fun e => ?_⟩
      have h2 := h1.2
      unfold nodeB at h2
      rw [decide_eq_true (show (⟨(bs (s.it k)).z.fi q, y⟩ : It).f = 0 from e)] at h2
      cases h2
    obtain ⟨y0, hy0⟩ : ∃ y, y ∈ (bs (s.it k)).z.li (q + 1) := by
      cases hl : (bs (s.it k)).z.li (q + 1) with
      | nil => rw [hl] at l1; simp at l1
      | cons a t => exact ⟨a, by simp⟩
    obtain ⟨g1, g2⟩ := hmem y0 hy0
    unfold goodX at g1
    rw [if_neg (show ¬ (⟨(bs (s.it k)).z.fi q, y0⟩ : It).f = 0 from g2)] at g1
    simp only [Bool.and_eq_true, Bool.not_eq_true'] at g1
    have l3 : outB (((bs (s.it k)).z.li (q + 1)).length : Int) 1 30 = false := by unfold outB; rw [decide_eq_false (by omega), decide_eq_false (by omega)]; rfl
    have l4 : ((bs (s.it k)).z.li (q + 1)).any (fun n => !isB n) = false := by
      rw [List.any_eq_false]
      intro y hy
      obtain ⟨g3, g4⟩ := hmem y hy
      unfold goodX at g3
      rw [if_neg (show ¬ (⟨(bs (s.it k)).z.fi q, y⟩ : It).f = 0 from g4)] at g3
      simp only [Bool.and_eq_true] at g3
      simp [g3.2]
    unfold badF
    simp only [g1.1.1, g1.1.2, l3, l4]
    decide
  have e6 : ((bs (s.it k)).z.li 0).any badI = false := by
    rw [List.any_eq_false]
    intro n hn
    rw [hfl.no] at hn
    obtain ⟨x, hx, rfl⟩ := List.mem_map.1 hn
    rw [List.mem_filter] at hx
    have hf : x.f = 0 := by simpa [nodeB] using hx.2
    have := hg _ (mem_items hK.cat hk hx.1)
    unfold goodX at this
    rw [if_pos hf] at this
    unfold badI
    simpa using this
  have e7 : ¬ 88 < 10 + ((bs (s.it k)).z.li 0).length + szF (fsZ (inoOf fs) (verOf fs) (bs (s.it k)).z) := by
    rw [szF_fsZ, ← (bs_sum (s.it k)).wd]
    have := hwd k hk
    omega
  unfold chkC
  rw [e1, e2, e3, e4, e5, e6, if_neg e7]
  rfl
theorem itF_low : ∀ (fs : List Fi) (k : Nat), (∀ x ∈ fs, ∀ n ∈ x.lb, -9223372036854775808 ≤ n) → ∀ x ∈ itF k fs, -9223372036854775808 ≤ x.n
  | [], _, _, x, h => by cases h
  | f :: r, k, hw, x, h => by
    rw [itF] at h
    rcases List.mem_append.1 h with h | h
    · obtain ⟨n, hn, rfl⟩ := List.mem_map.1 h
      exact hw f List.mem_cons_self n hn
    · exact itF_low r (k + 1) (fun y hy => hw y (List.mem_cons_of_mem _ hy)) x h
theorem quiet_whole {P : Program} {C : World → Prop} {K : Act → Prop} {a : Act} {o : Oper} (ty : TypeId) (x : Operand) (ho : o.op = .load ty x)
    (g : Nat) (hx : a.eval x = .pointer (some ⟨g, 0, none⟩)) (t : TypeId) (cs : Array Value) (d : TypeDesc) (hg : ∀ W, C W → Blo W g t cs)
    (hu : P.underlying ty = some d) (hd : d.isRow = true) (hi : (P.info? ty).map (·.size) = some cs.size) (h : K (a.put o.dst (.agg cs))) : o.quiet P a C K := by
  refine quiet_mid ty x ho g 0 hx cs.toList d (fun W hC j u hj => ?_) hu hd (by simpa using hi) (by simpa using h)
  rw [Nat.zero_add, (hg W hC).cell, ← Array.getElem?_toList, hj]
set_option maxRecDepth 100000 in
set_option maxHeartbeats 16000000 in
theorem packSummaries_any (w : World) (fs : List Fi) (is : List Int) (fa : Option Addr) (fn fc : Nat) (ia : Option Addr) (inn ic : Nat) (left size : Int) (hF : Fis w fa fs) (hI : Ints w ia is) (hn : fn = fs.length) (hin : inn = is.length) (hx1 : fn ≤ 9223372036854775807) (hx2 : inn ≤ 9223372036854775807) (hfl : ∀ x ∈ fs, x.lb.length ≤ 9223372036854775807) (hwf : ∀ x ∈ fs, (Lit.int .i64 x.ino).wf = true ∧ (Lit.int .i64 x.ver).wf = true ∧ ∀ n ∈ x.lb, (Lit.int .i64 n).wf = true) :
    Calls Try.prog 5 #[.slice fa fn fc, .slice ia inn ic, .agg #[.int .i64 left, .int .i64 size]] w fun e w' => e = .returned (.bool true) ∧ Below w.heap.size w w' := by
  have hb0 := sup_pc w (.cells #[.int .i64 left, .int .i64 size] 24)
  have HAw := Lib.hid (fun W => awake_any W)
  have HFe := Lib.hid (fun W (hW : Below w.heap.size w W) => few_any fa fn fc ia inn ic (hF.later hW) hn hin hx1 hx2 hfl)
  have HT := Lib.hid (show TwR w fs is fa ia _ from ⟨hF.later hb0, hI.below hb0, hb0⟩)
  have HPl := Lib.hid (blo_laid w 24 #[.int .i64 left, .int .i64 size])
  cases hfe : fewB fs is with
  | false =>
    rw [hfe] at HFe
    have HB0 := Lib.hid hb0
    clear hF hI hn hin hfl hfe HT hb0 HPl
    go_enter Try.func5, Try.ntmps5
    go_wp2_with fail
    refine (HAw.out _).mono ?_
    rintro e w1 ⟨rfl, hb1⟩
    have HB1 := Lib.hid (HB0.out.trans (hb1.mono HB0.out.size))
    have HF1 := Lib.hid (HFe.out w1 HB1.out)
    clear hb1 HFe HB0
    go_wp2_with fail
    refine HF1.out.mono ?_
    rintro e w2 ⟨rfl, hb2⟩
    have HB2 := Lib.hid (HB1.out.trans (hb2.mono HB1.out.size))
    clear hb2 HB1 HF1
    go_wp2_with fail
    refine (HAw.out _).mono ?_
    rintro e w3 ⟨rfl, hb3⟩
    have HB3 := Lib.hid (HB2.out.trans (hb3.mono HB2.out.size))
    clear hb3 HB2 HAw
    go_wp2
    go_ret
    exact ⟨rfl, HB3.out⟩
  | true =>
    rw [hfe] at HFe
    obtain ⟨bd1, bd2, bd3⟩ := few_bd hfe
    have HN := Lib.hid hn
    have HIn := Lib.hid hin
    have HBd := Lib.hid bd3
    have HWf := Lib.hid hwf
    have hn3 : fn ≤ 300 := by omega
    have hi3 : inn ≤ 300 := by omega
    have hwf2 : ∀ x ∈ fs, ∀ n ∈ x.lb, -9223372036854775808 ≤ n := fun x hx n hn => (Go.bounds_i64 ((hwf x hx).2.2 n hn)).1
    have HWf := Lib.hid hwf2
    have HLw : Hid (∀ x ∈ itF 0 fs, -9223372036854775808 ≤ x.n) := fun x hx => itF_low fs 0 hwf2 x hx
    clear hF hI hn hin hfl hfe bd1 bd2 bd3 hwf hb0 hwf2
    go_enter Try.func5, Try.ntmps5
    go_wp2_with fail
    refine (HAw.out _).mono ?_
    rintro e w1 ⟨rfl, hb1⟩
    have HT1 := Lib.hid (HT.out.later hb1)
    have HF1 := Lib.hid (HFe.out w1 HT1.out.below)
    have HP1 := Lib.hid (HPl.out.later hb1)
    clear hb1 HAw HFe HT HPl
    go_wp2_with fail
    refine HF1.out.mono ?_
    rintro e w2 ⟨rfl, hb2⟩
    have HT2 := Lib.hid (HT1.out.later hb2)
    have HP2 := Lib.hid (HP1.out.later hb2)
    clear hb2 HT1 HF1 HP1
    go_wp2_with fail
    go_loopw [29] (fun t wr => ∃ k : Nat, k ≤ fn ∧ t = .int .i64 k ∧ (∀ x ∈ itF 0 (fs.take k), goodX fs x = true) ∧ Below w2.heap.size w2 wr) (fun t _ => fn - (intOf t).toNat)
    case atStart => exact ⟨0, Nat.zero_le _, rfl, (fun x hx => by cases hx), Below.refl _ _⟩
    case round =>
      obtain ⟨k, hk, rfl, hgo, hB⟩ := hrel
      have HG := Lib.hid hgo
      have HB := Lib.hid hB
      clear hgo hB
      by_cases hlt : k < fn
      · have hkl : k < fs.length := by rw [← HN.out]; exact hlt
        obtain ⟨b, o, lc, lcp, rfl, d1, d2, d3, d4⟩ := HT2.out.f.at hkl
        have d1 := cell_later HB.out d1
        have d2 := cell_later HB.out d2
        have d3 := cell_later HB.out d3
        have hmem : fs.getD k fi0 ∈ fs := by rw [List.getD_eq_getElem?_getD, List.getElem?_eq_getElem hkl]; exact List.getElem_mem _
        have hw := HWf.out _ hmem
        have hl9 := HBd.out _ hmem
        have hts := itF_takeS fs k hkl
        have hIk : inoOf fs (k + 1) = (fs.getD k fi0).ino := rfl
        have hVk : verOf fs (k + 1) = (fs.getD k fi0).ver := rfl
        obtain ⟨x, hx⟩ : ∃ x, fs.getD k fi0 = x := ⟨_, rfl⟩
        rw [hx] at d1 d2 d3 d4 hw hl9 hts hIk hVk
        obtain ⟨xi, xv, xl⟩ := x
        simp only at d1 d2 d3 d4 hw hl9 hts hIk hVk
        obtain ⟨mm, hmm⟩ : ∃ mm, xl.length = mm := ⟨_, rfl⟩
        rw [hmm] at d3 hl9
        have HMm := Lib.hid hmm
        have HTs := Lib.hid hts
        have HIk := Lib.hid hIk
        have HVk := Lib.hid hVk
        have HW := Lib.hid hw
        have HD4 := Lib.hid d4
        have hb5 := sup_pc wr (.cells #[.int .i64 xi, .int .i64 xv, .slice lc mm lcp] FN)
        have HG5 := Lib.hid (blo_laid wr FN #[.int .i64 xi, .int .i64 xv, .slice lc mm lcp])
        have HB5 := Lib.hid (HB.out.trans (hb5.mono HB.out.size))
        have k0 : (0 : Int) ≤ (k : Int) := by omega
        have k1 : (k : Int) < (fn : Int) := by omega
        clear hkl d4 hmem hw hts hIk hVk hx hmm hb5 HB
        go_upto_region 6 with (fail)
        clear d1 d2 d3 k0
        obtain ⟨gb, hgb⟩ : ∃ gb, wr.heap.size = gb := ⟨_, rfl⟩
        rw [hgb] at HG5
        rw [hgb]
        generalize wr.alloc (.cells #[.int .i64 xi, .int .i64 xv, .slice lc mm lcp] FN) = w6 at *
        clear hgb
        have c2 := HG5.out.cell 2
        simp at c2
        go_wp2_with fail
        clear c2
        go_loopw [36] (fun t wx => ∃ j : Nat, j ≤ mm ∧ t = .int .i64 j ∧ (∀ n ∈ xl.take j, goodX fs ⟨k + 1, n⟩ = true) ∧ Below w6.heap.size w6 wx) (fun t _ => mm - (intOf t).toNat)
        case atStart => exact ⟨0, Nat.zero_le _, rfl, (fun x hx => by simp at hx), Below.refl _ _⟩
        case round =>
          obtain ⟨j, hj, rfl, hgx, hB⟩ := hrel
          have HB := Lib.hid hB
          have HGx := Lib.hid hgx
          clear hB hgx
          by_cases hlj : j < mm
          · have hjl : j < xl.length := by have := HMm.out; omega
            obtain ⟨eb, eo, rfl, he⟩ := HD4.out (fun e => by rw [e] at hjl; cases hjl)
            have e0 := cell_later HB.out (cell_later HB5.out (he j hjl))
            have htk := take_snocF xl 0 j hjl
            have hyw := HW.out (xl.getD j 0) (by rw [List.getD_eq_getElem?_getD, List.getElem?_eq_getElem hjl]; exact List.getElem_mem _)
            obtain ⟨y, hy⟩ : ∃ y, xl.getD j 0 = y := ⟨_, rfl⟩
            rw [hy] at e0 htk hyw
            have c0 := (HG5.out.later HB.out).cell 0
            have c1 := (HG5.out.later HB.out).cell 1
            simp at c0 c1
            have HTk := Lib.hid htk
            have hb7 := (sup_pc wr (.cells #[.int .i64 y] IT)).trans ((sup_pc (wr.alloc (.cells #[.int .i64 y] IT)) (.cells #[.int .i64 xi, .int .i64 xv, .slice (some ⟨wr.heap.size, 0, none⟩) 1 1] FN)).mono (sup_pc wr (.cells #[.int .i64 y] IT)).size)
            have hck := check_any (fc := 1) (ic := 0) 0 0 0 1 0 [⟨xi, xv, [y]⟩] [] (some ⟨wr.heap.size + 1, 0, none⟩) 1 none 0 (fis_lit (wr.alloc (.cells #[.int .i64 y] IT)) wr.heap.size xi xv [y] 1 1 rfl (Ints.laid wr [y] _ _ rfl) (wr.heap.size + 1) (by simp)) rfl (by simp [szF]) (Ints.nil _ _) rfl (by decide) (fun z hz n hn => by rw [List.mem_singleton.1 hz] at hn; rw [List.mem_singleton.1 hn]; exact hyw)
            have HCk := Lib.hid hck
            have HB7 := Lib.hid (HB.out.trans (hb7.mono HB.out.size))
            have k0 : (0 : Int) ≤ (j : Int) := by omega
            have k1 : (j : Int) < (mm : Int) := by omega
            by_cases hz : chkC 0 0 0 1 0 [⟨xi, xv, [y]⟩] [] = 0
            · obtain ⟨o1, o2, o3⟩ := chk_one hz
              have hgy : goodX fs ⟨k + 1, y⟩ = true := by
                unfold goodX
                rw [if_neg (show ¬ (⟨k + 1, y⟩ : It).f = 0 from Nat.succ_ne_zero k)]
                show (!outB (inoOf fs (k + 1)) 1 200 && !outB (verOf fs (k + 1)) 0 65535 && isB y) = true
                rw [HIk.out, HVk.out, o1, o2, o3]; rfl
              have HGy := Lib.hid hgy
              rw [hz] at HCk
              clear hz o1 o2 o3 hgy hck hb7 htk hy he hjl hyw
              go_wp2_with fail
              refine HCk.out.mono ?_
              rintro e w9 ⟨rfl, hb9⟩
              have HB9 := Lib.hid (HB7.out.trans (hb9.mono HB7.out.size))
              clear hb9 HCk c0 c1 e0
              go_wp2_with fail
              go_roundw
              case rel => exact ⟨j + 1, by omega, by simp, (fun n hn => by
                rw [HTk.out] at hn
                rcases List.mem_append.1 hn with h | h
                · exact HGx.out n h
                · rw [List.mem_singleton.1 h]; exact HGy.out), HB9.out⟩
              case measure => simp [intOf]; omega
            · obtain ⟨c, hc⟩ : ∃ c, chkC 0 0 0 1 0 [⟨xi, xv, [y]⟩] [] = c := ⟨_, rfl⟩
              rw [hc] at HCk hz
              have hcb : (c != 0) = true := by simpa using hz
              have HBe := Lib.hid ((HT2.out.below.trans ((HB5.out.trans (HB7.out.mono HB5.out.size)).mono HT2.out.below.size)))
              clear hc hck hb7 htk hy he hjl hyw
              go_wp2_with fail
              refine HCk.out.mono ?_
              rintro e w9 ⟨rfl, hb9⟩
              have HB9 := Lib.hid (HBe.out.trans (hb9.mono HBe.out.size))
              clear hb9 HCk c0 c1 e0
              go_wp2
              go_ret
              exact ⟨rfl, HB9.out⟩
          · have hjm : xl.take j = xl := by rw [List.take_of_length_le]; have := HMm.out; omega
            rw [hjm] at HGx
            have k9 : ¬ (j : Int) < (mm : Int) := by omega
            have HB6 := Lib.hid (HB5.out.trans (HB.out.mono HB5.out.size))
            clear hjm
            go_wp2_with fail
            go_roundw
            case rel => exact ⟨k + 1, by omega, by simp, (fun x hx => by
              rw [HTs.out] at hx
              rcases List.mem_append.1 hx with h | h
              · exact HG.out x h
              · obtain ⟨n, hn, rfl⟩ := List.mem_map.1 h; exact HGx.out n hn), HB6.out⟩
            case measure => simp [intOf]; omega
      · have hkn : fs.take k = fs := by rw [List.take_of_length_le]; have := HN.out; omega
        rw [hkn] at HG
        have k9 : ¬ (k : Int) < (fn : Int) := by omega
        clear hkn
        have HI2 := Lib.hid (HT2.out.i.below HB.out)
        have HT5 := Lib.hid (HT2.out.later HB.out)
        have HP5 := Lib.hid (HP2.out.later HB.out)
        clear HB HT2 HP2
        generalize wr = w5 at *
        go_wp2_with fail
        go_loopw [55] (fun t wx => ∃ j : Nat, j ≤ inn ∧ t = .int .i64 j ∧ (∀ n ∈ is.take j, goodX fs ⟨0, n⟩ = true) ∧ ∃ q, wx = w5.drewN q) (fun t _ => inn - (intOf t).toNat)
        case atStart => exact ⟨0, Nat.zero_le _, rfl, (fun n hn => by simp at hn), 0, rfl⟩
        case round =>
          clear k9
          obtain ⟨j, hj, rfl, hgi, q, rfl⟩ := hrel
          have HGi := Lib.hid hgi
          clear hgi
          by_cases hlj : j < inn
          · have hjl : j < is.length := by rw [← HIn.out]; exact hlj
            obtain ⟨ib, io, rfl, hi0⟩ := HI2.out (fun e => by rw [e] at hjl; cases hjl)
            have p2 := hi0 j hjl
            have htk := take_snocF is 0 j hjl
            obtain ⟨y, hy⟩ : ∃ y, is.getD j 0 = y := ⟨_, rfl⟩
            rw [hy] at p2 htk
            have HTk := Lib.hid htk
            have j0 : (0 : Int) ≤ (j : Int) := by omega
            have j1 : (j : Int) < (inn : Int) := by omega
            clear hjl hi0 htk hy
            by_cases hy1 : y < 1
            · have HB := Lib.hid (ie_drewN HT5.out.below q)
              go_wp2
              go_ret
              exact ⟨rfl, HB.out⟩
            · by_cases hy2 : 200 < y
              · have HB := Lib.hid (ie_drewN HT5.out.below q)
                go_wp2
                go_ret
                exact ⟨rfl, HB.out⟩
              · have HGy : Hid (goodX fs ⟨0, y⟩ = true) := by
                  show _ = _
                  unfold goodX
                  rw [if_pos (show (⟨0, y⟩ : It).f = 0 from rfl)]
                  show (!outB y 1 200) = true
                  unfold outB
                  rw [decide_eq_false hy1, decide_eq_false hy2]; rfl
                go_wp2_with fail
                go_roundw
                case rel => exact ⟨j + 1, by omega, by simp, (fun n hn => by
                  rw [HTk.out] at hn
                  rcases List.mem_append.1 hn with h | h
                  · exact HGi.out n h
                  · rw [List.mem_singleton.1 h]; exact HGy.out), _, rfl⟩
                case measure => simp [intOf]; omega
          · have hjn : is.take j = is := by rw [List.take_of_length_le]; have := HIn.out; omega
            rw [hjn] at HGi
            have j9 : ¬ (j : Int) < (inn : Int) := by omega
            clear hjn
            have HAll : Hid (∀ x ∈ items fs is, goodX fs x = true) := fun x hx => by
              unfold items at hx
              rcases List.mem_append.1 hx with h | h
              · exact HG.out x h
              · obtain ⟨n, hn, rfl⟩ := List.mem_map.1 h; exact HGi.out n hn
            clear HGi HG HI2
            have hbq := ie_drewN (Below.refl w5.heap.size w5) q
            have HT3 := Lib.hid (HT5.out.later hbq)
            have HP3 := Lib.hid (HP5.out.later hbq)
            clear HT5 HP5 hbq
            generalize w5.drewN q = w3 at *
            have x0 := HP3.out.cell 0
            have x1 := HP3.out.cell 1
            simp at x0 x1
            by_cases hbad : badP left size
            · have HPb := Lib.hid (plan_bad (w := w3) fa fn fc ia inn ic left size hbad)
              clear hbad
              go_wp2_with fail
              refine HPb.out.mono ?_
              rintro e w4 ⟨rfl, rfl⟩
              have HB := Lib.hid HT3.out.below
              clear HPb HT3
              go_wp2
              go_ret
              exact ⟨rfl, HB.out⟩
            · have hP := plan_res (fc := fc) (ic := ic) fa fn ia inn left size hbad HT3.out.f HN.out (by omega) (fun x hx => Nat.le_trans (HBd.out x hx) (by decide)) HT3.out.i HIn.out (by omega)
              cases hr : runP size (p0 left) (items fs is) with
              | none =>
                rw [hr] at hP
                have HP := Lib.hid hP
                clear hP hbad hr
                go_wp2_with fail
                refine HP.out.mono ?_
                rintro e w4 ⟨a, c, rfl, hno, -, hb4⟩
                have HB := Lib.hid ((HT3.out.later hb4).below)
                have hC : resC (none : Option Pl) = 27 := rfl
                rw [hC]
                clear HP HT3 hb4 hno hC x0 x1
                go_wp2
                go_ret
                exact ⟨rfl, HB.out⟩
              | some s =>
                rw [hr] at hP
                have HP := Lib.hid hP
                have HK := Lib.hid (plK hbad hr)
                have HWd := Lib.hid (run_wd hbad hr)
                clear hP hbad hr
                go_wp2_with fail
                refine HP.out.mono ?_
                rintro e w4 ⟨pa, pc, rfl, hno, hp, hb4⟩
                have HT4 := Lib.hid (HT3.out.later hb4).below
                have HPc := Lib.hid (show Pcs w4 pa s.N s.nw (fun i => fsZ (inoOf fs) (verOf fs) (bs (s.it i)).z) (fun i => (bs (s.it i)).z.li 0) from hp)
                have hChk := fun k hk => piece_chk HK.out HWd.out HAll.out (k := k) hk
                have HCk := Lib.hid hChk
                have hN : resN (some s) = s.N := rfl
                have hCz : resC (some s) = 0 := rfl
                have HN64 := HK.out.n64
                obtain ⟨N, hNe⟩ : ∃ N, s.N = N := ⟨_, rfl⟩
                rw [hN, hNe, hCz]
                rw [hNe] at HPc HCk HN64 HWd
                have HKp := Lib.hid (fun k (hk : k < N) => HK.out.piece (k := k) (by rw [hNe]; exact hk))
                have hlow : ∀ k, k < s.N → ∀ x ∈ s.it k, -9223372036854775808 ≤ x.n := fun k hk x hx => by
                  have hm := mem_items HK.out.cat hk hx
                  have hg := HAll.out x hm
                  unfold items at hm
                  rcases List.mem_append.1 hm with h | h
                  · exact HLw.out x h
                  · unfold goodX at hg
                    obtain ⟨n, _, rfl⟩ := List.mem_map.1 h
                    rw [if_pos rfl] at hg
                    unfold outB at hg
                    simp only [Bool.not_eq_true', Bool.or_eq_false_iff, decide_eq_false_iff_not] at hg
                    show -9223372036854775808 ≤ n
                    omega
                rw [hNe] at hlow
                have HLow := Lib.hid hlow
                clear HP HT3 hb4 hno hp hChk hN hCz hNe x0 x1 HP3 hlow
                go_wp2_with fail
                go_loopw [86] (fun t wx => ∃ k : Nat, k ≤ N ∧ t = .int .i64 k ∧ Below w4.heap.size w4 wx) (fun t _ => N - (intOf t).toNat)
                case atStart => exact ⟨0, Nat.zero_le _, rfl, Below.refl _ _⟩
                case round =>
                  obtain ⟨k, hk, rfl, hB⟩ := hrel
                  have HB := Lib.hid hB
                  clear hB
                  by_cases hlk : k < N
                  · obtain ⟨b, o, f1, fc1, i1, ic1, rfl, p1, p2, p3, p4, p5, -, -⟩ := HPc.out k hlk
                    obtain ⟨q1, q2, q3, q4⟩ := HKp.out k hlk
                    have hck := HCk.out k hlk
                    have hwd := HWd.out k hlk
                    have hsum := (bs_sum (s.it k)).wd
                    obtain ⟨z, hz⟩ : ∃ z, (bs (s.it k)).z = z := ⟨_, rfl⟩
                    simp only [fsZ_len, hz] at p2 p3 p4 p5
                    rw [hz] at q1 q2 q3 hck hsum
                    obtain ⟨M, hM⟩ : ∃ M, (z.li 0).length = M := ⟨_, rfl⟩
                    rw [hM] at p3 q3
                    obtain ⟨nb, hnb⟩ : ∃ nb, s.nw k = nb := ⟨_, rfl⟩
                    rw [hnb] at p1
                    have hbe := HB.out
                    have p1 := cell_later hbe p1
                    have p2 := cell_later hbe p2
                    have p3 := cell_later hbe p3
                    have hsz : szF (fsZ (inoOf fs) (verOf fs) z) ≤ 1000 := by
                      rw [szF_fsZ]
                      omega
                    have hlbs : ∀ y ∈ fsZ (inoOf fs) (verOf fs) z, ∀ n ∈ y.lb, -9223372036854775808 ≤ n := fun y hy n hn => by
                      obtain ⟨q, hq, rfl⟩ := List.mem_map.1 hy
                      have hq := List.mem_range.1 hq
                      have h1 : (⟨z.fi q, n⟩ : It) ∈ flatZ z := List.mem_flatMap.2 ⟨q, List.mem_range.2 hq, List.mem_map.2 ⟨n, hn, rfl⟩⟩
                      rw [← hz, (bs_fl (s.it k)).fl, List.mem_filter] at h1
                      exact HLow.out k hlk _ h1.1
                    have hb6 := (sup_pc wr (.cells #[.bool nb, .slice f1 z.nf fc1, .slice i1 M ic1] PC)).trans ((sup_pc (wr.alloc (.cells #[.bool nb, .slice f1 z.nf fc1, .slice i1 M ic1] PC)) (.cells #[.int .i64 0, .int .i64 0, .int .i64 k, .int .i64 N, .int .i64 0, .slice f1 z.nf fc1, .slice i1 M ic1] 28)).mono (sup_pc wr (.cells #[.bool nb, .slice f1 z.nf fc1, .slice i1 M ic1] PC)).size)
                    have hG1 := (blo_laid wr PC #[.bool nb, .slice f1 z.nf fc1, .slice i1 M ic1]).alloc (.cells #[.int .i64 0, .int .i64 0, .int .i64 k, .int .i64 N, .int .i64 0, .slice f1 z.nf fc1, .slice i1 M ic1] 28)
                    have hG2 := blo_laid (wr.alloc (.cells #[.bool nb, .slice f1 z.nf fc1, .slice i1 M ic1] PC)) 28 #[.int .i64 0, .int .i64 0, .int .i64 k, .int .i64 N, .int .i64 0, .slice f1 z.nf fc1, .slice i1 M ic1]
                    rw [World.size_alloc] at hG2
                    have HG1 := Lib.hid hG1
                    have HG2 := Lib.hid hG2
                    have HB6 := Lib.hid (HB.out.trans (hb6.mono HB.out.size))
                    have HFz := Lib.hid p4
                    have HIz := Lib.hid p5
                    have HCkz := Lib.hid hck
                    have HMz := Lib.hid hM
                    have HSz := Lib.hid hsz
                    have HLz := Lib.hid hlbs
                    have k0 : (0 : Int) ≤ (k : Int) := by omega
                    have k1 : (k : Int) < (N : Int) := by omega
                    clear p4 p5 hck hwd hsum hz hM hnb hbe hsz hlbs hb6 hG1 hG2 q1 HB
                    go_upto_region 26 with (fail)
                    clear p1 p2 p3 k0
                    obtain ⟨pb, hpb⟩ : ∃ pb, wr.heap.size = pb := ⟨_, rfl⟩
                    rw [hpb] at HG1 HG2
                    rw [hpb]
                    generalize (wr.alloc (.cells #[.bool nb, .slice f1 z.nf fc1, .slice i1 M ic1] PC)).alloc (.cells #[.int .i64 0, .int .i64 0, .int .i64 k, .int .i64 N, .int .i64 0, .slice f1 z.nf fc1, .slice i1 M ic1] 28) = w6 at *
                    clear hpb
                    have HC1 : Hid (∀ y : Kept w6, Calls Try.prog 15 #[part 0 0 k N 0 f1 z.nf fc1 i1 M ic1] y.at_ fun e w' => e = .returned (.int .i64 0) ∧ Below y.at_.heap.size y.at_ w') := fun y => by
                      have hby := HB6.out.trans (y.below.mono HB6.out.size)
                      have := check_any (fc := fc1) (ic := ic1) 0 0 k N 0 (fsZ (inoOf fs) (verOf fs) z) (z.li 0) f1 z.nf i1 M (HFz.out.later hby) (fsZ_len _ _ _).symm (Nat.le_trans HSz.out (by decide)) (HIz.out.below hby) HMz.out.symm (by omega) HLz.out
                      rw [HCkz.out] at this
                      exact this
                    have HC2 : Hid (∀ y : Kept w6, Calls Try.prog 16 #[part 0 0 k N 0 f1 z.nf fc1 i1 M ic1] y.at_ fun e w' => e = .returned (.int .i64 ((2 + M + blZ z : Nat) : Int)) ∧ Below y.at_.heap.size y.at_ w') := fun y => by
                      have hby := HB6.out.trans (y.below.mono HB6.out.size)
                      have := sblocks_any (l := fsZ (inoOf fs) (verOf fs) z) 0 0 k N 0 f1 z.nf fc1 i1 M ic1 (HFz.out.later hby) (fsZ_len _ _ _).symm (Nat.le_trans HSz.out (by decide)) (by omega)
                      rw [blF_fsZ] at this
                      exact this
                    have HC3 : Hid (∀ y : Kept w6, Calls Try.prog 17 #[.agg #[.bool nb, .slice f1 z.nf fc1, .slice i1 M ic1]] y.at_ fun e w' => e = .returned (.int .i64 ((2 + M + blZ z : Nat) : Int)) ∧ Below y.at_.heap.size y.at_ w') := fun y => by
                      have hby := HB6.out.trans (y.below.mono HB6.out.size)
                      have := blocks_any (l := fsZ (inoOf fs) (verOf fs) z) f1 z.nf fc1 i1 M ic1 nb (HFz.out.later hby) (fsZ_len _ _ _).symm (Nat.le_trans HSz.out (by decide)) (by omega)
                      rw [blF_fsZ] at this
                      exact this
                    generalize ((2 + M + blZ z : Nat) : Int) = BB at *
                    have eB : (BB != BB) = false := by simp
                    have HL1 : Hid (∀ W, (∃ x : Kept w6, W = x.at_) → Blo W pb PC #[.bool nb, .slice f1 z.nf fc1, .slice i1 M ic1]) := fun W ⟨x, hx⟩ => by rw [hx]; exact HG1.out.later x.below
                    have HL2 : Hid (∀ W, (∃ x : Kept w6, W = x.at_) → Blo W (pb + 1) 28 #[.int .i64 0, .int .i64 0, .int .i64 k, .int .i64 N, .int .i64 0, .slice f1 z.nf fc1, .slice i1 M ic1]) := fun W ⟨x, hx⟩ => by rw [hx]; exact HG2.out.later x.below
                    have hu1 := Try.underlying40
                    have hu2 := Try.underlying28
                    refine wp_region_kept (by kernel_rfl) (by kernel_rfl) ?_
                    go_big_quiet_want
                    refine quiet_whole 28 (.tmp 17) rfl (pb + 1) rfl 28 _ _ HL2.out hu2 rfl (by kernel_rfl) ?_
                    simp only [Act.put, List.setIfInBounds_toArray, List.set_cons_succ, List.set_cons_zero]
                    go_big_quiet_on
                    repeat (go_big_quiet_step ((go_at_call 15; with_reducible exact kept_call _ (HC1.out _))))
                    go_big_quiet_want
                    refine quiet_whole 28 (.tmp 17) rfl (pb + 1) rfl 28 _ _ HL2.out hu2 rfl (by kernel_rfl) ?_
                    simp only [Act.put, List.setIfInBounds_toArray, List.set_cons_succ, List.set_cons_zero]
                    go_big_quiet_on
                    repeat (go_big_quiet_step ((go_at_call 16; with_reducible exact kept_call _ (HC2.out _))))
                    go_big_quiet_want
                    refine quiet_whole 40 (.tmp 16) rfl pb rfl PC _ _ HL1.out hu1 rfl (by kernel_rfl) ?_
                    simp only [Act.put, List.setIfInBounds_toArray, List.set_cons_succ, List.set_cons_zero]
                    go_big_quiet_on
                    repeat (go_big_quiet_step ((go_at_call 17; with_reducible exact kept_call _ (HC3.out _))))
                    refine wpQuiet_nil ?_
                    rintro W ⟨wz, rfl⟩
                    have HB7 := Lib.hid (HB6.out.trans (wz.below.mono HB6.out.size))
                    clear HB6 HC1 HC2 HC3 HL1 HL2 HG1 HG2
                    go_wp2_with fail
                    go_roundw
                    case rel => exact ⟨k + 1, by omega, by simp, HB7.out⟩
                    case measure => simp [intOf]; omega
                  · have k9 : ¬ (k : Int) < (N : Int) := by omega
                    have HBe := Lib.hid (HT4.out.trans (HB.out.mono HT4.out.size))
                    clear HB
                    go_wp2
                    go_ret
                    exact ⟨rfl, HBe.out⟩
theorem packSummaries_walk (fa : Option Addr) (fn fc : Nat) (fs : List Fi) (ia : Option Addr) (inn ic : Nat) (is : List Int) (left size : Int) (w : World) (h1 : FinIn w fa fn fc fs) (h2 : IntsIn w ia inn ic is) (_ : True) :
    Calls Try.prog 5 #[.slice fa fn fc, .slice ia inn ic, .agg #[.int .i64 left, .int .i64 size]] w fun e w' => e = .returned (.bool true) ∧ Below w.heap.size w w' :=
  packSummaries_any w fs is fa fn fc ia inn ic left size h1.fis h2.ints h1.leq h2.leq h1.lenm h2.lenm h1.lb h1.wf
end Go.Proofs.Ytonlhkhjdnaojaa
