/-
  The walk of Places.
-/
import Derived.Test.YtnlmpnpelnmpeaaFlMetas
namespace Go.Proofs.Ytnlmpnpelnmpeaa
open Go.RowKit Go.Maps

abbrev LT : TypeId := 46
def cellsP (l : List (Int × Int)) : List Value := l.flatMap fun p => [.int .i64 p.1, .int .i64 p.2]
theorem cellsP_snoc (l : List (Int × Int)) (x y : Int) : cellsP (l ++ [(x, y)]) = cellsP l ++ [.int .i64 x, .int .i64 y] := by simp [cellsP]
theorem cellsP_len (l : List (Int × Int)) : (cellsP l).length = l.length * 2 := by
  induction l with
  | nil => rfl
  | cons p l ih => rw [cellsP, List.flatMap_cons, List.length_append]; unfold cellsP at ih; rw [ih, List.length_cons]; simp; omega
def datL (d : Nat → Int) (i : Nat) : List (Int × Int) := (List.range i).flatMap fun n => if d n ≠ 0 then [((n : Int), d n)] else []
def plM (ad : Int → Int) (l : List Int) : List (Int × Int) := l.flatMap fun x => if ad x ≠ 0 then [(x, ad x)] else []
def plcL (d : Nat → Int) (ad : Int → Int) : List (Int × Int) := datL d 600 ++ plM ad (metL d)
theorem datL_succ (d : Nat → Int) (i : Nat) : datL d (i + 1) = datL d i ++ if d i ≠ 0 then [((i : Int), d i)] else [] := by simp [datL, List.range_succ]
theorem plM_snoc (ad : Int → Int) (l : List Int) (x : Int) : plM ad (l ++ [x]) = plM ad l ++ if ad x ≠ 0 then [(x, ad x)] else [] := by simp [plM]
theorem datL_len (d : Nat → Int) : ∀ i, (datL d i).length ≤ i
  | 0 => Nat.le_refl _
  | i + 1 => by have := datL_len d i; rw [datL_succ, List.length_append]; split <;> simp <;> omega
theorem wp_load_part {P : Program} {ops : Array Oper} {rest : List Oper} {o : Oper} {a : Act} {w : World} {Q : Exit → Act → World → Prop} (hgd : o.guard = none) (ty : TypeId) (x : Operand) (ho : o.op = .load ty x)
    (g : Nat) (hx : a.eval x = .pointer (some ⟨g, 0, none⟩)) (cs : Array Value) (d : TypeDesc) (hc : ∀ j v, cs[j]? = some v → w.cell? ⟨g, j, none⟩ = some v)
    (hu : P.underlying ty = some d) (hd : (match d with | .struct _ | .array _ _ => true | _ => false) = true) (hi : (P.info? ty).map (·.size) = some cs.size)
    (h : wpList P ops Q rest (a.put o.dst (.agg cs)) w) : wpList P ops Q (o :: rest) a w := by
  refine wpList_plain hgd fun _ hK => ?_
  have hl : (loadCells ⟨g, 0, none⟩ cs.toList.length).run P w = .ok cs.toList.toArray w :=
    run_loadCells_list (P := P) w ⟨g, 0, none⟩ cs.toList (fun j v hv => by
      have hadd : (⟨g, 0, none⟩ : Addr).add j = ⟨g, j, none⟩ := by unfold Addr.add; split <;> simp_all
      rw [hadd]
      exact hc j v (by simpa using hv))
  have hrun : (loadVar ty ⟨g, 0, none⟩).run P w = .ok (.agg cs) w := by
    cases hq : P.info? ty with
    | none => simp [hq] at hi
    | some i =>
      have hs : i.size = cs.size := by simpa [hq] using hi
      have hagg : (isAgg ty).run P w = .ok true w := by
        unfold isAgg
        rw [Sem.run_bind, run_underlying hu w]
        cases d <;> simp_all
      simp only [Array.length_toList, Array.toArray_toList] at hl
      simp [loadVar, Sem.run_bind, hagg, sizeOf, typeInfo, hq, hs, hl]
  unfold Oper.wp execOp
  simp only [ho, hx, Instr.loadAt, Instr.sureAddr, Sem.run_bind, Sem.run_pure, Result.andThen_ok, hrun]
  exact hK _ _ h
section
variable {B M b n : Nat} {d : Nat → Int} {ad : Int → Int} {w w' : World}
def PlA (w : World) (B M b n : Nat) (d : Nat → Int) (ad : Int → Int) (f : Int → Option Nat) (v t : Value) (wr : World) : Prop :=
  ∃ (j m : Nat), j ≤ 600 ∧ t = .int .i64 j ∧ FC B M b n d f ad (cov d) wr ∧ Below w.heap.size w wr ∧ wr.ownsRow w.heap.size LT 2 v m (cellsP (datL d j)) ∧ m = (datL d j).length
def PlB (w : World) (B M b n : Nat) (d : Nat → Int) (ad : Int → Int) (f : Int → Option Nat) (q : Nat) (v1 : Value) (v t : Value) (wr : World) : Prop :=
  ∃ (j m : Nat), j ≤ q ∧ t = .int .i64 j ∧ FC B M b n d f ad (cov d) wr ∧ Below w.heap.size w wr ∧ wr.ownsRow w.heap.size 3 1 v1 q (cellsI (metL d)) ∧ wr.ownsRow w.heap.size LT 2 v m (cellsP (datL d 600 ++ plM ad ((metL d).take j))) ∧ m = (datL d 600 ++ plM ad ((metL d).take j)).length ∧ m ≤ 600 + j
theorem run_index600 {w : World} (cs : Array Value) (j : Nat) (v : Int) (hj : j < 600) (h : cs[j]? = some (.int .i64 v)) : (Instr.index 52 (.agg cs) (.int .i64 (j : Int))).run Try.prog w = .ok (.int .i64 v) w := by
  have hu := Try.underlying52
  have hk : (0 : Int) ≤ (j : Int) ∧ (j : Int) < ((600 : Nat) : Int) := by omega
  have hs : (sizeOf 3).run Try.prog w = .ok 1 w := by kernel_rfl
  have ha : (isAgg 3).run Try.prog w = .ok false w := by kernel_rfl
  unfold Instr.index
  simp [asIntOf, run_underlying hu, Sem.run_bind, hk, hs, ha, part, h]
  intro h6
  omega
theorem info_LT : (Try.prog.info? LT).map (fun i => (i.zero, i.size, i.bytes)) = some (some (.agg #[.int .i64 0, .int .i64 0]), 2, 16) := by kernel_rfl
theorem row_ne_row {w : World} {b1 b2 n m s1 s2 : Nat} {e1 e2 : TypeId} {u v : Value} {xs ys : List Value} (h : w.ownsRow b1 e1 s1 u n xs) (hv : w.ownsRow b2 e2 s2 v m ys) (hne : e1 ≠ e2) : u.ownBlock = none ∨ u.ownBlock ≠ v.ownBlock := by
  rcases h.2 with ⟨rfl, _⟩ | ⟨g, cap, cur, rfl, _, hg, _⟩
  · exact .inl rfl
  · exact .inr (fun e => Blo.row_apart (show Blo w g e1 cur from hg) hv (Ne.symm hne) e)
set_option maxRecDepth 20000 in
set_option maxHeartbeats 2000000 in
theorem places_any (h : FX B M b n d ad w) : Calls Try.prog 19 #[.pointer (some ⟨M, 0, none⟩)] w fun e w' => ∃ u m, e = .returned u ∧ m = (plcL d ad).length ∧ w'.ownsRow w.heap.size LT 2 u m (cellsP (plcL d ad)) ∧ Below w.heap.size w w' := by
  have HMe := Lib.hid (fun W (hh : FX B M b n d ad W) => metas_anyF hh)
  obtain ⟨f, h⟩ := h
  obtain ⟨cs, hcs, hcd⟩ : ∃ cs : Array Value, cs.size = 600 ∧ ∀ i, i < 600 → cs[i]? = some (.int .i64 (d i)) := ⟨((List.range 600).map fun i => Value.int .i64 (d i)).toArray, by simp, fun i hi => by simp [hi]⟩
  have hca : ∀ j v, cs[j]? = some v → w.cell? ⟨M, j, none⟩ = some v := fun j v hv => by
    have hj : j < 600 := by rw [← hcs]; exact (Array.getElem?_eq_some_iff.1 hv).1
    rw [hcd j hj] at hv
    cases hv
    exact h.dat j hj
  have HCd := Lib.hid hcd
  have HCa := Lib.hid hca
  have HCs : Hid ((Try.prog.info? 52).map (·.size) = some cs.size) := by
    show _ = _
    rw [hcs]; kernel_rfl
  have HF := Lib.hid h
  have HPo : Hid (plcL d ad = datL d 600 ++ plM ad ((metL d).take (metL d).length)) := by
    show _ = _
    rw [List.take_length]; rfl
  rw [HPo.out]
  have HMl := Lib.hid (metL_len d)
  have HLI := Lib.hid info_LT
  clear h hcs hcd hca HPo
  go_enter Try.func19, Try.ntmps19
  go_wp2_with (refine wp_load_part rfl 52 (.tmp 11) rfl M rfl cs _ HCa.out Try.underlying52 rfl HCs.out ?_)
  go_loopw [3, 13] (fun v t wr => PlA w B M b n d ad f v t wr) (fun _ t _ => 600 - (intOf t).toNat)
  case atStart => exact ⟨0, 0, by omega, rfl, HF.out, Below.refl _ _, ⟨rfl, .inl ⟨rfl, rfl⟩⟩, rfl⟩
  case round =>
    clear HCa HCs HF
    obtain ⟨j, m, hj, rfl, hf, hb, ho, hm⟩ := hrel
    have hdl := datL_len d j
    rw [← hm] at hdl
    obtain ⟨la, lc, rfl, -⟩ := own_slice ho
    by_cases hlt : j < 600
    · have hcj := HCd.out j hlt
      have HDs := Lib.hid (datL_succ d j)
      have HF := Lib.hid hf
      have HB := Lib.hid hb
      have HO := Lib.hid ho
      have HMm := Lib.hid hm
      have hj6 : (j : Int) < 600 := by omega
      clear hf hb ho hm
      by_cases hd0 : d j = 0
      · rw [if_neg (by simp [hd0]), List.append_nil] at HDs
        rw [← HDs.out] at HO HMm
        rw [hd0] at hcj
        have hix := run_index600 (w := wr) cs j 0 hlt hcj
        clear hd0
        go_wp2_with fail
        go_roundw
        case rel => exact ⟨j + 1, m, by omega, by simp, HF.out, HB.out, HO.out, HMm.out⟩
        case measure => simp [intOf]; omega
      · have hne : (d j != 0) = true := by simpa using hd0
        rw [if_pos hd0] at HDs
        obtain ⟨v, hv⟩ : ∃ v, d j = v := ⟨_, rfl⟩
        rw [hv] at hcj HDs hne
        clear hd0 hv
        have hix := run_index600 (w := wr) cs j v hlt hcj
        have hzw := HB.out.size
        go_wp2_with (at_builtin; refine wp_append_rowO rfl (.tmp 19) (.tmp 23) 43 rfl w.heap.size LT _ 2 16 Try.underlying43 HLI.out (by kernel_rfl) (by decide) (by decide) (.slice la m lc) m _ rfl (own_later HO.out (sup_below wr _)) (some ⟨wr.heap.size, 0, none⟩) 1 1 [.int .i64 (j : Int), .int .i64 v] rfl rfl (laid_srcO wr LT _ _ rfl) (by simp [Value.oneCell']) (fun e => by cases e) (by omega) (by simp; omega) ?_; intro a6 c6 w6 hown hgrow hat; have HO6 := Lib.hid hown; have HG6 := Lib.hid hgrow; clear hown hgrow hat)
        rw [← cellsP_snoc, ← HDs.out] at HO6
        have hsr := sup_below wr (.cells #[.int .i64 (j : Int), .int .i64 v] LT)
        have hmm : m + 1 = (datL d (j + 1)).length := by rw [HDs.out, List.length_append, ← HMm.out]; rfl
        have HF6 := Lib.hid ((HF.out.later hsr).row (own_later HO.out hsr) (by decide) (by decide) HG6.out)
        have HB6 := Lib.hid ((HB.out.trans (hsr.mono HB.out.size)).grown HG6.out (by have := hsr.size; omega) (fun k e => by have := (own_later HO.out hsr).lt k e; omega))
        go_roundw
        case rel => exact ⟨j + 1, m + 1, by omega, by simp, HF6.out, HB6.out, HO6.out, hmm⟩
        case measure => simp [intOf]; omega
    · obtain rfl : 600 = j := by omega
      have HF := Lib.hid hf
      have HB := Lib.hid hb
      have HO := Lib.hid ho
      have HMm := Lib.hid hm
      have hzr := hb.size
      clear hf hb ho hm HCd
      go_wp2_with fail
      refine (HMe.out wr ⟨f, HF.out⟩).mono ?_
      rintro e w1 ⟨u, q, rfl, hq, hou, hb1⟩
      obtain ⟨ua, uc, rfl, -⟩ := own_slice hou
      have HF1 := Lib.hid (HF.out.later hb1)
      have HB1 := Lib.hid (HB.out.trans (hb1.mono HB.out.size))
      have HO1 := Lib.hid (own_later HO.out hb1)
      have HU1 := Lib.hid (own_weak hou hzr)
      have HQ := Lib.hid hq
      have hq42 : q ≤ 42 := by have := HMl.out; omega
      clear hou hb1 HF HB HO HMe hq
      go_wp2_with fail
      go_loopw [3, 29] (fun v t wr => PlB w B M b n d ad f q (.slice ua q uc) v t wr) (fun _ t _ => q - (intOf t).toNat)
      case atStart => exact ⟨0, m, by omega, rfl, HF1.out, HB1.out, HU1.out, by rw [List.take_zero]; simpa [plM] using HO1.out, by rw [List.take_zero]; simpa [plM] using HMm.out, by omega⟩
      case round =>
        clear HF1 HB1 HU1 HO1 HMm
        rename World => wq
        obtain ⟨k, m2, hk, rfl, hf, hb, hu, ho, hm2, hm6⟩ := hrel
        obtain ⟨ka, kc, rfl, -⟩ := own_slice ho
        by_cases hlt : k < q
        · obtain ⟨g1, rfl, -, -, -, -⟩ := own_some hu (by omega)
          have hkl : k < (metL d).length := by rw [← HQ.out]; exact hlt
          have cJ : wq.cell? ⟨g1, k, none⟩ = some (.int .i64 (metL d)[k]) := by
            rw [hu.cellAt k (by omega), cellsI_get (metL d) k hkl]; simp [List.getD_eq_getElem?_getD, hkl]
          have hpos := (metL_mem d (metL d)[k]).1 (List.getElem_mem hkl)
          have hbx := metAll_f.2.2.1 (metL d)[k] (List.mem_filter.1 (List.getElem_mem hkl)).1
          have hT : (metL d).take (k + 1) = (metL d).take k ++ [(metL d)[k]] := List.take_succ_eq_append_getElem hkl
          have HTk : Hid (datL d 600 ++ plM ad ((metL d).take (k + 1)) = (datL d 600 ++ plM ad ((metL d).take k)) ++ if ad (metL d)[k] ≠ 0 then [((metL d)[k], ad (metL d)[k])] else []) := by
            show _ = _
            rw [hT, plM_snoc, List.append_assoc]
          have HWf := Lib.hid (wfI (metL d)[k] (by omega) (by omega))
          have HF := Lib.hid hf
          have HB := Lib.hid hb
          have HU := Lib.hid hu
          have HO := Lib.hid ho
          have HM2 := Lib.hid hm2
          have c600 := hf.bd
          have HP := Lib.hid hf.mp
          obtain ⟨g, hg⟩ : ∃ g, f (metL d)[k] = some g := by
            have := hf.is (metL d)[k]
            rw [decide_eq_true hpos] at this
            exact Option.isSome_iff_exists.1 this
          have cA : wq.cell? ⟨g, 0, none⟩ = some (.int .i64 (ad (metL d)[k])) := ((hf.mt _ g hg).1.cell 0).trans rfl
          clear hf hb hu ho hm2 hbx hT hpos
          generalize (metL d)[k] = x at *
          clear hkl
          by_cases hd0 : ad x = 0
          · rw [if_neg (by simp [hd0]), List.append_nil] at HTk
            rw [← HTk.out] at HO HM2
            rw [hd0] at cA
            clear hd0
            go_wp2_with (at_lookup; refine wp_look_some _ rfl _ _ PT rfl _ undM (zeroM _) b _ _ rfl HP.out x rfl HWf.out g hg ?_)
            go_roundw
            case rel => exact ⟨k + 1, m2, by omega, by simp, HF.out, HB.out, HU.out, HO.out, HM2.out, by omega⟩
            case measure => simp [intOf]; omega
          · have hne : (ad x != 0) = true := by simpa using hd0
            rw [if_pos hd0] at HTk
            obtain ⟨v, hv⟩ : ∃ v, ad x = v := ⟨_, rfl⟩
            rw [hv] at cA HTk hne
            clear hd0 hv
            have hzw := HB.out.size
            go_wp2_with (first
              | (at_lookup; refine wp_look_some _ rfl _ _ PT rfl _ undM (zeroM _) b _ _ rfl HP.out x rfl HWf.out g hg ?_)
              | (at_builtin; refine wp_append_rowO rfl (.tmp 44) (.tmp 48) 43 rfl w.heap.size LT _ 2 16 Try.underlying43 HLI.out (by kernel_rfl) (by decide) (by decide) (.slice ka m2 kc) m2 _ rfl (own_later HO.out (sup_below wq _)) (some ⟨wq.heap.size, 0, none⟩) 1 1 [.int .i64 x, .int .i64 v] rfl rfl (laid_srcO wq LT _ _ rfl) (by simp [Value.oneCell']) (fun e => by cases e) (by omega) (by simp; omega) ?_; intro a6 c6 w6 hown hgrow hat; have HO6 := Lib.hid hown; have HG6 := Lib.hid hgrow; clear hown hgrow hat))
            rw [← cellsP_snoc, ← HTk.out] at HO6
            have hsr := sup_below wq (.cells #[.int .i64 x, .int .i64 v] LT)
            have hmm : m2 + 1 = (datL d 600 ++ plM ad ((metL d).take (k + 1))).length := by rw [HTk.out, List.length_append, ← HM2.out]; rfl
            have HF6 := Lib.hid ((HF.out.later hsr).row (own_later HO.out hsr) (by decide) (by decide) HG6.out)
            have HB6 := Lib.hid ((HB.out.trans (hsr.mono HB.out.size)).grown HG6.out (by have := hsr.size; omega) (fun k e => by have := (own_later HO.out hsr).lt k e; omega))
            have HU6 := Lib.hid ((own_later HU.out hsr).kept HG6.out (row_ne_row (own_later HU.out hsr) (own_later HO.out hsr) (by decide)))
            go_roundw
            case rel => exact ⟨k + 1, m2 + 1, by omega, by simp, HF6.out, HB6.out, HU6.out, HO6.out, hmm, by omega⟩
            case measure => simp [intOf]; omega
        · obtain rfl : k = q := by omega
          rw [HQ.out] at ho hm2
          have HO := Lib.hid ho
          have HM2 := Lib.hid hm2
          have HB := Lib.hid hb
          clear ho hm2 hb hu hf hm6
          go_wp2_with fail
          go_ret
          exact ⟨_, m2, rfl, HM2.out, HO.out, HB.out⟩
end
end Go.Proofs.Ytnlmpnpelnmpeaa
