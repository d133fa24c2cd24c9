/-
  The document's Metas: in numbers, and its walk.
-/
import Derived.Test.YtcekejaefbdhfaaIxPaths
import Derived.Deep.CutBlock
import Derived.Deep.DeepCutAuto
namespace Go.Proofs.Ytcekejaefbdhfaa
open Go.RowKit

def fullD (F : Int) : Nat → List (Int × Int)
  | 0 => []
  | j + 1 => fullD F j ++ (if startsB F (3 - (j : Int)) = true then [(F, 3 - (j : Int))] else [])
def fullK : Nat → List (Int × Int)
  | 0 => []
  | k + 1 => fullK k ++ fullD (k : Int) 3
def cB (fr tt : Int) (p : Int × Int) : Bool := decide (fr < p.1 + spanM p.2 ∧ fr < tt)
theorem downM_full (fr tt F : Int) : ∀ j, downM fr tt F j = ((fullD F j).filter (cB fr tt)).map fun p => numM p.1 p.2
  | 0 => rfl
  | j + 1 => by
    rw [downM, downM_full fr tt F j, fullD, List.filter_append, List.map_append]
    congr 1
    unfold levM
    by_cases hs : startsB F (3 - (j : Int)) = true
    · by_cases hc : fr < F + spanM (3 - (j : Int)) ∧ fr < tt
      · rw [if_pos ⟨hs, hc⟩, if_pos hs]
        simp [cB, hc]
      · rw [if_neg (fun h => hc h.2), if_pos hs]
        have : cB fr tt (F, 3 - (j : Int)) = false := decide_eq_false hc
        simp [this]
    · rw [if_neg (fun h => hs h.1), if_neg hs]; rfl
theorem mtsM_full (fr tt : Int) : ∀ k, mtsM fr tt k = ((fullK k).filter (cB fr tt)).map fun p => numM p.1 p.2
  | 0 => rfl
  | k + 1 => by rw [mtsM, mtsM_full fr tt k, downM_full, fullK, List.filter_append, List.map_append]
theorem fullD_mem (F : Int) : ∀ j, ∀ p ∈ fullD F j, p.1 = F
  | 0, p, h => by cases h
  | j + 1, p, h => by
    rw [fullD] at h
    rcases List.mem_append.1 h with h | h
    · exact fullD_mem F j p h
    · split at h
      · rw [List.mem_singleton.1 h]
      · cases h
theorem fullK_lt : ∀ k, ∀ p ∈ fullK k, p.1 < (k : Int)
  | 0, p, h => by cases h
  | k + 1, p, h => by
    rw [fullK] at h
    rcases List.mem_append.1 h with h | h
    · have := fullK_lt k p h; omega
    · have := fullD_mem _ _ p h; omega
theorem fullK_split (k : Nat) : ∀ m, ∃ r, fullK (k + m) = fullK k ++ r ∧ ∀ p ∈ r, (k : Int) ≤ p.1
  | 0 => ⟨[], by simp, by simp⟩
  | m + 1 => by
    obtain ⟨r, h1, h2⟩ := fullK_split k m
    refine ⟨r ++ fullD ((k + m : Nat) : Int) 3, by rw [← Nat.add_assoc, fullK, h1, List.append_assoc], fun p hp => ?_⟩
    rcases List.mem_append.1 hp with h | h
    · exact h2 p h
    · have := fullD_mem _ _ p h; omega
theorem full_all : fullK 600 = allM.map (fun m => (m.f, m.lv)) := by decide +kernel
theorem num_all : allM.all (fun m => decide (numM m.f m.lv = m.n)) = true := by decide +kernel
def cM (fr tt : Int) (m : Mt) : Bool := decide (m.f < tt ∧ fr < m.f + manyM m.f m.lv ∧ fr < tt)
def refL (fr tt : Int) (l : List Mt) : List Int := (l.filter (cM fr tt)).map (·.n)
theorem ref_eq (fr tt : Int) (h0 : 0 ≤ fr) (h1 : fr ≤ tt) (h2 : tt ≤ 600) : mtsM fr tt tt.toNat = refL fr tt allM := by
  obtain ⟨r, hs, hr⟩ := fullK_split tt.toNat (600 - tt.toNat)
  rw [show tt.toNat + (600 - tt.toNat) = 600 by omega] at hs
  have hk : fullK tt.toNat = (fullK 600).filter (fun p => decide (p.1 < tt)) := by
    rw [hs, List.filter_append, List.filter_eq_self.2 (fun p hp => by have := fullK_lt _ p hp; simp; omega), List.filter_eq_nil_iff.2 (fun p hp => by have := hr p hp; simp; omega), List.append_nil]
  rw [mtsM_full, hk, full_all, List.filter_filter, List.filter_map, List.map_map, refL]
  have hf : allM.filter ((fun p => cB fr tt p && decide (p.1 < tt)) ∘ fun m => (m.f, m.lv)) = allM.filter (cM fr tt) := by
    refine List.filter_congr fun m hm => ?_
    have hb := List.all_eq_true.1 allM_bd m hm
    simp only [decide_eq_true_eq] at hb
    have hsp := spanM_bd m.lv
    show (cB fr tt (m.f, m.lv) && decide (m.f < tt)) = cM fr tt m
    unfold cB cM manyM
    rw [Bool.eq_iff_iff]
    simp only [Bool.and_eq_true, decide_eq_true_eq]
    split <;> omega
  rw [hf]
  refine List.map_congr_left fun m hm => ?_
  have := List.all_eq_true.1 num_all m (List.mem_filter.1 hm).1
  simpa using this
theorem refL_succ (fr tt : Int) (k : Nat) (hk : k < allM.length) : refL fr tt (allM.take (k + 1)) = refL fr tt (allM.take k) ++ (if cM fr tt allM[k] = true then [allM[k].n] else []) := by
  unfold refL
  rw [List.take_succ_eq_append_getElem hk, List.filter_append, List.map_append]
  congr 1
  by_cases h : cM fr tt allM[k] = true
  · rw [if_pos h]; simp [h]
  · rw [if_neg h]; simp [h]
theorem refL_len (fr tt : Int) (l : List Mt) : (refL fr tt l).length ≤ l.length := by
  unfold refL; rw [List.length_map]; exact List.length_filter_le _ _
/-- The entries' cells, whatever the memory. -/
def CellsP (cs : List Value) : Prop := ∀ (i : Nat) (hi : i < allM.length), ∃ am cm as_ cs_, ∀ j u, [Value.int .i64 allM[i].n, .int .i64 allM[i].lv, .int .i64 allM[i].f, .int .i64 allM[i].r, .slice am allM[i].ms.length cm, .slice as_ allM[i].ss.length cs_][j]? = some u → cs[i * 6 + j]? = some u
theorem MtsC.cellsP {W : World} {cs : List Value} (h : MtsC W allM cs) : CellsP cs := fun i hi => by
  obtain ⟨c, ⟨am, cm, as_, cs_, rfl, _⟩, h2⟩ := h.at_ i hi
  exact ⟨am, cm, as_, cs_, h2⟩
theorem own_types {W : World} {b1 b2 : Nat} {e1 e2 : TypeId} {s1 s2 n1 n2 : Nat} {v1 v2 : Value} {x1 x2 : List Value} (h1 : W.ownsRow b1 e1 s1 v1 n1 x1) (h2 : W.ownsRow b2 e2 s2 v2 n2 x2) (hne : e1 ≠ e2) : v1.ownBlock = none ∨ v1.ownBlock ≠ v2.ownBlock := by
  rcases h1.2 with ⟨rfl, _⟩ | ⟨g1, c1, u1, rfl, _, q1, _⟩
  · exact .inl rfl
  · right
    intro e
    rcases h2.2 with ⟨rfl, _⟩ | ⟨g2, c2, u2, rfl, _, q2, _⟩
    · cases e
    · have e3 : g1 = g2 := by simpa [Value.ownBlock] using e
      subst e3
      rw [q1] at q2
      injection q2 with q2
      injection q2 with _ q3
      exact hne q3
def RmR (w : World) (fr tt : Int) (g c4 : Nat) (cs : List Value) (v t : Value) (W : World) : Prop :=
  ∃ k : Nat, k ≤ 42 ∧ t = .int .i64 k ∧ OwnL W w.heap.size v (refL fr tt (allM.take k)) ∧ W.ownsRow w.heap.size MET 6 (.slice (some ⟨g, 0, none⟩) 42 c4) 42 cs ∧ Below w.heap.size w W
set_option maxHeartbeats 400000 in
theorem rmetas_bad (fr tt : Int) (w : World) (h : fr < 0 ∨ tt < fr ∨ 600 < tt) :
    Calls Try.prog 21 #[.int .i64 fr, .int .i64 tt] w fun e w' => e = .returned (.tuple #[.slice none 0 0, .int .i64 22]) ∧ w = w' := by
  by_cases h0 : fr < 0
  · clear h
    go_enter Try.func21, Try.ntmps21
    go_wp2
    go_ret2
    exact ⟨rfl, rfl⟩
  · by_cases h1 : tt < fr
    · clear h
      go_enter Try.func21, Try.ntmps21
      go_wp2
      go_ret2
      exact ⟨rfl, rfl⟩
    · have h2 : 600 < tt := by omega
      clear h
      go_enter Try.func21, Try.ntmps21
      go_wp2
      go_ret2
      exact ⟨rfl, rfl⟩
set_option maxRecDepth 100000 in
set_option maxHeartbeats 4000000 in
theorem rmetas_good (fr tt : Int) (w : World) (h0 : 0 ≤ fr) (h1 : fr ≤ tt) (h2 : tt ≤ 600) :
    Calls Try.prog 21 #[.int .i64 fr, .int .i64 tt] w (MetasOut w (refL fr tt allM)) := by
  have HAll := Lib.hid (all_any w)
  have HOut : Hid (∀ v W, OwnL W w.heap.size v (refL fr tt allM) → Below w.heap.size w W → MetasOut w (refL fr tt allM) (.returned (.tuple #[v, .int .i64 0])) W) := fun v W ha hb => ⟨v, rfl, ha, hb⟩
  have HO0 : Hid (∀ W, OwnL W w.heap.size (.slice none 0 0) (refL fr tt (allM.take 0))) := fun W => ⟨rfl, .inl ⟨rfl, rfl⟩⟩
  have HTk : Hid (allM.take 42 = allM) := List.take_of_length_le (by rw [allM_len]; decide)
  generalize MetasOut w (refL fr tt allM) = PO at *
  go_enter Try.func21, Try.ntmps21
  go_wp2_with fail
  refine HAll.out.mono ?_
  rintro e w1 ⟨v4, cs, rfl, ho4, hm4, hb4⟩
  rw [allM_len] at ho4
  obtain ⟨g, c4, rfl, _, _⟩ := ho4.form (by decide)
  have HSt : Hid (RmR w fr tt g c4 cs (.slice none 0 0) (.int .i64 0) w1) := ⟨0, by decide, rfl, HO0.out w1, ho4, hb4⟩
  have HCp := Lib.hid hm4.cellsP
  clear ho4 hm4 hb4 HAll HO0
  go_wp2_with fail
  go_loopw [6, 23] (fun v t wr => RmR w fr tt g c4 cs v t wr) (fun _ t _ => 42 - (intOf t).toNat)
  case atStart => exact HSt.out
  case round =>
    clear HSt
    obtain ⟨k, hk, rfl, hO, hL, hB⟩ := hrel
    have k0 : (0 : Int) ≤ (k : Int) := by omega
    by_cases hlt : k < 42
    · have k1 : (k : Int) < 42 := by omega
      have HKn : Hid (k < 42) := hlt
      have hkl : k < allM.length := by rw [allM_len]; exact hlt
      obtain ⟨am, cm, as_, cs_, hc⟩ := HCp.out k hkl
      have hbd := List.all_eq_true.1 allM_bd allM[k] (List.getElem_mem hkl)
      simp only [decide_eq_true_eq] at hbd
      have hlen : (refL fr tt (allM.take k)).length ≤ 42 := Nat.le_trans (refL_len _ _ _) (by rw [List.length_take]; omega)
      have HNx := Lib.hid (refL_succ fr tt k hkl)
      have hmy : manyM allM[k].f allM[k].lv ≤ 4096 ∧ 0 ≤ manyM allM[k].f allM[k].lv := by
        have := spanM_bd allM[k].lv
        unfold manyM
        split <;> omega
      have cell : ∀ (x : Kept wr) j u, cs[k * 6 + j]? = some u → x.at_.cell? ⟨g, k * 6 + j, none⟩ = some u := fun x j u hj => by
        have hjl := (List.getElem?_eq_some_iff.1 hj).1
        have hL2 := own_later hL x.below
        have := hL2.cellAt (k * 6 + j) (by have := hL2.1; omega)
        rw [this]; exact hj
      have HMy := Lib.hid (fun n r am as_ nm ns cm cs_ w => many_any n allM[k].lv allM[k].f r am as_ nm ns cm cs_ w (by omega) (by omega) (by omega) (by omega))
      have HCm : Hid (cM fr tt allM[k] = decide (allM[k].f < tt ∧ fr < allM[k].f + manyM allM[k].f allM[k].lv ∧ fr < tt)) := rfl
      generalize refL fr tt (allM.take k) = cur at *
      generalize manyM allM[k].f allM[k].lv = my at *
      generalize allM[k] = m at *
      have e0 : ∀ x : Kept wr, x.at_.cell? ⟨g, k * 6, none⟩ = some (.int .i64 m.n) := fun x => cell x 0 _ (hc 0 _ rfl)
      have e1 : ∀ x : Kept wr, x.at_.cell? ⟨g, k * 6 + 1, none⟩ = some (.int .i64 m.lv) := fun x => cell x 1 _ (hc 1 _ rfl)
      have e2 : ∀ x : Kept wr, x.at_.cell? ⟨g, k * 6 + 2, none⟩ = some (.int .i64 m.f) := fun x => cell x 2 _ (hc 2 _ rfl)
      have e3 : ∀ x : Kept wr, x.at_.cell? ⟨g, k * 6 + 3, none⟩ = some (.int .i64 m.r) := fun x => cell x 3 _ (hc 3 _ rfl)
      have e4 : ∀ x : Kept wr, x.at_.cell? ⟨g, k * 6 + 4, none⟩ = some (.slice am m.ms.length cm) := fun x => cell x 4 _ (hc 4 _ rfl)
      have e5 : ∀ x : Kept wr, x.at_.cell? ⟨g, k * 6 + 5, none⟩ = some (.slice as_ m.ss.length cs_) := fun x => cell x 5 _ (hc 5 _ rfl)
      obtain ⟨m1, m2, m3, m4, m5, m6, m7, m8, m9, m10⟩ := hbd
      obtain ⟨my1, my2⟩ := hmy
      have hws : IntKind.i64.wrap (m.f + my) = m.f + my := IntWalk.i64_in _ (by omega)
      have HO := Lib.hid hO
      have HL := Lib.hid hL
      have HB := Lib.hid hB
      clear cell hc hO hL hB hlt hkl hk m10 m9
      go_upto_region 8 with fail
      by_cases hc1 : m.f < tt
      · by_cases hc2 : fr < m.f + my
        · by_cases hc3 : fr < tt
          · have hcm : cM fr tt m = true := by rw [HCm.out]; exact decide_eq_true ⟨hc1, hc2, hc3⟩
            have hN := HNx.out
            rw [if_pos hcm] at hN
            have HN := Lib.hid hN
            clear hcm hN HNx HCm
            refine wp_region_kept (by kernel_rfl) (by kernel_rfl) ?_
            repeat (go_big_quiet_step ((go_at_call 17; exact kept_call _ (HMy.out _ _ _ _ _ _ _ _ _))))
            refine wpQuiet_nil ?_
            rintro W ⟨wx, rfl⟩
            have x0 := e0 wx
            have HO2 := Lib.hid (own_later HO.out wx.below)
            have HL2 := Lib.hid (own_later HL.out wx.below)
            have HB2 := Lib.hid (HB.out.trans (wx.below.mono HB.out.size))
            clear e0 e1 e2 e3 e4 e5 hws hc1 hc2 hc3 HMy
            generalize wx.at_ = w5 at *
            go_wp2_with (at_builtin; refine wp_append_int rfl (.tmp 53) (.tmp 59) 28 rfl w.heap.size INT Try.underlying28 info_int _ cur.length cur rfl (HO2.out.alloc _) _ m.n rfl (by simp) (by omega) (by have := HB2.out.size; simp <;> omega) ?_; intro g2 cap2 w6 hown hgrow hat hlt1; have HO6 := Lib.hid hown; have HL6 := Lib.hid ((HL2.out.alloc _).kept hgrow (own_types HL2.out HO2.out (by decide))); have HB6 := Lib.hid ((HB2.out.alloc HB2.out.size _).grown hgrow (HB2.out.alloc HB2.out.size _).size (fun q hq => ((HO2.out).lt q hq).1)); clear hown hgrow hat hlt1)
            go_roundw
            case rel =>
              refine ⟨k + 1, HKn.out, by simp, ?_, HL6.out, HB6.out⟩
              rw [HN.out]
              unfold OwnL
              rw [show (cur ++ [m.n]).length = cur.length + 1 by simp]
              exact HO6.out
            case measure => simp [intOf]; have := HKn.out; omega
          · have hcm : ¬ cM fr tt m = true := by rw [HCm.out, decide_eq_true_eq]; exact fun h => hc3 h.2.2
            have hN := HNx.out
            rw [if_neg hcm, List.append_nil] at hN
            have HN := Lib.hid hN
            clear hcm hN HNx HCm
            refine wp_region_kept (by kernel_rfl) (by kernel_rfl) ?_
            repeat (go_big_quiet_step ((go_at_call 17; exact kept_call _ (HMy.out _ _ _ _ _ _ _ _ _))))
            refine wpQuiet_nil ?_
            rintro W ⟨wx, rfl⟩
            have HO2 := Lib.hid (own_later HO.out wx.below)
            have HL2 := Lib.hid (own_later HL.out wx.below)
            have HB2 := Lib.hid (HB.out.trans (wx.below.mono HB.out.size))
            clear e0 e1 e2 e3 e4 e5 hws hc1 hc2 hc3 HMy
            go_wp2_with fail
            go_roundw
            case rel => exact ⟨k + 1, HKn.out, by simp, by rw [HN.out]; exact HO2.out, HL2.out, HB2.out⟩
            case measure => simp [intOf]; have := HKn.out; omega
        · have hcm : ¬ cM fr tt m = true := by rw [HCm.out, decide_eq_true_eq]; exact fun h => hc2 h.2.1
          have hN := HNx.out
          rw [if_neg hcm, List.append_nil] at hN
          have HN := Lib.hid hN
          clear hcm hN HNx HCm
          refine wp_region_kept (by kernel_rfl) (by kernel_rfl) ?_
          repeat (go_big_quiet_step ((go_at_call 17; exact kept_call _ (HMy.out _ _ _ _ _ _ _ _ _))))
          refine wpQuiet_nil ?_
          rintro W ⟨wx, rfl⟩
          have HO2 := Lib.hid (own_later HO.out wx.below)
          have HL2 := Lib.hid (own_later HL.out wx.below)
          have HB2 := Lib.hid (HB.out.trans (wx.below.mono HB.out.size))
          clear e0 e1 e2 e3 e4 e5 hws hc1 hc2 HMy
          go_wp2_with fail
          go_roundw
          case rel => exact ⟨k + 1, HKn.out, by simp, by rw [HN.out]; exact HO2.out, HL2.out, HB2.out⟩
          case measure => simp [intOf]; have := HKn.out; omega
      · have hcm : ¬ cM fr tt m = true := by rw [HCm.out, decide_eq_true_eq]; exact fun h => hc1 h.1
        have hN := HNx.out
        rw [if_neg hcm, List.append_nil] at hN
        have HN := Lib.hid hN
        clear hcm hN HNx HCm
        refine wp_region_kept (by kernel_rfl) (by kernel_rfl) ?_
        repeat (go_big_quiet_step (fail))
        refine wpQuiet_nil ?_
        rintro W ⟨wx, rfl⟩
        have HO2 := Lib.hid (own_later HO.out wx.below)
        have HL2 := Lib.hid (own_later HL.out wx.below)
        have HB2 := Lib.hid (HB.out.trans (wx.below.mono HB.out.size))
        clear e0 e1 e2 e3 e4 e5 hws hc1 HMy
        go_wp2_with fail
        go_roundw
        case rel => exact ⟨k + 1, HKn.out, by simp, by rw [HN.out]; exact HO2.out, HL2.out, HB2.out⟩
        case measure => simp [intOf]; have := HKn.out; omega
    · have k1 : ¬ (k : Int) < 42 := by omega
      obtain rfl : k = 42 := by omega
      have HO := Lib.hid hO
      have HB := Lib.hid hB
      clear hO hL hB
      go_wp2
      rw [HTk.out] at HO
      exact HOut.out _ _ HO.out HB.out
end Go.Proofs.Ytcekejaefbdhfaa
