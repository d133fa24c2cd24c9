/-
  A block found in the document's list.
-/
import Derived.Test.YtkdjfhbdcfjnnaaSwFnAll
import Derived.Deep.CutBlock
import Derived.Deep.DeepCutAuto
namespace Go.Proofs.Ytkdjfhbdcfjnnaa
open Go.RowKit

abbrev zm8 : Array Value := #[.int .i64 0, .int .i64 0, .int .i64 0, .int .i64 0, .slice none 0 0, .slice none 0 0]
/-- What Find answers. -/
def FindO (w : World) (o : Option Mt) (e : Ending) (w' : World) : Prop :=
  match o with
  | none => e = .returned (.tuple #[.agg zm8, .bool false]) ∧ Below w.heap.size w w'
  | some m => ∃ am cm as_ cs_, e = .returned (.tuple #[.agg #[.int .i64 m.n, .int .i64 m.lv, .int .i64 m.f, .int .i64 m.r, .slice am m.ms.length cm, .slice as_ m.ss.length cs_], .bool true]) ∧ Ints w' am m.ms ∧ Ints w' as_ m.ss ∧ (am = none → m.ms.length = 0 ∧ cm = 0) ∧ (as_ = none → m.ss.length = 0 ∧ cs_ = 0) ∧ Below w.heap.size w w'
/-- What stands in Find's loop. -/
structure FnS (w : World) (g c4 : Nat) (W : World) : Prop where
  o : ∃ cs, W.ownsRow w.heap.size MET 6 (.slice (some ⟨g, 0, none⟩) 42 c4) 42 cs ∧ MtsC W allM cs
  z : Blo W w.heap.size MET zm8
  b : Below w.heap.size w W
theorem FnS.later {w W W' : World} {g c4 : Nat} (h : FnS w g c4 W) (hb : Below W.heap.size W W') : FnS w g c4 W' := by
  obtain ⟨cs, h1, h2⟩ := h.o
  exact ⟨⟨cs, own_later h1 hb, h2.later hb⟩, h.z.later hb, h.b.trans (hb.mono h.b.size)⟩
def FnR (w : World) (n : Int) (fm : Option Mt) (g c4 : Nat) (t : Value) (W : World) : Prop := ∃ k : Nat, k ≤ 42 ∧ t = .int .i64 k ∧ findL n (allM.drop k) = fm ∧ FnS w g c4 W
theorem findL_at (n : Int) (k : Nat) (hk : k < allM.length) : findL n (allM.drop k) = if allM[k].n = n then some allM[k] else if allM[k].lv = 1 ∧ allM[k].f ≤ n ∧ n < allM[k].f + 16 ∧ n < 600 then some ⟨n, 0, n, allM[k].r, allM[k].ms ++ [allM[k].n], allM[k].ss ++ [n - allM[k].f]⟩ else findL n (allM.drop (k + 1)) := by
  rw [List.drop_eq_getElem_cons hk, findL]
theorem own_base {W : World} {b b' : Nat} {e : TypeId} {size n : Nat} {v : Value} {xs : List Value} (h : W.ownsRow b' e size v n xs) (hb : b ≤ b') : W.ownsRow b e size v n xs :=
  ⟨h.1, h.2.imp id (fun ⟨g, cap, cur, h1, h2, h3⟩ => ⟨g, cap, cur, h1, Nat.le_trans hb h2, h3⟩)⟩
theorem below_6 {B : Nat} {w0 W : World} {g : Nat} {a b c d e f : Value} (h : Below B w0 W) (hg : B ≤ g) : Below B w0 ((((((W.setCell ⟨g, 0, none⟩ a).setCell ⟨g, 1, none⟩ b).setCell ⟨g, 2, none⟩ c).setCell ⟨g, 3, none⟩ d).setCell ⟨g, 4, none⟩ e).setCell ⟨g, 5, none⟩ f) :=
  (((((h.setCell (p := ⟨g, 0, none⟩) hg a).setCell (p := ⟨g, 1, none⟩) hg b).setCell (p := ⟨g, 2, none⟩) hg c).setCell (p := ⟨g, 3, none⟩) hg d).setCell (p := ⟨g, 4, none⟩) hg e).setCell (p := ⟨g, 5, none⟩) hg f
theorem intb_six {W : World} {g : Nat} {cs : Array Value} {a : Option Addr} {l : List Int} {v0 v1 v2 v3 v4 v5 : Value} (hz : Blo W g MET cs) (hi : IntB W a l) : Ints ((((((W.setCell ⟨g, 0, none⟩ v0).setCell ⟨g, 1, none⟩ v1).setCell ⟨g, 2, none⟩ v2).setCell ⟨g, 3, none⟩ v3).setCell ⟨g, 4, none⟩ v4).setCell ⟨g, 5, none⟩ v5) a l := by
  refine IntB.ints (fun hl => ?_)
  obtain ⟨g', cs', ha, hb, hc⟩ := hi hl
  have hne : g' ≠ g := hb.apart hz (by decide)
  exact ⟨g', cs', ha, (((((hb.far (p := ⟨g, 0, none⟩) hne v0).far (p := ⟨g, 1, none⟩) hne v1).far (p := ⟨g, 2, none⟩) hne v2).far (p := ⟨g, 3, none⟩) hne v3).far (p := ⟨g, 4, none⟩) hne v4).far (p := ⟨g, 5, none⟩) hne v5, hc⟩
set_option maxHeartbeats 2000000 in
theorem find_small (n : Int) (w : World) (h0 : 0 ≤ n) (h6 : n < 6) : Calls Try.prog 26 #[.int .i64 n] w (FindO w (some ⟨n, 0, n, n, [], []⟩)) := by
  have hz := Lib.hid (blo_laid w MET zm8)
  have hb := Lib.hid (sup_below w (.cells zm8 MET))
  go_enter Try.func26, Try.ntmps26
  go_upto_region 2 with fail
  generalize (w.alloc (.cells zm8 MET)) = w0 at *
  have z0 := hz.out.cell 0
  have z1 := hz.out.cell 1
  have z2 := hz.out.cell 2
  have z3 := hz.out.cell 3
  have z4 := hz.out.cell 4
  have z5 := hz.out.cell 5
  have f0 := hz.out.frozen 0
  have f1 := hz.out.frozen 1
  have f2 := hz.out.frozen 2
  have f3 := hz.out.frozen 3
  have f4 := hz.out.frozen 4
  have f5 := hz.out.frozen 5
  simp [zm8] at z0 z1 z2 z3 z4 z5
  go_wp2
  refine bodyPost_ret (v := .tuple #[.agg #[.int .i64 n, .int .i64 0, .int .i64 n, .int .i64 n, .slice none 0 0, .slice none 0 0], .bool true]) ?_ rfl ⟨none, 0, none, 0, rfl, fun h => absurd rfl h, fun h => absurd rfl h, fun _ => ⟨rfl, rfl⟩, fun _ => ⟨rfl, rfl⟩, below_6 hb.out (Nat.le_refl _)⟩
  simp [results, Try.results26, go_sem, z0, z1, z2, z3, z4, z5]
set_option maxRecDepth 100000 in
set_option maxHeartbeats 4000000 in
theorem find_neg (n : Int) (w : World) (hc : n < 0) (hn1 : -9223372036854775808 ≤ n) (hn2 : n ≤ 9223372036854775807) (fm : Option Mt) (hfm : findL n allM = fm) : Calls Try.prog 26 #[.int .i64 n] w (FindO w fm) := by
  have HAll := Lib.hid all_any
  have HZ0 := Lib.hid (blo_laid w MET zm8)
  have HB0 := Lib.hid (sup_below w (.cells zm8 MET))
  have HFm := Lib.hid hfm
  obtain ⟨PO, hPO⟩ : ∃ PO, PO = FindO w fm := ⟨_, rfl⟩
  rw [← hPO]
  have HPO := Lib.hid hPO
  clear hfm hPO
  have hc1 : (decide (0 ≤ n) && decide (n < 6)) = false := by simp; omega
  go_enter Try.func26, Try.ntmps26
  go_wp2_with fail
  refine (HAll.out _).mono ?_
  rintro e w1 ⟨v4, cs4, rfl, ho4, hm4, hb4⟩
  rw [allM_len] at ho4
  obtain ⟨g, c4, rfl, hg4, _⟩ := ho4.form (by decide)
  have HS1 : Hid (FnS w g c4 w1) := ⟨⟨cs4, own_base ho4 HB0.out.size, hm4⟩, HZ0.out.later hb4, HB0.out.trans (hb4.mono HB0.out.size)⟩
  clear ho4 hm4 hb4 HAll HZ0 HB0 hg4
  go_wp2_with fail
  go_loopw [21] (fun t wr => FnR w n fm g c4 t wr) (fun t _ => 42 - (intOf t).toNat)
  case atStart => exact ⟨0, by decide, rfl, HFm.out, HS1.out⟩
  case round =>
    clear HS1
    obtain ⟨k, hk, rfl, hF, hS⟩ := hrel
    have HF := Lib.hid hF
    have HS := Lib.hid hS
    clear hF hS
    have k0 : (0 : Int) ≤ (k : Int) := by omega
    by_cases hlt : k < 42
    · have k1 : (k : Int) < 42 := by omega
      have HKn : Hid (k < 42) := hlt
      have hkl : k < allM.length := by rw [allM_len]; exact hlt
      obtain ⟨cs, hrow, hmt⟩ := HS.out.o
      obtain ⟨c, ⟨am, cm, as_, cs_, rfl, him, his, hmn, hsn⟩, hc⟩ := hmt.at_ k hkl
      have hbd := List.all_eq_true.1 allM_bd allM[k] (List.getElem_mem hkl)
      simp only [decide_eq_true_eq] at hbd
      have hF := HF.out
      rw [findL_at n k hkl] at hF
      have cell : ∀ j u, cs[k * 6 + j]? = some u → wr.cell? ⟨g, k * 6 + j, none⟩ = some u := fun j u hj => by
        have hjl := (List.getElem?_eq_some_iff.1 hj).1
        have := hrow.cellAt (k * 6 + j) (by have := hrow.1; omega)
        rw [this]; exact hj
      generalize allM[k] = m at *
      have e0 : wr.cell? ⟨g, k * 6, none⟩ = some (.int .i64 m.n) := cell 0 _ (hc 0 _ rfl)
      have e1 : wr.cell? ⟨g, k * 6 + 1, none⟩ = some (.int .i64 m.lv) := cell 1 _ (hc 1 _ rfl)
      have e2 : wr.cell? ⟨g, k * 6 + 2, none⟩ = some (.int .i64 m.f) := cell 2 _ (hc 2 _ rfl)
      have e3 : wr.cell? ⟨g, k * 6 + 3, none⟩ = some (.int .i64 m.r) := cell 3 _ (hc 3 _ rfl)
      have e4 : wr.cell? ⟨g, k * 6 + 4, none⟩ = some (.slice am m.ms.length cm) := cell 4 _ (hc 4 _ rfl)
      have e5 : wr.cell? ⟨g, k * 6 + 5, none⟩ = some (.slice as_ m.ss.length cs_) := cell 5 _ (hc 5 _ rfl)
      have HIm := Lib.hid him
      have HIs := Lib.hid his
      have HMn := Lib.hid hmn
      have HSn := Lib.hid hsn
      have HFx := Lib.hid hF
      obtain ⟨m1, m2, m3, m4, m5, m6, m7, m8, m9, m10⟩ := hbd
      have HSl := Lib.hid m10
      have hal := sup_below wr (.cells #[.int .i64 m.n, .int .i64 m.lv, .int .i64 m.f, .int .i64 m.r, .slice am m.ms.length cm, .slice as_ m.ss.length cs_] MET)
      have HS5 := Lib.hid (HS.out.later hal)
      have HM5 := Lib.hid (blo_laid wr MET #[.int .i64 m.n, .int .i64 m.lv, .int .i64 m.f, .int .i64 m.r, .slice am m.ms.length cm, .slice as_ m.ss.length cs_])
      have HIm5 := Lib.hid (HIm.out.later hal)
      have HIs5 := Lib.hid (HIs.out.later hal)
      clear cell hc hmt hrow him his hmn hsn hF hlt hkl HF HIm HIs m10
      by_cases hnn : m.n = n
      · have hF := HFx.out
        rw [if_pos hnn] at hF
        subst hF
        have HNn := Lib.hid hnn
        have hbn : (m.n == n) = true := by simpa using hnn
        clear HFx hnn
        go_upto_region 9 with fail
        clear e0 e1 e2 e3 e4 e5 HS
        generalize (wr.alloc (.cells #[.int .i64 m.n, .int .i64 m.lv, .int .i64 m.f, .int .i64 m.r, .slice am m.ms.length cm, .slice as_ m.ss.length cs_] MET)) = w5 at *
        generalize wr.heap.size = gm at *
        have z0 := HS5.out.z.cell 0
        have z1 := HS5.out.z.cell 1
        have z2 := HS5.out.z.cell 2
        have z3 := HS5.out.z.cell 3
        have z4 := HS5.out.z.cell 4
        have z5 := HS5.out.z.cell 5
        have f0 := HS5.out.z.frozen 0
        have f1 := HS5.out.z.frozen 1
        have f2 := HS5.out.z.frozen 2
        have f3 := HS5.out.z.frozen 3
        have f4 := HS5.out.z.frozen 4
        have f5 := HS5.out.z.frozen 5
        simp [zm8] at z0 z1 z2 z3 z4 z5
        have x0 := HM5.out.cell 0
        have x1 := HM5.out.cell 1
        have x2 := HM5.out.cell 2
        have x3 := HM5.out.cell 3
        have x4 := HM5.out.cell 4
        have x5 := HM5.out.cell 5
        simp at x0 x1 x2 x3 x4 x5
        go_wp2
        refine bodyPost_ret (v := .tuple #[.agg #[.int .i64 m.n, .int .i64 m.lv, .int .i64 m.f, .int .i64 m.r, .slice am m.ms.length cm, .slice as_ m.ss.length cs_], .bool true]) ?_ rfl ?_
        · simp [results, Try.results26, go_sem, z0, z1, z2, z3, z4, z5]
        · rw [HPO.out]
          exact ⟨am, cm, as_, cs_, rfl, intb_six HS5.out.z HIm5.out, intb_six HS5.out.z HIs5.out, HMn.out, HSn.out, below_6 HS5.out.b (Nat.le_refl _)⟩
      · have hF := HFx.out
        rw [if_neg hnn] at hF
        have hbn : (m.n == n) = false := by simpa using hnn
        clear HFx hnn
        by_cases hd : m.lv = 1 ∧ m.f ≤ n ∧ n < m.f + 16 ∧ n < 600
        · rw [if_pos hd] at hF
          subst hF
          obtain ⟨d1, d2, d3, d4⟩ := hd
          exfalso; omega
        · rw [if_neg hd] at hF
          have HF := Lib.hid hF
          clear hF HS HM5
          by_cases d1 : m.lv = 1
          · have b1 : (m.lv == 1) = true := by simpa using d1
            by_cases d2 : m.f ≤ n
            · exfalso; omega
            · clear d1 hd
              go_wp2_with fail
              go_roundw
              case rel => exact ⟨k + 1, HKn.out, by simp, HF.out, HS5.out⟩
              case measure => simp [intOf]; have := HKn.out; omega
          · have b1 : (m.lv == 1) = false := by simpa using d1
            clear d1 hd
            go_wp2_with fail
            go_roundw
            case rel => exact ⟨k + 1, HKn.out, by simp, HF.out, HS5.out⟩
            case measure => simp [intOf]; have := HKn.out; omega
    · have k1 : ¬ (k : Int) < 42 := by omega
      obtain rfl : k = 42 := by omega
      have hF := HF.out
      rw [show allM.drop 42 = [] from List.drop_eq_nil_of_le (by rw [allM_len]; decide)] at hF
      have hF2 : fm = none := hF.symm
      subst hF2
      have z0 := HS.out.z.cell 0
      have z1 := HS.out.z.cell 1
      have z2 := HS.out.z.cell 2
      have z3 := HS.out.z.cell 3
      have z4 := HS.out.z.cell 4
      have z5 := HS.out.z.cell 5
      have f0 := HS.out.z.frozen 0
      have f1 := HS.out.z.frozen 1
      have f2 := HS.out.z.frozen 2
      have f3 := HS.out.z.frozen 3
      have f4 := HS.out.z.frozen 4
      have f5 := HS.out.z.frozen 5
      simp [zm8] at z0 z1 z2 z3 z4 z5
      have HB := Lib.hid HS.out.b
      clear HS HF hF
      go_wp2
      refine bodyPost_ret (v := .tuple #[.agg zm8, .bool false]) ?_ rfl ?_
      · simp [results, Try.results26, go_sem, z0, z1, z2, z3, z4, z5, zm8]
      · rw [HPO.out]
        exact ⟨rfl, below_6 HB.out (Nat.le_refl _)⟩
set_option maxRecDepth 100000 in
set_option maxHeartbeats 4000000 in
theorem find_pos (n : Int) (w : World) (hc : 6 ≤ n) (hn1 : -9223372036854775808 ≤ n) (hn2 : n ≤ 9223372036854775807) (fm : Option Mt) (hfm : findL n allM = fm) : Calls Try.prog 26 #[.int .i64 n] w (FindO w fm) := by
  have HAll := Lib.hid all_any
  have HZ0 := Lib.hid (blo_laid w MET zm8)
  have HB0 := Lib.hid (sup_below w (.cells zm8 MET))
  have HFm := Lib.hid hfm
  obtain ⟨PO, hPO⟩ : ∃ PO, PO = FindO w fm := ⟨_, rfl⟩
  rw [← hPO]
  have HPO := Lib.hid hPO
  clear hfm hPO
  have hc1 : (decide (0 ≤ n) && decide (n < 6)) = false := by simp; omega
  go_enter Try.func26, Try.ntmps26
  go_wp2_with fail
  refine (HAll.out _).mono ?_
  rintro e w1 ⟨v4, cs4, rfl, ho4, hm4, hb4⟩
  rw [allM_len] at ho4
  obtain ⟨g, c4, rfl, hg4, _⟩ := ho4.form (by decide)
  have HS1 : Hid (FnS w g c4 w1) := ⟨⟨cs4, own_base ho4 HB0.out.size, hm4⟩, HZ0.out.later hb4, HB0.out.trans (hb4.mono HB0.out.size)⟩
  clear ho4 hm4 hb4 HAll HZ0 HB0 hg4
  go_wp2_with fail
  go_loopw [21] (fun t wr => FnR w n fm g c4 t wr) (fun t _ => 42 - (intOf t).toNat)
  case atStart => exact ⟨0, by decide, rfl, HFm.out, HS1.out⟩
  case round =>
    clear HS1
    obtain ⟨k, hk, rfl, hF, hS⟩ := hrel
    have HF := Lib.hid hF
    have HS := Lib.hid hS
    clear hF hS
    have k0 : (0 : Int) ≤ (k : Int) := by omega
    by_cases hlt : k < 42
    · have k1 : (k : Int) < 42 := by omega
      have HKn : Hid (k < 42) := hlt
      have hkl : k < allM.length := by rw [allM_len]; exact hlt
      obtain ⟨cs, hrow, hmt⟩ := HS.out.o
      obtain ⟨c, ⟨am, cm, as_, cs_, rfl, him, his, hmn, hsn⟩, hc⟩ := hmt.at_ k hkl
      have hbd := List.all_eq_true.1 allM_bd allM[k] (List.getElem_mem hkl)
      simp only [decide_eq_true_eq] at hbd
      have hF := HF.out
      rw [findL_at n k hkl] at hF
      have cell : ∀ j u, cs[k * 6 + j]? = some u → wr.cell? ⟨g, k * 6 + j, none⟩ = some u := fun j u hj => by
        have hjl := (List.getElem?_eq_some_iff.1 hj).1
        have := hrow.cellAt (k * 6 + j) (by have := hrow.1; omega)
        rw [this]; exact hj
      generalize allM[k] = m at *
      have e0 : wr.cell? ⟨g, k * 6, none⟩ = some (.int .i64 m.n) := cell 0 _ (hc 0 _ rfl)
      have e1 : wr.cell? ⟨g, k * 6 + 1, none⟩ = some (.int .i64 m.lv) := cell 1 _ (hc 1 _ rfl)
      have e2 : wr.cell? ⟨g, k * 6 + 2, none⟩ = some (.int .i64 m.f) := cell 2 _ (hc 2 _ rfl)
      have e3 : wr.cell? ⟨g, k * 6 + 3, none⟩ = some (.int .i64 m.r) := cell 3 _ (hc 3 _ rfl)
      have e4 : wr.cell? ⟨g, k * 6 + 4, none⟩ = some (.slice am m.ms.length cm) := cell 4 _ (hc 4 _ rfl)
      have e5 : wr.cell? ⟨g, k * 6 + 5, none⟩ = some (.slice as_ m.ss.length cs_) := cell 5 _ (hc 5 _ rfl)
      have HIm := Lib.hid him
      have HIs := Lib.hid his
      have HMn := Lib.hid hmn
      have HSn := Lib.hid hsn
      have HFx := Lib.hid hF
      obtain ⟨m1, m2, m3, m4, m5, m6, m7, m8, m9, m10⟩ := hbd
      have HSl := Lib.hid m10
      have hal := sup_below wr (.cells #[.int .i64 m.n, .int .i64 m.lv, .int .i64 m.f, .int .i64 m.r, .slice am m.ms.length cm, .slice as_ m.ss.length cs_] MET)
      have HS5 := Lib.hid (HS.out.later hal)
      have HM5 := Lib.hid (blo_laid wr MET #[.int .i64 m.n, .int .i64 m.lv, .int .i64 m.f, .int .i64 m.r, .slice am m.ms.length cm, .slice as_ m.ss.length cs_])
      have HIm5 := Lib.hid (HIm.out.later hal)
      have HIs5 := Lib.hid (HIs.out.later hal)
      clear cell hc hmt hrow him his hmn hsn hF hlt hkl HF HIm HIs m10
      by_cases hnn : m.n = n
      · have hF := HFx.out
        rw [if_pos hnn] at hF
        subst hF
        have HNn := Lib.hid hnn
        have hbn : (m.n == n) = true := by simpa using hnn
        clear HFx hnn
        go_upto_region 9 with fail
        clear e0 e1 e2 e3 e4 e5 HS
        generalize (wr.alloc (.cells #[.int .i64 m.n, .int .i64 m.lv, .int .i64 m.f, .int .i64 m.r, .slice am m.ms.length cm, .slice as_ m.ss.length cs_] MET)) = w5 at *
        generalize wr.heap.size = gm at *
        have z0 := HS5.out.z.cell 0
        have z1 := HS5.out.z.cell 1
        have z2 := HS5.out.z.cell 2
        have z3 := HS5.out.z.cell 3
        have z4 := HS5.out.z.cell 4
        have z5 := HS5.out.z.cell 5
        have f0 := HS5.out.z.frozen 0
        have f1 := HS5.out.z.frozen 1
        have f2 := HS5.out.z.frozen 2
        have f3 := HS5.out.z.frozen 3
        have f4 := HS5.out.z.frozen 4
        have f5 := HS5.out.z.frozen 5
        simp [zm8] at z0 z1 z2 z3 z4 z5
        have x0 := HM5.out.cell 0
        have x1 := HM5.out.cell 1
        have x2 := HM5.out.cell 2
        have x3 := HM5.out.cell 3
        have x4 := HM5.out.cell 4
        have x5 := HM5.out.cell 5
        simp at x0 x1 x2 x3 x4 x5
        go_wp2
        refine bodyPost_ret (v := .tuple #[.agg #[.int .i64 m.n, .int .i64 m.lv, .int .i64 m.f, .int .i64 m.r, .slice am m.ms.length cm, .slice as_ m.ss.length cs_], .bool true]) ?_ rfl ?_
        · simp [results, Try.results26, go_sem, z0, z1, z2, z3, z4, z5]
        · rw [HPO.out]
          exact ⟨am, cm, as_, cs_, rfl, intb_six HS5.out.z HIm5.out, intb_six HS5.out.z HIs5.out, HMn.out, HSn.out, below_6 HS5.out.b (Nat.le_refl _)⟩
      · have hF := HFx.out
        rw [if_neg hnn] at hF
        have hbn : (m.n == n) = false := by simpa using hnn
        clear HFx hnn
        by_cases hd : m.lv = 1 ∧ m.f ≤ n ∧ n < m.f + 16 ∧ n < 600
        · rw [if_pos hd] at hF
          subst hF
          obtain ⟨d1, d2, d3, d4⟩ := hd
          have b1 : (m.lv == 1) = true := by simpa using d1
          clear d1
          have hws : IntKind.i64.wrap (n - m.f) = n - m.f := IntWalk.i64_in _ (by omega)
          go_upto_region 11 with fail
          have hsl := HSl.out
          clear e0 e1 e2 e3 e4 e5 HS
          generalize (wr.alloc (.cells #[.int .i64 m.n, .int .i64 m.lv, .int .i64 m.f, .int .i64 m.r, .slice am m.ms.length cm, .slice as_ m.ss.length cs_] MET)) = w5 at *
          generalize wr.heap.size = gm at *
          have z0 := HS5.out.z.cell 0
          have z1 := HS5.out.z.cell 1
          have z2 := HS5.out.z.cell 2
          have z3 := HS5.out.z.cell 3
          have z4 := HS5.out.z.cell 4
          have z5 := HS5.out.z.cell 5
          have f0 := HS5.out.z.frozen 0
          have f1 := HS5.out.z.frozen 1
          have f2 := HS5.out.z.frozen 2
          have f3 := HS5.out.z.frozen 3
          have f4 := HS5.out.z.frozen 4
          have f5 := HS5.out.z.frozen 5
          simp [zm8] at z0 z1 z2 z3 z4 z5
          have x0 := HM5.out.cell 0
          have x1 := HM5.out.cell 1
          have x2 := HM5.out.cell 2
          have x3 := HM5.out.cell 3
          have x4 := HM5.out.cell 4
          have x5 := HM5.out.cell 5
          simp at x0 x1 x2 x3 x4 x5
          obtain ⟨RL, hRL⟩ : ∃ RL : List (Nat × RowT), RL = [(5, ⟨[], 0, 0⟩), (9, ⟨m.ms, 0, 1⟩), (12, ⟨[m.n], 2, 0⟩), (13, ⟨m.ms ++ [m.n], 0, 2⟩), (14, ⟨[], 1, 0⟩), (18, ⟨m.ss, 1, 1⟩), (23, ⟨[n - m.f], 3, 0⟩), (24, ⟨m.ss ++ [n - m.f], 1, 2⟩)] := ⟨_, rfl⟩
          obtain ⟨TL, hTL⟩ : ∃ TL : List (Nat × Value), TL = [(0, .int .i64 n), (1, .int .i64 n), (2, .pointer (some ⟨gm, 3, none⟩)), (3, .pointer (some ⟨gm, 3, none⟩)), (4, .int .i64 m.r), (6, .pointer (some ⟨gm, 3, none⟩)), (7, .pointer (some ⟨gm, 4, none⟩)), (8, .slice am m.ms.length cm), (10, .pointer (some ⟨gm, 0, none⟩)), (11, .int .i64 m.n), (15, .pointer (some ⟨gm, 3, none⟩)), (16, .pointer (some ⟨gm, 5, none⟩)), (17, .slice as_ m.ss.length cs_), (19, .int .i64 n), (20, .pointer (some ⟨gm, 2, none⟩)), (21, .int .i64 m.f), (22, .int .i64 (n - m.f))] := ⟨_, rfl⟩
          obtain ⟨UL, hUL⟩ : ∃ UL : List UseT, UL = [⟨25, fun X => .agg #[.int .i64 m.r, X 13, X 24], [13, 24]⟩, ⟨26, fun X => .agg #[.int .i64 n, .int .i64 0, .int .i64 n, .int .i64 m.r, X 13, X 24], [25, 13, 24]⟩] := ⟨_, rfl⟩
          obtain ⟨CL, hCL⟩ : ∃ CL : List (Nat × Nat), CL = [(13, 9), (24, 18)] := ⟨_, rfl⟩
          have hKB : keysB RL := by intro x hx y hy e; simp [hRL] at hx hy; rcases hx with rfl | rfl | rfl | rfl | rfl | rfl | rfl | rfl <;> rcases hy with rfl | rfl | rfl | rfl | rfl | rfl | rfl | rfl <;> first | rfl | (exfalso; simp at e; done) | fail
          have hUB : usesB UL := by
            intro x hx X Y h
            simp [hUL] at hx
            rcases hx with rfl | rfl
            · simp [h 13 (by simp), h 24 (by simp)]
            · simp [h 25 (by simp), h 13 (by simp), h 24 (by simp)]
          refine wp_region_inv (n := 27) [(0, 53), (1, 54), (2, 55), (3, 56), (4, 57), (5, 58), (6, 59), (7, 60), (8, 61), (9, 62), (10, 63), (11, 64), (12, 65), (13, 66), (14, 67), (15, 68), (16, 69), (17, 70), (18, 71), (19, 72), (20, 73), (21, 74), (22, 75), (23, 76), (24, 77), (25, 78), (26, 79)] (BG RL TL UL CL w5 INT) (by kernel_rfl) (by kernel_rfl) (by kernel_rfl) (fun X => by simp only [putL, Act.put, List.setIfInBounds_toArray, List.set_cons_zero, List.set_cons_succ]; rfl) (fun X => BG.start) ?_ ?_
          · show StepsI _ _ _ _ _ 0 [_, _, _, _, _, _, _, _, _, _, _, _, _, _, _, _, _, _, _, _, _, _, _, _, _, _, _]
            refine ⟨fun D X W hD hd hI K hK => ?_, ?_⟩
            · exact step_of_run rfl (v := .int .i64 n) (w' := W) (by simp [go_sem, execOp]) (hK _ _ (hI.tell hUB 0 _ hD (by simp [hRL]) (by simp [hTL]) (by intro x hx e; simp [hUL] at hx; exfalso; rcases hx with rfl | rfl <;> simp at e) (by simp [hCL])))
            refine ⟨fun D X W hD hd hI K hK => ?_, ?_⟩
            · exact step_of_run rfl (v := .int .i64 n) (w' := W) (by simp [go_sem, execOp]) (hK _ _ (hI.tell hUB 1 _ hD (by simp [hRL]) (by simp [hTL]) (by intro x hx e; simp [hUL] at hx; exfalso; rcases hx with rfl | rfl <;> simp at e) (by simp [hCL])))
            refine ⟨fun D X W hD hd hI K hK => ?_, ?_⟩
            · exact step_of_run rfl (v := .pointer (some ⟨gm, 3, none⟩)) (w' := W) (by simp [go_sem, execOp]) (hK _ _ (hI.tell hUB 2 _ hD (by simp [hRL]) (by simp [hTL]) (by intro x hx e; simp [hUL] at hx; exfalso; rcases hx with rfl | rfl <;> simp at e) (by simp [hCL])))
            refine ⟨fun D X W hD hd hI K hK => ?_, ?_⟩
            · have a2 := hI.dt (2, _) (by simp [hTL]; rfl) (hd ⟨2, .data⟩ (by simp) rfl)
              exact step_of_run rfl (v := .pointer (some ⟨gm, 3, none⟩)) (w' := W) (by simp [go_sem, execOp, a2]) (hK _ _ (hI.tell hUB 3 _ hD (by simp [hRL]) (by simp [hTL]) (by intro x hx e; simp [hUL] at hx; exfalso; rcases hx with rfl | rfl <;> simp at e) (by simp [hCL])))
            refine ⟨fun D X W hD hd hI K hK => ?_, ?_⟩
            · have a3 := hI.dt (3, _) (by simp [hTL]; rfl) (hd ⟨3, .data⟩ (by simp) rfl)
              have x3W := cell_later hI.ri.b x3
              exact step_of_run rfl (v := .int .i64 m.r) (w' := W) (by simp [go_sem, execOp, a3, x3W]) (hK _ _ (hI.tell hUB 4 _ hD (by simp [hRL]) (by simp [hTL]) (by intro x hx e; simp [hUL] at hx; exfalso; rcases hx with rfl | rfl <;> simp at e) (by simp [hCL])))
            refine ⟨fun D X W hD hd hI K hK => ?_, ?_⟩
            · refine step_of_run rfl (v := .slice (some ⟨W.heap.size, 0, none⟩) 0 0) (w' := W.alloc (.cells #[] INT)) (by simp [go_sem, execOp]) (hK _ _ ?_)
              exact hI.set hUB 5 _ hD (hI.ri.fresh hKB 5 _ ⟨[], 0, 0⟩ (by simp [hRL]) (sup_below W _) rfl (by simp) ⟨rfl, .inr ⟨W.heap.size, 0, #[], rfl, hI.ri.b.size, heap_alloc_new W _, Nat.le_refl _, by decide, rfl, rfl⟩⟩) (by simp [hTL]) (by intro x hx e; simp [hUL] at hx; exfalso; rcases hx with rfl | rfl <;> simp at e) (by intro x hx e; simp [hCL] at hx; first | (exfalso; simp [hx] at e; done) | (rcases hx with rfl | rfl <;> first | (exfalso; simp at e; done) | (first | exact dp | exact dq) | fail) | (subst hx; first | exact dp | exact dq) | fail)
            refine ⟨fun D X W hD hd hI K hK => ?_, ?_⟩
            · exact step_of_run rfl (v := .pointer (some ⟨gm, 3, none⟩)) (w' := W) (by simp [go_sem, execOp]) (hK _ _ (hI.tell hUB 6 _ hD (by simp [hRL]) (by simp [hTL]) (by intro x hx e; simp [hUL] at hx; exfalso; rcases hx with rfl | rfl <;> simp at e) (by simp [hCL])))
            refine ⟨fun D X W hD hd hI K hK => ?_, ?_⟩
            · have a6 := hI.dt (6, _) (by simp [hTL]; rfl) (hd ⟨6, .data⟩ (by simp) rfl)
              exact step_of_run rfl (v := .pointer (some ⟨gm, 4, none⟩)) (w' := W) (by simp [go_sem, execOp, a6]) (hK _ _ (hI.tell hUB 7 _ hD (by simp [hRL]) (by simp [hTL]) (by intro x hx e; simp [hUL] at hx; exfalso; rcases hx with rfl | rfl <;> simp at e) (by simp [hCL])))
            refine ⟨fun D X W hD hd hI K hK => ?_, ?_⟩
            · have a7 := hI.dt (7, _) (by simp [hTL]; rfl) (hd ⟨7, .data⟩ (by simp) rfl)
              have x4W := cell_later hI.ri.b x4
              exact step_of_run rfl (v := .slice am m.ms.length cm) (w' := W) (by simp [go_sem, execOp, a7, x4W]) (hK _ _ (hI.tell hUB 8 _ hD (by simp [hRL]) (by simp [hTL]) (by intro x hx e; simp [hUL] at hx; exfalso; rcases hx with rfl | rfl <;> simp at e) (by simp [hCL])))
            refine ⟨fun D X W hD hd hI K hK => ?_, ?_⟩
            · have dp : D 5 = true := hd ⟨5, .data⟩ (by simp) rfl
              have hL13 : D 13 = false := by cases hh : D 13 with
                | false => rfl
                | true => have := hI.cl (13, 9) (by simp [hCL]) hh; rw [hD] at this; cases this
              have r5 := hI.ri.rows (5, ⟨[], 0, 0⟩) (by simp [hRL]) (dp) (by intro y hy e1 e2; simp [hRL] at hy; rcases hy with rfl | rfl | rfl | rfl | rfl | rfl | rfl | rfl <;> first | exact hD | exact hL13 | (exfalso; simp at e1; done) | (exfalso; simp at e2; done) | fail)
              have a8 := hI.dt (8, _) (by simp [hTL]; rfl) (hd ⟨8, .data⟩ (by simp) rfl)
              obtain ⟨xa, xn, xc, hxe, hxl, hxi, hxn⟩ : ∃ xa xn xc, X 8 = .slice xa xn xc ∧ xn = (m.ms).length ∧ Ints W xa (m.ms) ∧ (xa = none → xn = 0 ∧ xc = 0) := ⟨_, _, _, a8, rfl, HIm5.out.ints.below hI.ri.b, HMn.out⟩
              refine step_append_ints rfl (.tmp 58) (.tmp 61) 23 rfl w5.heap.size INT Try.underlying23 info_int (X 5) [] rfl r5 xa xn xc (m.ms) hxl hxe hxi hxn (by rw [hxl]; simp only [List.length_cons, List.length_nil, List.length_append]; omega) hI.ri.b.size (fun v' W' ho hg hat => hK _ _ ?_)
              exact hI.set hUB 9 v' hD (hI.ri.append hKB 9 5 v' ⟨m.ms, 0, 1⟩ ⟨[], 0, 0⟩ (by simp [hRL]) (by simp [hRL]) rfl dp (by intro y hy e1 e2; simp [hRL] at hy; rcases hy with rfl | rfl | rfl | rfl | rfl | rfl | rfl | rfl <;> first | (exfalso; simp at e2; done) | (refine .inl ?_; simp; done) | exact .inr hL13 | (exfalso; simp at e1; done) | fail) hg hat (by simpa using ho)) (by simp [hTL]) (by intro x hx e; simp [hUL] at hx; exfalso; rcases hx with rfl | rfl <;> simp at e) (by intro x hx e; simp [hCL] at hx; first | (exfalso; simp [hx] at e; done) | (rcases hx with rfl | rfl <;> first | (exfalso; simp at e; done) | (first | exact dp | exact dq) | fail) | (subst hx; first | exact dp | exact dq) | fail)
            refine ⟨fun D X W hD hd hI K hK => ?_, ?_⟩
            · exact step_of_run rfl (v := .pointer (some ⟨gm, 0, none⟩)) (w' := W) (by simp [go_sem, execOp]) (hK _ _ (hI.tell hUB 10 _ hD (by simp [hRL]) (by simp [hTL]) (by intro x hx e; simp [hUL] at hx; exfalso; rcases hx with rfl | rfl <;> simp at e) (by simp [hCL])))
            refine ⟨fun D X W hD hd hI K hK => ?_, ?_⟩
            · have a10 := hI.dt (10, _) (by simp [hTL]; rfl) (hd ⟨10, .data⟩ (by simp) rfl)
              have x0W := cell_later hI.ri.b x0
              exact step_of_run rfl (v := .int .i64 m.n) (w' := W) (by simp [go_sem, execOp, a10, x0W]) (hK _ _ (hI.tell hUB 11 _ hD (by simp [hRL]) (by simp [hTL]) (by intro x hx e; simp [hUL] at hx; exfalso; rcases hx with rfl | rfl <;> simp at e) (by simp [hCL])))
            refine ⟨fun D X W hD hd hI K hK => ?_, ?_⟩
            · have a11 := hI.dt (11, _) (by simp [hTL]; rfl) (hd ⟨11, .data⟩ (by simp) rfl)
              refine step_of_run rfl (v := .slice (some ⟨W.heap.size, 0, none⟩) 1 1) (w' := W.alloc (.cells #[.int .i64 (m.n)] INT)) (by simp [go_sem, execOp, a11]) (hK _ _ ?_)
              exact hI.set hUB 12 _ hD (hI.ri.fresh hKB 12 _ ⟨[m.n], 2, 0⟩ (by simp [hRL]) (sup_below W _) rfl (by simp) ⟨rfl, .inr ⟨W.heap.size, 1, #[.int .i64 (m.n)], rfl, hI.ri.b.size, heap_alloc_new W _, Nat.le_refl _, by decide, rfl, rfl⟩⟩) (by simp [hTL]) (by intro x hx e; simp [hUL] at hx; exfalso; rcases hx with rfl | rfl <;> simp at e) (by intro x hx e; simp [hCL] at hx; first | (exfalso; simp [hx] at e; done) | (rcases hx with rfl | rfl <;> first | (exfalso; simp at e; done) | (first | exact dp | exact dq) | fail) | (subst hx; first | exact dp | exact dq) | fail)
            refine ⟨fun D X W hD hd hI K hK => ?_, ?_⟩
            · have dp : D 9 = true := hd ⟨9, .data⟩ (by simp) rfl
              have r9 := hI.ri.rows (9, ⟨m.ms, 0, 1⟩) (by simp [hRL]) (dp) (by intro y hy e1 e2; simp [hRL] at hy; rcases hy with rfl | rfl | rfl | rfl | rfl | rfl | rfl | rfl <;> first | exact hD | (exfalso; simp at e1; done) | (exfalso; simp at e2; done) | fail)
              have rq := hI.ri.rows (12, ⟨[m.n], 2, 0⟩) (by simp [hRL]) (hd ⟨12, .data⟩ (by simp) rfl) (by intro y hy e1 e2; simp [hRL] at hy; rcases hy with rfl | rfl | rfl | rfl | rfl | rfl | rfl | rfl <;> first | (exfalso; simp at e1; done) | (exfalso; simp at e2; done) | fail)
              obtain ⟨xg, xc, hxe, _, _⟩ := rq.form (by simp)
              obtain ⟨xa, xn, hxe, hxl, hxi, hxn⟩ : ∃ xa xn, X 12 = .slice xa xn xc ∧ xn = ([m.n]).length ∧ Ints W xa ([m.n]) ∧ (xa = none → xn = 0 ∧ xc = 0) := ⟨_, _, hxe, rfl, Ints.own (by rw [hxe] at rq; exact rq), fun e => by cases e⟩
              refine step_append_ints rfl (.tmp 62) (.tmp 65) 23 rfl w5.heap.size INT Try.underlying23 info_int (X 9) m.ms rfl r9 xa xn xc ([m.n]) hxl hxe hxi hxn (by rw [hxl]; simp only [List.length_cons, List.length_nil, List.length_append]; omega) hI.ri.b.size (fun v' W' ho hg hat => hK _ _ ?_)
              exact hI.set hUB 13 v' hD (hI.ri.append hKB 13 9 v' ⟨m.ms ++ [m.n], 0, 2⟩ ⟨m.ms, 0, 1⟩ (by simp [hRL]) (by simp [hRL]) rfl dp (by intro y hy e1 e2; simp [hRL] at hy; rcases hy with rfl | rfl | rfl | rfl | rfl | rfl | rfl | rfl <;> first | (exfalso; simp at e2; done) | (refine .inl ?_; simp; done)  | (exfalso; simp at e1; done) | fail) hg hat (by simpa using ho)) (by simp [hTL]) (by intro x hx e; simp [hUL] at hx; exfalso; rcases hx with rfl | rfl <;> simp at e) (by intro x hx e; simp [hCL] at hx; first | (exfalso; simp [hx] at e; done) | (rcases hx with rfl | rfl <;> first | (exfalso; simp at e; done) | (first | exact dp | exact dq) | fail) | (subst hx; first | exact dp | exact dq) | fail)
            refine ⟨fun D X W hD hd hI K hK => ?_, ?_⟩
            · refine step_of_run rfl (v := .slice (some ⟨W.heap.size, 0, none⟩) 0 0) (w' := W.alloc (.cells #[] INT)) (by simp [go_sem, execOp]) (hK _ _ ?_)
              exact hI.set hUB 14 _ hD (hI.ri.fresh hKB 14 _ ⟨[], 1, 0⟩ (by simp [hRL]) (sup_below W _) rfl (by simp) ⟨rfl, .inr ⟨W.heap.size, 0, #[], rfl, hI.ri.b.size, heap_alloc_new W _, Nat.le_refl _, by decide, rfl, rfl⟩⟩) (by simp [hTL]) (by intro x hx e; simp [hUL] at hx; exfalso; rcases hx with rfl | rfl <;> simp at e) (by intro x hx e; simp [hCL] at hx; first | (exfalso; simp [hx] at e; done) | (rcases hx with rfl | rfl <;> first | (exfalso; simp at e; done) | (first | exact dp | exact dq) | fail) | (subst hx; first | exact dp | exact dq) | fail)
            refine ⟨fun D X W hD hd hI K hK => ?_, ?_⟩
            · exact step_of_run rfl (v := .pointer (some ⟨gm, 3, none⟩)) (w' := W) (by simp [go_sem, execOp]) (hK _ _ (hI.tell hUB 15 _ hD (by simp [hRL]) (by simp [hTL]) (by intro x hx e; simp [hUL] at hx; exfalso; rcases hx with rfl | rfl <;> simp at e) (by simp [hCL])))
            refine ⟨fun D X W hD hd hI K hK => ?_, ?_⟩
            · have a15 := hI.dt (15, _) (by simp [hTL]; rfl) (hd ⟨15, .data⟩ (by simp) rfl)
              exact step_of_run rfl (v := .pointer (some ⟨gm, 5, none⟩)) (w' := W) (by simp [go_sem, execOp, a15]) (hK _ _ (hI.tell hUB 16 _ hD (by simp [hRL]) (by simp [hTL]) (by intro x hx e; simp [hUL] at hx; exfalso; rcases hx with rfl | rfl <;> simp at e) (by simp [hCL])))
            refine ⟨fun D X W hD hd hI K hK => ?_, ?_⟩
            · have a16 := hI.dt (16, _) (by simp [hTL]; rfl) (hd ⟨16, .data⟩ (by simp) rfl)
              have x5W := cell_later hI.ri.b x5
              exact step_of_run rfl (v := .slice as_ m.ss.length cs_) (w' := W) (by simp [go_sem, execOp, a16, x5W]) (hK _ _ (hI.tell hUB 17 _ hD (by simp [hRL]) (by simp [hTL]) (by intro x hx e; simp [hUL] at hx; exfalso; rcases hx with rfl | rfl <;> simp at e) (by simp [hCL])))
            refine ⟨fun D X W hD hd hI K hK => ?_, ?_⟩
            · have dp : D 14 = true := hd ⟨14, .data⟩ (by simp) rfl
              have hL24 : D 24 = false := by cases hh : D 24 with
                | false => rfl
                | true => have := hI.cl (24, 18) (by simp [hCL]) hh; rw [hD] at this; cases this
              have r14 := hI.ri.rows (14, ⟨[], 1, 0⟩) (by simp [hRL]) (dp) (by intro y hy e1 e2; simp [hRL] at hy; rcases hy with rfl | rfl | rfl | rfl | rfl | rfl | rfl | rfl <;> first | exact hD | exact hL24 | (exfalso; simp at e1; done) | (exfalso; simp at e2; done) | fail)
              have a17 := hI.dt (17, _) (by simp [hTL]; rfl) (hd ⟨17, .data⟩ (by simp) rfl)
              obtain ⟨xa, xn, xc, hxe, hxl, hxi, hxn⟩ : ∃ xa xn xc, X 17 = .slice xa xn xc ∧ xn = (m.ss).length ∧ Ints W xa (m.ss) ∧ (xa = none → xn = 0 ∧ xc = 0) := ⟨_, _, _, a17, rfl, HIs5.out.ints.below hI.ri.b, HSn.out⟩
              refine step_append_ints rfl (.tmp 67) (.tmp 70) 23 rfl w5.heap.size INT Try.underlying23 info_int (X 14) [] rfl r14 xa xn xc (m.ss) hxl hxe hxi hxn (by rw [hxl]; simp only [List.length_cons, List.length_nil, List.length_append]; omega) hI.ri.b.size (fun v' W' ho hg hat => hK _ _ ?_)
              exact hI.set hUB 18 v' hD (hI.ri.append hKB 18 14 v' ⟨m.ss, 1, 1⟩ ⟨[], 1, 0⟩ (by simp [hRL]) (by simp [hRL]) rfl dp (by intro y hy e1 e2; simp [hRL] at hy; rcases hy with rfl | rfl | rfl | rfl | rfl | rfl | rfl | rfl <;> first | (exfalso; simp at e2; done) | (refine .inl ?_; simp; done) | exact .inr hL24 | (exfalso; simp at e1; done) | fail) hg hat (by simpa using ho)) (by simp [hTL]) (by intro x hx e; simp [hUL] at hx; exfalso; rcases hx with rfl | rfl <;> simp at e) (by intro x hx e; simp [hCL] at hx; first | (exfalso; simp [hx] at e; done) | (rcases hx with rfl | rfl <;> first | (exfalso; simp at e; done) | (first | exact dp | exact dq) | fail) | (subst hx; first | exact dp | exact dq) | fail)
            refine ⟨fun D X W hD hd hI K hK => ?_, ?_⟩
            · exact step_of_run rfl (v := .int .i64 n) (w' := W) (by simp [go_sem, execOp]) (hK _ _ (hI.tell hUB 19 _ hD (by simp [hRL]) (by simp [hTL]) (by intro x hx e; simp [hUL] at hx; exfalso; rcases hx with rfl | rfl <;> simp at e) (by simp [hCL])))
            refine ⟨fun D X W hD hd hI K hK => ?_, ?_⟩
            · exact step_of_run rfl (v := .pointer (some ⟨gm, 2, none⟩)) (w' := W) (by simp [go_sem, execOp]) (hK _ _ (hI.tell hUB 20 _ hD (by simp [hRL]) (by simp [hTL]) (by intro x hx e; simp [hUL] at hx; exfalso; rcases hx with rfl | rfl <;> simp at e) (by simp [hCL])))
            refine ⟨fun D X W hD hd hI K hK => ?_, ?_⟩
            · have a20 := hI.dt (20, _) (by simp [hTL]; rfl) (hd ⟨20, .data⟩ (by simp) rfl)
              have x2W := cell_later hI.ri.b x2
              exact step_of_run rfl (v := .int .i64 m.f) (w' := W) (by simp [go_sem, execOp, a20, x2W]) (hK _ _ (hI.tell hUB 21 _ hD (by simp [hRL]) (by simp [hTL]) (by intro x hx e; simp [hUL] at hx; exfalso; rcases hx with rfl | rfl <;> simp at e) (by simp [hCL])))
            refine ⟨fun D X W hD hd hI K hK => ?_, ?_⟩
            · have a19 := hI.dt (19, _) (by simp [hTL]; rfl) (hd ⟨19, .data⟩ (by simp) rfl)
              have a21 := hI.dt (21, _) (by simp [hTL]; rfl) (hd ⟨21, .data⟩ (by simp) rfl)
              exact step_of_run rfl (v := .int .i64 (n - m.f)) (w' := W) (by simp [go_sem, execOp, a19, a21, hws]) (hK _ _ (hI.tell hUB 22 _ hD (by simp [hRL]) (by simp [hTL]) (by intro x hx e; simp [hUL] at hx; exfalso; rcases hx with rfl | rfl <;> simp at e) (by simp [hCL])))
            refine ⟨fun D X W hD hd hI K hK => ?_, ?_⟩
            · have a22 := hI.dt (22, _) (by simp [hTL]; rfl) (hd ⟨22, .data⟩ (by simp) rfl)
              refine step_of_run rfl (v := .slice (some ⟨W.heap.size, 0, none⟩) 1 1) (w' := W.alloc (.cells #[.int .i64 (n - m.f)] INT)) (by simp [go_sem, execOp, a22]) (hK _ _ ?_)
              exact hI.set hUB 23 _ hD (hI.ri.fresh hKB 23 _ ⟨[n - m.f], 3, 0⟩ (by simp [hRL]) (sup_below W _) rfl (by simp) ⟨rfl, .inr ⟨W.heap.size, 1, #[.int .i64 (n - m.f)], rfl, hI.ri.b.size, heap_alloc_new W _, Nat.le_refl _, by decide, rfl, rfl⟩⟩) (by simp [hTL]) (by intro x hx e; simp [hUL] at hx; exfalso; rcases hx with rfl | rfl <;> simp at e) (by intro x hx e; simp [hCL] at hx; first | (exfalso; simp [hx] at e; done) | (rcases hx with rfl | rfl <;> first | (exfalso; simp at e; done) | (first | exact dp | exact dq) | fail) | (subst hx; first | exact dp | exact dq) | fail)
            refine ⟨fun D X W hD hd hI K hK => ?_, ?_⟩
            · have dp : D 18 = true := hd ⟨18, .data⟩ (by simp) rfl
              have r18 := hI.ri.rows (18, ⟨m.ss, 1, 1⟩) (by simp [hRL]) (dp) (by intro y hy e1 e2; simp [hRL] at hy; rcases hy with rfl | rfl | rfl | rfl | rfl | rfl | rfl | rfl <;> first | exact hD | (exfalso; simp at e1; done) | (exfalso; simp at e2; done) | fail)
              have rq := hI.ri.rows (23, ⟨[n - m.f], 3, 0⟩) (by simp [hRL]) (hd ⟨23, .data⟩ (by simp) rfl) (by intro y hy e1 e2; simp [hRL] at hy; rcases hy with rfl | rfl | rfl | rfl | rfl | rfl | rfl | rfl <;> first | (exfalso; simp at e1; done) | (exfalso; simp at e2; done) | fail)
              obtain ⟨xg, xc, hxe, _, _⟩ := rq.form (by simp)
              obtain ⟨xa, xn, hxe, hxl, hxi, hxn⟩ : ∃ xa xn, X 23 = .slice xa xn xc ∧ xn = ([n - m.f]).length ∧ Ints W xa ([n - m.f]) ∧ (xa = none → xn = 0 ∧ xc = 0) := ⟨_, _, hxe, rfl, Ints.own (by rw [hxe] at rq; exact rq), fun e => by cases e⟩
              refine step_append_ints rfl (.tmp 71) (.tmp 76) 23 rfl w5.heap.size INT Try.underlying23 info_int (X 18) m.ss rfl r18 xa xn xc ([n - m.f]) hxl hxe hxi hxn (by rw [hxl]; simp only [List.length_cons, List.length_nil, List.length_append]; omega) hI.ri.b.size (fun v' W' ho hg hat => hK _ _ ?_)
              exact hI.set hUB 24 v' hD (hI.ri.append hKB 24 18 v' ⟨m.ss ++ [n - m.f], 1, 2⟩ ⟨m.ss, 1, 1⟩ (by simp [hRL]) (by simp [hRL]) rfl dp (by intro y hy e1 e2; simp [hRL] at hy; rcases hy with rfl | rfl | rfl | rfl | rfl | rfl | rfl | rfl <;> first | (exfalso; simp at e2; done) | (refine .inl ?_; simp; done)  | (exfalso; simp at e1; done) | fail) hg hat (by simpa using ho)) (by simp [hTL]) (by intro x hx e; simp [hUL] at hx; exfalso; rcases hx with rfl | rfl <;> simp at e) (by intro x hx e; simp [hCL] at hx; first | (exfalso; simp [hx] at e; done) | (rcases hx with rfl | rfl <;> first | (exfalso; simp at e; done) | (first | exact dp | exact dq) | fail) | (subst hx; first | exact dp | exact dq) | fail)
            refine ⟨fun D X W hD hd hI K hK => ?_, ?_⟩
            · have a4 := hI.dt (4, _) (by simp [hTL]; rfl) (hd ⟨4, .data⟩ (by simp) rfl)
              have d13 : D 13 = true := hd ⟨13, .data⟩ (by simp) rfl
              have d24 : D 24 = true := hd ⟨24, .data⟩ (by simp) rfl
              have r13 := hI.ri.rows (13, ⟨m.ms ++ [m.n], 0, 2⟩) (by simp [hRL]) (d13) (by intro y hy e1 e2; simp [hRL] at hy; rcases hy with rfl | rfl | rfl | rfl | rfl | rfl | rfl | rfl <;> first | (exfalso; simp at e1; done) | (exfalso; simp at e2; done) | fail)
              obtain ⟨xa13, xc13, h13, _⟩ := own_slice r13
              have r24 := hI.ri.rows (24, ⟨m.ss ++ [n - m.f], 1, 2⟩) (by simp [hRL]) (d24) (by intro y hy e1 e2; simp [hRL] at hy; rcases hy with rfl | rfl | rfl | rfl | rfl | rfl | rfl | rfl <;> first | (exfalso; simp at e1; done) | (exfalso; simp at e2; done) | fail)
              obtain ⟨xa24, xc24, h24, _⟩ := own_slice r24
              exact step_of_run rfl (v := .agg #[.int .i64 m.r, X 13, X 24]) (w' := W) (by simp [go_sem, execOp, a4, h13, h24]) (hK _ _ (hI.tell hUB 25 _ hD (by simp [hRL]) (by simp [hTL]) (by intro x hx e; simp [hUL] at hx; rcases hx with rfl | rfl <;> first | (exfalso; simp at e; done) | exact ⟨rfl, by simp [d13, d24]⟩ | fail) (by simp [hCL])))
            refine ⟨fun D X W hD hd hI K hK => ?_, ?_⟩
            · have a0 := hI.dt (0, _) (by simp [hTL]; rfl) (hd ⟨0, .data⟩ (by simp) rfl)
              have a1 := hI.dt (1, _) (by simp [hTL]; rfl) (hd ⟨1, .data⟩ (by simp) rfl)
              have d25 : D 25 = true := hd ⟨25, .data⟩ (by simp) rfl
              have u25 := (hI.us _ (show (⟨25, fun X => .agg #[.int .i64 m.r, X 13, X 24], [13, 24]⟩ : UseT) ∈ UL by simp [hUL]) d25).1
              have d13 := (hI.us _ (show (⟨25, fun X => .agg #[.int .i64 m.r, X 13, X 24], [13, 24]⟩ : UseT) ∈ UL by simp [hUL]) d25).2 13 (by simp)
              have r13 := hI.ri.rows (13, ⟨m.ms ++ [m.n], 0, 2⟩) (by simp [hRL]) (d13) (by intro y hy e1 e2; simp [hRL] at hy; rcases hy with rfl | rfl | rfl | rfl | rfl | rfl | rfl | rfl <;> first | (exfalso; simp at e1; done) | (exfalso; simp at e2; done) | fail)
              obtain ⟨xa13, xc13, h13, _⟩ := own_slice r13
              have d24 := (hI.us _ (show (⟨25, fun X => .agg #[.int .i64 m.r, X 13, X 24], [13, 24]⟩ : UseT) ∈ UL by simp [hUL]) d25).2 24 (by simp)
              have r24 := hI.ri.rows (24, ⟨m.ss ++ [n - m.f], 1, 2⟩) (by simp [hRL]) (d24) (by intro y hy e1 e2; simp [hRL] at hy; rcases hy with rfl | rfl | rfl | rfl | rfl | rfl | rfl | rfl <;> first | (exfalso; simp at e1; done) | (exfalso; simp at e2; done) | fail)
              obtain ⟨xa24, xc24, h24, _⟩ := own_slice r24
              exact step_of_run rfl (v := .agg #[.int .i64 n, .int .i64 0, .int .i64 n, .int .i64 m.r, X 13, X 24]) (w' := W) (by simp [go_sem, execOp, a0, a1, u25, h13, h24]) (hK _ _ (hI.tell hUB 26 _ hD (by simp [hRL]) (by simp [hTL]) (by intro x hx e; simp [hUL] at hx; rcases hx with rfl | rfl <;> first | (exfalso; simp at e; done) | exact ⟨rfl, by simp [d25, d13, d24]⟩ | fail) (by simp [hCL])))
            exact True.intro
          · intro D X W hD hI
            have r13 := hI.ri.rows (13, ⟨m.ms ++ [m.n], 0, 2⟩) (by simp [hRL]) (hD 13 (by decide)) (by intro y hy e1 e2; simp [hRL] at hy; rcases hy with rfl | rfl | rfl | rfl | rfl | rfl | rfl | rfl <;> first | (exfalso; simp at e1; done) | (exfalso; simp at e2; done) | fail)
            have r24 := hI.ri.rows (24, ⟨m.ss ++ [n - m.f], 1, 2⟩) (by simp [hRL]) (hD 24 (by decide)) (by intro y hy e1 e2; simp [hRL] at hy; rcases hy with rfl | rfl | rfl | rfl | rfl | rfl | rfl | rfl <;> first | (exfalso; simp at e1; done) | (exfalso; simp at e2; done) | fail)
            obtain ⟨g9, c9, h9, _, _⟩ := r13.form (by simp)
            obtain ⟨g16, c16, h16, _, _⟩ := r24.form (by simp)
            have x26 := (hI.us _ (show (⟨26, fun X => .agg #[.int .i64 n, .int .i64 0, .int .i64 n, .int .i64 m.r, X 13, X 24], [25, 13, 24]⟩ : UseT) ∈ UL by simp [hUL]) (hD 26 (by decide))).1
            have h9b : X 13 = _ := h9
            have h16b : X 24 = _ := h16
            have x26b : X 26 = .agg #[.int .i64 n, .int .i64 0, .int .i64 n, .int .i64 m.r, X 13, X 24] := x26
            rw [h9b, h16b] at x26b
            have HSw := Lib.hid (HS5.out.later hI.ri.b)
            have HR9 := Lib.hid (IntB.own (by rw [← h9]; exact r13))
            have HR16 := Lib.hid (IntB.own (by rw [← h16]; exact r24))
            clear hI r13 r24 hD z0 z1 z2 z3 z4 z5 f0 f1 f2 f3 f4 f5 x0 x1 x2 x3 x4 x5
            simp only [List.drop_succ_cons, List.drop_zero]
            rw [x26b]
            have z0 := HSw.out.z.cell 0
            have z1 := HSw.out.z.cell 1
            have z2 := HSw.out.z.cell 2
            have z3 := HSw.out.z.cell 3
            have z4 := HSw.out.z.cell 4
            have z5 := HSw.out.z.cell 5
            have f0 := HSw.out.z.frozen 0
            have f1 := HSw.out.z.frozen 1
            have f2 := HSw.out.z.frozen 2
            have f3 := HSw.out.z.frozen 3
            have f4 := HSw.out.z.frozen 4
            have f5 := HSw.out.z.frozen 5
            simp [zm8] at z0 z1 z2 z3 z4 z5
            go_wp2_with fail
            refine bodyPost_ret (v := .tuple #[.agg #[.int .i64 n, .int .i64 0, .int .i64 n, .int .i64 m.r, .slice (some ⟨g9, 0, none⟩) (m.ms.length + 1) c9, .slice (some ⟨g16, 0, none⟩) (m.ms.length + 1) c16], .bool true]) ?_ rfl ?_
            · simp [results, Try.results26, go_sem, z0, z1, z2, z3, z4, z5]
            · rw [HPO.out]
              exact ⟨some ⟨g9, 0, none⟩, c9, some ⟨g16, 0, none⟩, c16, by simp [hsl], intb_six HSw.out.z HR9.out, intb_six HSw.out.z HR16.out, fun e => (by cases e), fun e => (by cases e), below_6 HSw.out.b (Nat.le_refl _)⟩
        · rw [if_neg hd] at hF
          have HF := Lib.hid hF
          clear hF HS HM5
          by_cases d1 : m.lv = 1
          · have b1 : (m.lv == 1) = true := by simpa using d1
            by_cases d2 : m.f ≤ n
            · by_cases d3 : n < m.f + 16
              · have d4 : ¬ n < 600 := fun h => hd ⟨d1, d2, d3, h⟩
                clear d1 hd
                go_wp2_with fail
                go_roundw
                case rel => exact ⟨k + 1, HKn.out, by simp, HF.out, HS5.out⟩
                case measure => simp [intOf]; have := HKn.out; omega
              · clear d1 hd
                go_wp2_with fail
                go_roundw
                case rel => exact ⟨k + 1, HKn.out, by simp, HF.out, HS5.out⟩
                case measure => simp [intOf]; have := HKn.out; omega
            · clear d1 hd
              go_wp2_with fail
              go_roundw
              case rel => exact ⟨k + 1, HKn.out, by simp, HF.out, HS5.out⟩
              case measure => simp [intOf]; have := HKn.out; omega
          · have b1 : (m.lv == 1) = false := by simpa using d1
            clear d1 hd
            go_wp2_with fail
            go_roundw
            case rel => exact ⟨k + 1, HKn.out, by simp, HF.out, HS5.out⟩
            case measure => simp [intOf]; have := HKn.out; omega
    · have k1 : ¬ (k : Int) < 42 := by omega
      obtain rfl : k = 42 := by omega
      have hF := HF.out
      rw [show allM.drop 42 = [] from List.drop_eq_nil_of_le (by rw [allM_len]; decide)] at hF
      have hF2 : fm = none := hF.symm
      subst hF2
      have z0 := HS.out.z.cell 0
      have z1 := HS.out.z.cell 1
      have z2 := HS.out.z.cell 2
      have z3 := HS.out.z.cell 3
      have z4 := HS.out.z.cell 4
      have z5 := HS.out.z.cell 5
      have f0 := HS.out.z.frozen 0
      have f1 := HS.out.z.frozen 1
      have f2 := HS.out.z.frozen 2
      have f3 := HS.out.z.frozen 3
      have f4 := HS.out.z.frozen 4
      have f5 := HS.out.z.frozen 5
      simp [zm8] at z0 z1 z2 z3 z4 z5
      have HB := Lib.hid HS.out.b
      clear HS HF hF
      go_wp2
      refine bodyPost_ret (v := .tuple #[.agg zm8, .bool false]) ?_ rfl ?_
      · simp [results, Try.results26, go_sem, z0, z1, z2, z3, z4, z5, zm8]
      · rw [HPO.out]
        exact ⟨rfl, below_6 HB.out (Nat.le_refl _)⟩
/-- Find, whatever the number. -/
theorem find_any (n : Int) (w : World) (hn1 : -9223372036854775808 ≤ n) (hn2 : n ≤ 9223372036854775807) : Calls Try.prog 26 #[.int .i64 n] w (FindO w (wantM n)) := by
  rw [← find_want, findM]
  by_cases h : 0 ≤ n ∧ n < 6
  · rw [if_pos h]; exact find_small n w h.1 h.2
  · rw [if_neg h]
    by_cases h0 : n < 0
    · exact find_neg n w h0 hn1 hn2 _ rfl
    · exact find_pos n w (by omega) hn1 hn2 _ rfl
end Go.Proofs.Ytkdjfhbdcfjnnaa
