/-
  The walk of IndexMetas.
-/
import Derived.Test.YtcekejaefbdhfaaIxMetM
namespace Go.Proofs.Ytcekejaefbdhfaa
open Go.RowKit

theorem ints_mism {l m : List Int} (h : l = m) {w : World} {a b : Option Addr} {n k c d : Nat} (hl : n = l.length) (hm : k = m.length) (hn : n < 1000000000) (ha : Ints w a l) (hb : Ints w b m) :
    Calls Try.prog 19 #[.slice a n c, .slice b k d] w fun e w' => e = .returned (.bool true) ∧ Below w.heap.size w w' :=
  (ints_any l m a b n k c d w hl hm hn ha hb).mono fun e w' ⟨h1, h2⟩ => ⟨by rw [h1]; simp [h], h2⟩
set_option maxRecDepth 100000 in
set_option maxHeartbeats 4000000 in
theorem lawMetas_bad (fr tt : Int) (w : World) (h : fr < 0 ∨ tt < fr ∨ 600 < tt) :
    Calls Try.prog 5 #[.int .i64 fr, .int .i64 tt] w fun e w' => e = .returned (.bool true) ∧ Below w.heap.size w w' := by
  have HAw := Lib.hid (awake_any w)
  have HM := Lib.hid (fun W => metas_bad fr tt W h)
  have HR := Lib.hid (fun W => rmetas_bad fr tt W h)
  have HI := Lib.hid (fun W => ints_mism (l := []) (m := []) rfl (w := W) (a := none) (b := none) (n := 0) (k := 0) (c := 0) (d := 0) rfl rfl (by decide) (Ints.nil _ _) (Ints.nil _ _))
  clear h
  go_enter Try.func5, Try.ntmps5
  go_wp2_with fail
  refine HAw.out.mono ?_
  rintro e w1 ⟨rfl, hb1⟩
  have HB1 := Lib.hid hb1
  clear hb1 HAw
  go_wp2_with fail
  refine (HM.out _).mono ?_
  rintro e w2 ⟨rfl, rfl⟩
  go_wp2_with fail
  refine (HR.out _).mono ?_
  rintro e w2 ⟨rfl, rfl⟩
  go_wp2_with fail
  refine (HI.out _).mono ?_
  rintro e w2 ⟨rfl, hb2⟩
  have HB2 := Lib.hid (HB1.out.trans (hb2.mono HB1.out.size))
  clear hb2 HB1
  go_wp2_with fail
  go_loopw [37] (fun t wr => t = .int .i64 0 ∧ Below w.heap.size w wr) (fun _ _ => 0)
  case atStart => exact ⟨rfl, HB2.out⟩
  case round =>
    obtain ⟨rfl, hB⟩ := hrel
    have HB := Lib.hid hB
    clear hB HB2
    go_wp2_with fail
    refine (HM.out _).mono ?_
    rintro e w3 ⟨rfl, rfl⟩
    go_wp2_with fail
    refine (HI.out _).mono ?_
    rintro e w4 ⟨rfl, hb4⟩
    have HB4 := Lib.hid (HB.out.trans (hb4.mono HB.out.size))
    clear hb4
    go_wp2
    go_ret
    exact ⟨rfl, HB4.out⟩
/-- What stands in the law's loop: the list that is written over, the document's. -/
def LmR (w : World) (a : Option Addr) (cl : Nat) (v2 : Value) (b2 : Nat) (L : List Int) (t : Value) (W : World) : Prop :=
  ∃ k : Nat, k ≤ L.length ∧ t = .int .i64 k ∧ (∃ pre : List Int, pre.length = k ∧ W.ownsRow w.heap.size INT 1 (.slice a L.length cl) L.length (cellsI (pre ++ L.drop k))) ∧ W.ownsRow b2 INT 1 v2 L.length (cellsI L) ∧ (v2.ownBlock = none ∨ v2.ownBlock ≠ (Value.slice a L.length cl).ownBlock) ∧ Below w.heap.size w W
theorem own_put {W : World} {base g n cap : Nat} {X : List Int} (h : W.ownsRow base INT 1 (.slice (some ⟨g, 0, none⟩) n cap) n (cellsI X)) (i : Nat) (y : Int) : (W.setCell ⟨g, i, none⟩ (.int .i64 y)).ownsRow base INT 1 (.slice (some ⟨g, 0, none⟩) n cap) n (cellsI (X.set i y)) := by
  have hs : cellsI (X.set i y) = (cellsI X).set i (.int .i64 y) := by simp [cellsI, List.map_set]
  rcases h.2 with ⟨h1, _⟩ | ⟨g', c, cur, h1, h2, h3, h4, h5, h6, h7⟩
  · cases h1
  · cases h1
    have hB : Blo W g INT cur := h3
    refine ⟨by rw [hs, List.length_set]; exact h.1, .inr ⟨g, cap, cur.setIfInBounds i (.int .i64 y), rfl, h2, hB.put i _, h4, h5, by rw [Array.size_setIfInBounds]; exact h6, ?_⟩⟩
    rw [Array.toList_setIfInBounds, List.take_set, h7, hs]
theorem mts_bd (fr tt : Int) : ∀ x ∈ refL fr tt allM, -700 ≤ x ∧ x ≤ 700 := fun x hx => by
  unfold refL at hx
  obtain ⟨m, hm, rfl⟩ := List.mem_map.1 hx
  have := List.all_eq_true.1 allM_bd m (List.mem_filter.1 hm).1
  simp only [decide_eq_true_eq] at this
  omega
set_option maxRecDepth 100000 in
set_option maxHeartbeats 4000000 in
theorem lawMetas_good (fr tt : Int) (w : World) (h0 : 0 ≤ fr) (h1 : fr ≤ tt) (h2 : tt ≤ 600) :
    Calls Try.prog 5 #[.int .i64 fr, .int .i64 tt] w fun e w' => e = .returned (.bool true) ∧ Below w.heap.size w w' := by
  have HAw := Lib.hid (awake_any w)
  have HM : Hid (∀ W, Calls Try.prog 20 #[.int .i64 fr, .int .i64 tt] W (MetasOut W (refL fr tt allM))) := fun W => by rw [← ref_eq fr tt h0 h1 h2]; exact metas_good fr tt W h0 h1 h2
  have HR := Lib.hid (fun W => rmetas_good fr tt W h0 h1 h2)
  have hl := refL_len fr tt allM
  rw [allM_len] at hl
  have HBd := Lib.hid (mts_bd fr tt)
  generalize refL fr tt allM = L at *
  have HLl : Hid (L.length ≤ 42) := hl
  clear h0 h1 h2
  go_enter Try.func5, Try.ntmps5
  go_wp2_with fail
  refine HAw.out.mono ?_
  rintro e w1 ⟨rfl, hb1⟩
  have HB1 := Lib.hid hb1
  clear hb1 HAw
  go_wp2_with fail
  refine (HM.out _).mono ?_
  rintro e w2 ⟨v, rfl, ho2, hb2⟩
  obtain ⟨a, cl, rfl, _⟩ := own_slice ho2
  have ho2' : w2.ownsRow w.heap.size INT 1 (.slice a L.length cl) L.length (cellsI L) :=
    ⟨ho2.1, ho2.2.imp id (fun ⟨g, cap, cur, h1, h2, h3⟩ => ⟨g, cap, cur, h1, Nat.le_trans HB1.out.size h2, h3⟩)⟩
  have HO2 := Lib.hid ho2'
  have HB2 := Lib.hid (HB1.out.trans (hb2.mono HB1.out.size))
  clear ho2 ho2' hb2 HB1
  go_wp2_with fail
  refine (HR.out _).mono ?_
  rintro e w3 ⟨v3, rfl, ho3, hb3⟩
  obtain ⟨a3, c3, rfl, _⟩ := own_slice ho3
  have HO3 := Lib.hid ho3
  have HO2' := Lib.hid (own_later HO2.out hb3)
  have HAp : Hid ((Value.slice a3 L.length c3).ownBlock = none ∨ (Value.slice a3 L.length c3).ownBlock ≠ (Value.slice a L.length cl).ownBlock) := by
    show _ ∨ _
    cases hq : (Value.slice a3 L.length c3).ownBlock with
    | none => exact .inl rfl
    | some q =>
      right
      intro e
      have h1 := (HO3.out.lt q hq).1
      have h2 := (HO2.out.lt q e.symm).2
      omega
  have HB3 := Lib.hid (HB2.out.trans (hb3.mono HB2.out.size))
  clear ho3 hb3 HB2 HO2
  generalize w2.heap.size = b2 at *
  go_wp2_with fail
  refine (ints_mism (l := L) (m := L) rfl rfl rfl (by omega) (Ints.own HO2'.out) (Ints.own HO3.out)).mono ?_
  rintro e w4 ⟨rfl, hb4⟩
  have HSt : Hid (LmR w a cl (.slice a3 L.length c3) b2 L (.int .i64 0) w4) := ⟨0, Nat.zero_le _, rfl, ⟨[], rfl, own_later HO2'.out hb4⟩, own_later HO3.out hb4, HAp.out, HB3.out.trans (hb4.mono HB3.out.size)⟩
  clear hb4 HO2' HO3 HAp HB3
  go_wp2_with fail
  go_loopw [37] (fun t wr => LmR w a cl (.slice a3 L.length c3) b2 L t wr) (fun t _ => L.length - (intOf t).toNat)
  case atStart => exact HSt.out
  case round =>
    clear HSt
    obtain ⟨k, hk, rfl, ⟨pre, hpre, hO⟩, hO3, hAp, hB⟩ := hrel
    have k0 : (0 : Int) ≤ (k : Int) := by omega
    by_cases hlt : k < L.length
    · have k1 : (k : Int) < (L.length : Int) := by omega
      obtain ⟨g, c9, hga, _, _⟩ := hO.form (by omega)
      cases hga
      have hx := HBd.out _ (List.getElem_mem hlt)
      have hget : (cellsI (pre ++ L.drop k))[k]? = some (.int .i64 L[k]) := by
        rw [cellsI, List.getElem?_map, List.getElem?_append_right (by omega), hpre, Nat.sub_self, List.getElem?_drop]
        simp [hlt]
      have hcell := hO.cellAt k (by omega)
      rw [hget] at hcell
      have hfr : wr.frozen? ⟨g, k, none⟩ = false := by
        rcases hO.2 with ⟨q1, _⟩ | ⟨g', c, cur, q1, _, q3, _⟩
        · cases q1
        · cases q1
          exact (show Blo wr g INT cur from q3).frozen k
      have hset : (pre ++ L.drop k).set k (L[k] + 1) = (pre ++ [L[k] + 1]) ++ L.drop (k + 1) := by
        rw [List.drop_eq_getElem_cons hlt, List.set_append_right _ _ (by omega), hpre, Nat.sub_self, List.set_cons_zero, List.append_assoc]; rfl
      have HPut := Lib.hid (own_put hO k (L[k] + 1))
      rw [hset] at HPut
      have HO3' := Lib.hid (own_far hO3 (p := ⟨g, k, none⟩) (by
        rcases hAp with e | e
        · rw [e]; simp
        · exact fun e2 => e e2.symm) (.int .i64 (L[k] + 1)))
      have hbs := hB.setCell (p := ⟨g, k, none⟩) (hO.lt g rfl).1 (.int .i64 (L[k] + 1))
      have HBs := Lib.hid hbs
      have HAp := Lib.hid hAp
      have HKn : Hid (k < L.length) := hlt
      have HPl : Hid ((pre ++ [L[k] + 1]).length = k + 1) := by show _ = _; simp [hpre]
      generalize pre ++ [L[k] + 1] = pre' at *
      generalize L[k] = y at *
      clear hO hO3 hB hAp hget hset hbs hlt hk hpre
      go_wp2_with fail
      go_roundw
      case rel => exact ⟨k + 1, HKn.out, by simp, ⟨pre', HPl.out, HPut.out⟩, HO3'.out, HAp.out, HBs.out⟩
      case measure => simp [intOf]; have := HKn.out; omega
    · have k1 : ¬ (k : Int) < (L.length : Int) := by omega
      have HO3 := Lib.hid hO3
      have HB := Lib.hid hB
      clear hO hO3 hAp hB hk
      go_wp2_with fail
      refine (HM.out _).mono ?_
      rintro e w5 ⟨v5, rfl, ho5, hb5⟩
      obtain ⟨a5, c5, rfl, _⟩ := own_slice ho5
      have HI5 := Lib.hid (Ints.own ho5)
      have HI3 := Lib.hid (Ints.own (own_later HO3.out hb5))
      have HB5 := Lib.hid (HB.out.trans (hb5.mono HB.out.size))
      clear ho5 hb5 HO3 HB
      go_wp2_with fail
      refine (ints_mism (l := L) (m := L) rfl rfl rfl (by omega) HI5.out HI3.out).mono ?_
      rintro e w6 ⟨rfl, hb6⟩
      have HB6 := Lib.hid (HB5.out.trans (hb6.mono HB5.out.size))
      clear hb6
      go_wp2
      go_ret
      exact ⟨rfl, HB6.out⟩
theorem indexMetas_walk (fr tt : Int) (w : World) (_ : (Lit.int .i64 fr).wf = true) (_ : (Lit.int .i64 tt).wf = true) :
    Calls Try.prog 5 #[.int .i64 fr, .int .i64 tt] w fun e w' => e = .returned (.bool true) ∧ Below w.heap.size w w' := by
  by_cases h : fr < 0 ∨ tt < fr ∨ 600 < tt
  · exact lawMetas_bad fr tt w h
  · exact lawMetas_good fr tt w (by omega) (by omega) (by omega)
end Go.Proofs.Ytcekejaefbdhfaa
