/-
  The walk of IndexEvery: of all data of a stretch the blocks of pointers on their ways are just the Metas.
-/
import Derived.Test.YtcekejaefbdhfaaIxEvMath
import Derived.Test.YtcekejaefbdhfaaIxAwake
import Derived.Test.YtcekejaefbdhfaaIxAll
import Derived.Test.YtcekejaefbdhfaaIxSame
import Derived.Maps.OwnSet
import Derived.OpenShut
namespace Go.Proofs.Ytcekejaefbdhfaa
open Go.RowKit Go.Maps

theorem mapLaw : Keyed Try.prog 3 := int_keyed Try.underlying3
theorem zeroI (w : World) : (zeroValue 3).run Try.prog w = .ok (.int .i64 0) w := by kernel_rfl
abbrev OwnM (w : World) (g n : Nat) (D : DataW Nat) : Prop := w.ownsMap Try.prog 3 (plainElem (H := Nat) Try.prog 3) g n D
/-- What the map of counts holds: these keys, each counted once at least. -/
structure Cnt (D : DataW Nat) (ks : List Int) (q : Nat) : Prop where
  tidy : Tidy D
  size : Maps.size D = ks.length
  nodup : ks.Nodup
  has : ∀ x : Int, Maps.has D (.int .i64 x) = decide (x ∈ ks)
  val : ∀ x ∈ ks, ∃ c : Int, D.atKey (.int .i64 x) (.lit (.int .i64 0)) = .lit (.int .i64 c) ∧ 1 ≤ c ∧ c ≤ q
theorem cnt_empty : Cnt (.map []) [] 0 := ⟨tidy_empty, rfl, List.nodup_nil, fun x => by simp [Maps.has], fun x h => by cases h⟩
theorem isKey (x : Int) : WideAt.IsKeyLit (.int .i64 x) := by first | trivial | exact ⟨⟩ | simp [WideAt.IsKeyLit]
theorem Cnt.put {D : DataW Nat} {ks : List Int} {q : Nat} (h : Cnt D ks q) (x c : Int) (hat : D.atKey (.int .i64 x) (.lit (.int .i64 0)) = .lit (.int .i64 c)) :
    0 ≤ c ∧ c ≤ q ∧ ∃ ks', Cnt (D.put (.int .i64 x) (.lit (.int .i64 (c + 1)))) ks' (q + 1) ∧ ∀ y, y ∈ ks' ↔ y ∈ ks ∨ y = x := by
  have hne : ∀ y : Int, y ≠ x → (Lit.int .i64 y) ≠ (Lit.int .i64 x) := fun y hy e => hy (by injection e)
  by_cases hx : x ∈ ks
  · obtain ⟨c', h1, h2, h3⟩ := h.val x hx
    have hc : c' = c := by
      have := h1.symm.trans hat
      injection this with this
      injection this
    subst hc
    refine ⟨by omega, by omega, ks, ⟨h.tidy.put (isKey x) _, ?_, h.nodup, fun y => ?_, fun y hy => ?_⟩, fun y => ⟨.inl, fun e => by rcases e with e | e; exact e; subst e; exact hx⟩⟩
    · rw [size_put h.tidy, h.has, if_pos (by simpa using hx), h.size]
    · by_cases hy : y = x
      · subst hy; rw [has_put_same h.tidy.isMap (isKey y)]; simp [hx]
      · rw [has_put_other (hne y hy)]; exact h.has y
    · by_cases hyx : y = x
      · subst hyx
        exact ⟨c' + 1, by rw [atKey_put_same h.tidy.isMap (isKey y)], by omega, by omega⟩
      · obtain ⟨c2, h4, h5, h6⟩ := h.val y hy
        exact ⟨c2, by rw [atKey_put_other (hne y hyx)]; exact h4, h5, by omega⟩
  · have hf : Maps.has D (.int .i64 x) = false := by rw [h.has]; simpa using hx
    have hc : c = 0 := by
      rw [atKey_of_not_has hf] at hat
      injection hat with this
      injection this with _ this
      exact this.symm
    subst hc
    refine ⟨by omega, by omega, ks ++ [x], ⟨h.tidy.put (isKey x) _, ?_, ?_, fun y => ?_, fun y hy => ?_⟩, fun y => by simp⟩
    · rw [size_put h.tidy, h.has, if_neg (by simpa using hx), h.size]; simp
    · rw [List.nodup_append]
      exact ⟨h.nodup, by simp, fun a ha b hb => by simp at hb; subst hb; intro e; subst e; exact hx ha⟩
    · by_cases hy : y = x
      · subst hy; rw [has_put_same h.tidy.isMap (isKey y)]; simp
      · rw [has_put_other (hne y hy), h.has]; simp [hy]
    · by_cases hyx : y = x
      · subst hyx
        exact ⟨0 + 1, by rw [atKey_put_same h.tidy.isMap (isKey y)], by omega, by omega⟩
      · have hyk : y ∈ ks := by
          rcases List.mem_append.1 hy with h' | h'
          · exact h'
          · simp at h'; exact absurd h' hyx
        obtain ⟨c2, h4, h5, h6⟩ := h.val y hyk
        exact ⟨c2, by rw [atKey_put_other (hne y hyx)]; exact h4, h5, by omega⟩
theorem map_far {w w' : World} {g n : Nat} {D : DataW Nat} (h : OwnM w g n D) (hg : w.grownBy w' (some g)) {p : Addr} {v : Value} (hc : w.cell? p = some v) : w'.cell? p = some v := by
  obtain ⟨es, clock, hb, _⟩ := h
  refine hg.cell hc ?_
  intro e
  injection e with e
  rw [← e] at hb
  simp [World.cell?, hb] at hc
theorem Ints.farM {w w' : World} {g n : Nat} {D : DataW Nat} {a : Option Addr} {l : List Int} (h : Ints w a l) (hm : OwnM w g n D) (hg : w.grownBy w' (some g)) : Ints w' a l := fun hl => by
  obtain ⟨b, o, ha, hc⟩ := h hl
  exact ⟨b, o, ha, fun i hi => map_far hm hg (hc i hi)⟩
theorem own_mapLater {w w' : World} {g n : Nat} {D : DataW Nat} (h : OwnM w g n D) (hb : Below w.heap.size w w') : OwnM w' g n D := World.ownsMap.kept (row := none) h (grown_of_below hb none) (by simp)
theorem wf_small (m : Int) (h1 : -1000000 ≤ m) (h2 : m ≤ 1000000) : (Lit.int .i64 m).wf = true := by
  simp [Lit.wf, IntKind.min, IntKind.max, IntKind.signed, IntKind.bits]; omega
def EvRel (w : World) (fr tt : Nat) (a : Option Addr) (L : List Int) (g : Nat) (t : Value) (wr : World) : Prop :=
  ∃ (n : Nat) (N : Nat) (D : DataW Nat) (ks : List Int), t = .int .i64 n ∧ fr ≤ n ∧ n ≤ tt ∧ OwnM wr g N D ∧ N ≤ 3 * (n - fr) ∧ Cnt D ks (3 * (n - fr)) ∧ (∀ x, x ∈ ks ↔ ∃ d : Nat, fr ≤ d ∧ d < n ∧ x ∈ metasM (d : Int) 0) ∧ Ints wr a L ∧ Below w.heap.size w wr ∧ w.heap.size ≤ g
def EvIn (w : World) (fr n : Nat) (a : Option Addr) (L : List Int) (g : Nat) (b : Option Addr) (ms : List Int) (t : Value) (wr : World) : Prop :=
  ∃ (i : Nat) (N : Nat) (D : DataW Nat) (ks : List Int), t = .int .i64 i ∧ i ≤ ms.length ∧ OwnM wr g N D ∧ N ≤ 3 * (n - fr) + i ∧ Cnt D ks (3 * (n - fr) + i) ∧ (∀ x, x ∈ ks ↔ (∃ d : Nat, fr ≤ d ∧ d < n ∧ x ∈ metasM (d : Int) 0) ∨ x ∈ ms.take i) ∧ Ints wr a L ∧ Ints wr b ms ∧ Below w.heap.size w wr
def EvOut (w : World) (a : Option Addr) (L : List Int) (g : Nat) (k : Nat) (t : Value) (wr : World) : Prop :=
  ∃ (i : Nat) (N : Nat) (D : DataW Nat) (ks : List Int) (q : Nat), t = .int .i64 i ∧ i ≤ k ∧ OwnM wr g N D ∧ Cnt D ks q ∧ (∀ x, x ∈ ks ↔ x ∈ L) ∧ ks.length = k ∧ Ints wr a L ∧ Below w.heap.size w wr
theorem cut600 (x : Int) : ∃ k : Nat, k ≤ 599 ∧ wrap64 ((IntKind.u64.wrap x).tmod 600) = (k : Int) := cut_n x 599 (by omega)
theorem cut40 (x : Int) : ∃ k : Nat, k ≤ 39 ∧ wrap64 ((IntKind.u64.wrap x).tmod 40) = (k : Int) := cut_n x 39 (by omega)
theorem data_isB (n : Nat) (h : n < 600) : isB (n : Int) = true ∧ fOf (n : Int) = n ∧ lvOf (n : Int) = 0 := by
  have : (0 : Int) ≤ (n : Int) := by omega
  refine ⟨?_, ?_, ?_⟩
  · unfold isB; rw [if_pos this]; simp; omega
  · unfold fOf; rw [if_pos this]
  · unfold lvOf; rw [if_pos this]
set_option maxRecDepth 100000 in
set_option maxHeartbeats 4000000 in
theorem indexEvery_walk (x y : Int) (w : World) (_ : (Lit.int .i64 x).wf = true) (_ : (Lit.int .i64 y).wf = true) :
    Calls Try.prog 9 #[.int .i64 x, .int .i64 y] w fun e w' => e = .returned (.bool true) ∧ Below w.heap.size w w' := by
  have HAw := Lib.hid awake_any
  obtain ⟨fr, hfr, eF⟩ := cut600 x
  obtain ⟨mn, hmn, eM⟩ := cut40 y
  obtain ⟨tt, htt⟩ : ∃ tt : Nat, tt = min (fr + mn) 600 := ⟨_, rfl⟩
  have ht1 : fr ≤ tt := by omega
  have ht2 : tt ≤ 600 := by omega
  have HM := Lib.hid (fun W => metas_good (fr : Int) (tt : Int) W (by omega) (by omega) (by omega))
  have hways := ways_metas fr tt ht1 ht2
  have hnod := mts_nodup (fr : Int) (tt : Int) tt ht2
  rw [Int.toNat_natCast] at HM
  have hlen := mtsM_len (fr : Int) (tt : Int) tt
  generalize mtsM (fr : Int) (tt : Int) tt = L at *
  have HW := Lib.hid hways
  have HNd := Lib.hid hnod
  obtain ⟨k, hk⟩ : ∃ k, k = L.length := ⟨_, rfl⟩
  have HN := Lib.hid hk
  rw [← hk] at hlen
  clear hways hnod hk
  have hmm := @run_makeMap Try.prog
  have hmin : (if 600 < ((fr : Int) + (mn : Int)) then (600 : Int) else ((fr : Int) + (mn : Int))) = (tt : Int) := by split <;> omega
  clear htt
  go_enter Try.func9, Try.ntmps9
  go_wp2_with fail
  refine (HAw.out _).mono ?_
  rintro e w1 ⟨rfl, hb1⟩
  have HB1 := Lib.hid hb1
  clear hb1 HAw
  go_wp2_with fail
  rw [eF]
  refine (HM.out _).mono ?_
  rintro e w2 ⟨v, rfl, hv, hb2⟩
  have HB2 := Lib.hid (HB1.out.trans (hb2.mono HB1.out.size))
  unfold OwnL at hv
  rw [← HN.out] at hv
  obtain ⟨a, cap, rfl, hcap⟩ := own_slice hv
  have I0 := Lib.hid ((Ints.own hv).below (sup_below w2 (.map #[] 0)))
  have M0 := Lib.hid (World.ownsMap_made (H := Nat) w2 Try.prog 3 (plainElem Try.prog 3))
  have HB3 := Lib.hid (HB2.out.alloc HB2.out.size (.map #[] 0))
  have hg := HB2.out.size
  clear hv hb2 HB1 HM eF eM hmin HB2
  go_wp2_with fail
  clear hmm
  generalize w2.heap.size = g at *
  generalize w2.alloc (.map #[] 0) = w3 at *
  go_loopw [9] (fun t wr => EvRel w fr tt a L g t wr) (fun t _ => tt - (intOf t).toNat)
  case atStart => exact ⟨fr, 0, _, [], rfl, Nat.le_refl _, ht1, M0.out, by omega, by rw [Nat.sub_self]; exact cnt_empty, fun x => ⟨(fun h => by cases h), fun ⟨d, h1, h2, _⟩ => by omega⟩, I0.out, HB3.out, hg⟩
  case round =>
    obtain ⟨n, N, D, ks, rfl, hn1, hn2, hmp, hN, hct, hks, hI, hBe, _⟩ := hrel
    have MP := Lib.hid hmp
    have CT := Lib.hid hct
    have KS := Lib.hid hks
    have I1 := Lib.hid hI
    have HB4 := Lib.hid hBe
    clear hmp hct hks hI hBe I0 M0 HB3
    by_cases hlt : n < tt
    · obtain ⟨d1, d2, d3⟩ := data_isB n (by omega)
      have ht := fun W => to_n (n : Int) W (by omega) d1 _ rfl
      rw [d2, d3] at ht
      have l1 := metas_len (n : Int) 0
      have hp3 := path_len (n : Int) 0
      have hr3 := rLev_bd (n : Int)
      have hl3 : (pathM (n : Int) 0).length ≤ 3 := by rw [hp3]; omega
      have HT := Lib.hid ht
      clear ht d1 d2 d3 hp3 hr3
      generalize (pathM (n : Int) 0).length = kp at *
      generalize hms : metasM (n : Int) 0 = ms at *
      have HMs := Lib.hid hms
      have HLm := Lib.hid l1
      clear hms l1
      obtain ⟨wo, rfl⟩ : ∃ wo : World, wo = wr := ⟨_, rfl⟩
      go_wp2_with fail
      refine (HT.out _).mono ?_
      rintro e w4 ⟨a1, c1, a2, c2, rfl, hi1, hi2, hc1, hc2, hb4⟩
      have J1 := Lib.hid (hi1.below (sup_below w4 (.cells #[.int .i64 (rPtr (n : Int)), .slice a1 kp c1, .slice a2 kp c2] 30)))
      have hx5 := hb4.alloc hb4.size (.cells #[.int .i64 (rPtr (n : Int)), .slice a1 kp c1, .slice a2 kp c2] 30)
      have MP2 := Lib.hid (own_mapLater MP.out hx5)
      have I2 := Lib.hid (I1.out.below hx5)
      have HB5 : Hid (Below w.heap.size w (w4.alloc (.cells #[.int .i64 (rPtr (n : Int)), .slice a1 kp c1, .slice a2 kp c2] 30))) := HB4.out.trans (hx5.mono HB4.out.size)
      clear hi1 hi2 hb4 hx5 HT MP I1 HB4
      go_wp2_with fail
      generalize w4.alloc (.cells #[.int .i64 (rPtr (n : Int)), .slice a1 kp c1, .slice a2 kp c2] 30) = w5 at *
      go_loopw [55] (fun t wr => EvIn w fr n a L g a1 ms t wr) (fun t _ => kp - (intOf t).toNat)
      case atStart => exact ⟨0, N, D, ks, rfl, by omega, MP2.out, by omega, CT.out, fun x => by rw [KS.out x]; simp, I2.out, J1.out, HB5.out⟩
      case round =>
        obtain ⟨i, N2, D2, ks2, rfl, hi, hmp, hN2, hct, hks, hI, hJ, hBe⟩ := hrel
        have MP3 := Lib.hid hmp
        have CT3 := Lib.hid hct
        have KS3 := Lib.hid hks
        have I3 := Lib.hid hI
        have J3 := Lib.hid hJ
        have HB6 := Lib.hid hBe
        clear hmp hct hks hI hJ hBe MP2 I2 J1 HB5 CT KS
        rw [HLm.out] at hi
        by_cases hil : i < kp
        · obtain ⟨bm, om, rfl, hx⟩ := J3.out (by intro e; have := HLm.out; rw [e] at this; simp at this; omega)
          have x1 := hx i (by have := HLm.out; omega)
          have htk : Hid (ms.take (i + 1) = ms.take i ++ [ms.getD i 0]) := by
            show _ = _
            rw [List.take_add_one, List.getD_eq_getElem?_getD, List.getElem?_eq_getElem (by have := HLm.out; omega)]; rfl
          have hmr : -700 ≤ ms.getD i 0 ∧ ms.getD i 0 < 600 := by
            obtain ⟨e1, e2, e3⟩ := data_isB n (by omega)
            have hwy := way (n : Int) e1 i (by rw [e2, e3, HMs.out, HLm.out]; exact hil) (ms.getD i 0) _ (by rw [e2, e3, HMs.out]) rfl
            exact isB_range _ hwy.1
          clear hx
          generalize ms.getD i 0 = m at *
          have hkey : keyOf Try.prog 3 (.int .i64 m) = some (.int .i64 m) := keyOf_int_mk Try.underlying3 (wf_small m (by omega) (by omega))
          have HK := Lib.hid hkey
          clear hkey
          go_wp2_with (first
            | (at_lookup; refine wpList_lookup_own_int _ rfl _ _ 50 rfl 3 3 .i64 mapLaw Try.underlying50 Try.underlying3 (zeroI _) g N2 D2 rfl MP3.out _ _ rfl HK.out ?_; intro c hat hwc; have hput := Lib.hid (CT3.out.put m c hat); have hc0 := hput.out.1; have hc1 := hput.out.2.1; clear hat hwc)
            | (at_mapUpdate; refine wpList_mapUpdate_own _ rfl _ _ _ 50 rfl 3 3 mapLaw Try.underlying50 _ g N2 D2 rfl MP3.out (by unfold maxLen; omega) _ _ _ rfl rfl HK.out _ [] (plainElem_int Try.underlying3 (wf_small (c + 1) (by omega) (by omega))) ?_; intro w6 hown1 hgrow1; have MP4 := Lib.hid hown1; have GR := Lib.hid hgrow1; clear hown1 hgrow1))
          obtain ⟨_, _, ks', hct', hmem⟩ := hput.out
          have CT4 := Lib.hid hct'
          have HMem := Lib.hid hmem
          clear hct' hmem x1 hput
          go_roundw
          case rel =>
            refine ⟨i + 1, N2 + 1, _, ks', by go_num, by rw [HLm.out]; omega, MP4.out, by omega, ?_, fun x => ?_, I3.out.farM MP3.out GR.out, J3.out.farM MP3.out GR.out, HB6.out.grown GR.out HB6.out.size (fun q hq => by cases hq; exact hg)⟩
            · have := CT4.out
              rw [show 3 * (n - fr) + i + 1 = 3 * (n - fr) + (i + 1) by omega] at this
              exact this
            · rw [HMem.out x, KS3.out x, htk.out]
              simp only [List.mem_append, List.mem_singleton]
              constructor
              · rintro ((h | h) | h)
                · exact .inl h
                · exact .inr (.inl h)
                · exact .inr (.inr h)
              · rintro (h | h | h)
                · exact .inl (.inl h)
                · exact .inl (.inr h)
                · exact .inr h
          case measure => simp [intOf] <;> omega
        · obtain rfl : i = kp := by omega
          go_wp2_with fail
          go_roundw
          case rel =>
            refine ⟨n + 1, N2, D2, ks2, by go_num, by omega, by omega, MP3.out, by omega, ?_, fun x => ?_, I3.out, HB6.out, hg⟩
            · have h := CT3.out
              exact ⟨h.tidy, h.size, h.nodup, h.has, fun x hx => by obtain ⟨c, h1, h2, h3⟩ := h.val x hx; exact ⟨c, h1, h2, by omega⟩⟩
            · rw [KS3.out x, List.take_of_length_le (by rw [HLm.out]; omega)]
              constructor
              · rintro (⟨d, h1, h2, h3⟩ | h)
                · exact ⟨d, h1, by omega, h3⟩
                · exact ⟨n, by omega, by omega, by rw [HMs.out]; exact h⟩
              · rintro ⟨d, h1, h2, h3⟩
                by_cases hd : d < n
                · exact .inl ⟨d, h1, hd, h3⟩
                · obtain rfl : d = n := by omega
                  exact .inr (by rw [← HMs.out]; exact h3)
          case measure => simp [intOf] <;> omega
    · obtain rfl : n = tt := by omega
      have hmem : ∀ x, x ∈ ks ↔ x ∈ L := fun x => by rw [KS.out x]; exact (HW.out x).symm
      have hlk : ks.length = k := by
        rw [HN.out]
        exact ((List.perm_ext_iff_of_nodup CT.out.nodup HNd.out).2 hmem).length_eq
      have HMem := Lib.hid hmem
      have HLk := Lib.hid hlk
      clear hmem hlk
      go_wp2_with fail
      go_loopw [66] (fun t wr => EvOut w a L g k t wr) (fun t _ => k - (intOf t).toNat)
      case atStart => exact ⟨0, N, D, ks, _, rfl, by omega, MP.out, CT.out, HMem.out, HLk.out, I1.out, HB4.out⟩
      case round =>
        obtain ⟨i, N2, D2, ks2, q, rfl, hi, hmp, hct, hm2, hk2, hI, hBe⟩ := hrel
        have MP3 := Lib.hid hmp
        have CT3 := Lib.hid hct
        have HM2 := Lib.hid hm2
        have HK2 := Lib.hid hk2
        have I3 := Lib.hid hI
        have HB6 := Lib.hid hBe
        clear hmp hct hm2 hk2 hI hBe MP I1 HB4 CT KS HMem HLk
        by_cases hil : i < k
        · obtain ⟨bm, om, rfl, hx⟩ := I3.out (by intro e; have := HN.out; rw [e] at this; simp at this; omega)
          have x1 := hx i (by have := HN.out; omega)
          have hin : L.getD i 0 ∈ L := by
            rw [List.getD_eq_getElem?_getD, List.getElem?_eq_getElem (by have := HN.out; omega)]
            exact List.getElem_mem _
          have hmr : -700 ≤ L.getD i 0 ∧ L.getD i 0 < 600 := by
            obtain ⟨d, h1, h2, h3⟩ := (HW.out _).1 hin
            obtain ⟨e1, e2, e3⟩ := data_isB d (by omega)
            obtain ⟨j, hj, e4⟩ := List.getElem_of_mem h3
            have hwy := way (d : Int) e1 j (by rw [e2, e3]; exact hj) (L.getD i 0) _ (by rw [e2, e3, ← e4, List.getD_eq_getElem?_getD (l := metasM (d : Int) 0), List.getElem?_eq_getElem hj]; rfl) rfl
            exact isB_range _ hwy.1
          have hval := CT3.out.val _ ((HM2.out _).2 hin)
          have HV := Lib.hid hval
          clear hx hin hval
          generalize L.getD i 0 = m at *
          have hkey : keyOf Try.prog 3 (.int .i64 m) = some (.int .i64 m) := keyOf_int_mk Try.underlying3 (wf_small m (by omega) (by omega))
          have HK := Lib.hid hkey
          clear hkey
          go_wp2_with (at_lookup; refine wpList_lookup_own_int _ rfl _ _ 50 rfl 3 3 .i64 mapLaw Try.underlying50 Try.underlying3 (zeroI _) g N2 D2 rfl MP3.out _ _ rfl HK.out ?_; intro c hat hwc; have hc0 : (c == 0) = false := (by obtain ⟨c', h1, h2, _⟩ := HV.out; have e := h1.symm.trans hat; injection e with e; injection e with _ e; simp; omega); clear hat hwc)
          go_roundw
          case rel => exact ⟨i + 1, N2, D2, ks2, q, by go_num, by omega, MP3.out, CT3.out, HM2.out, HK2.out, I3.out, HB6.out⟩
          case measure => simp [intOf] <;> omega
        · obtain rfl : i = k := by omega
          have hsz : Maps.size D2 = i := by rw [CT3.out.size, HK2.out]
          have HSz := Lib.hid hsz
          clear hsz
          go_wp2_with (at_len; refine wpList_len_own _ rfl _ 50 rfl 3 3 Try.underlying50 _ g N2 D2 rfl MP3.out ?_; rw [HSz.out])
          go_ret
          exact ⟨by simp, HB6.out⟩
end Go.Proofs.Ytcekejaefbdhfaa
