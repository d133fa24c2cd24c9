/-
  EntryPlaces.
-/
import Derived.Test.YtagigeacjendiaaEnMapsL
import Derived.Test.YtagigeacjendiaaEnPlM
import Derived.Test.YtagigeacjendiaaEnPart
import Derived.Test.YtagigeacjendiaaEnOneL
import Derived.Test.YtagigeacjendiaaObjInvB
namespace Go.Proofs.Ytagigeacjendiaa
open Go.RowKit

theorem wrap_i64 (x : Int) (h0 : 0 ≤ x) (h1 : x < 1000) : IntKind.i64.wrap x = x := by
  simp [IntKind.wrap, IntKind.signed, IntKind.bits]; omega
theorem own_nil {W : World} {g base : Nat} (hg : base ≤ g) (h : W.heap[g]? = some (.cells #[] U8 (0, 0))) : W.ownsRow base U8 1 (.slice (some ⟨g, 0, none⟩) 0 0) 0 [] :=
  ⟨rfl, .inr ⟨g, 0, _, rfl, hg, h, Nat.le_refl _, by decide, rfl, rfl⟩⟩
theorem mod8 (i : Int) : ∃ n : Nat, n < 8 ∧ ((IntKind.u64.wrap i).tmod 8) = (n : Int) := by
  have h0 : 0 ≤ IntKind.u64.wrap i := by simp [IntKind.wrap, IntKind.signed, IntKind.bits]; omega
  refine ⟨((IntKind.u64.wrap i).tmod 8).toNat, ?_, ?_⟩
  · rw [Int.tmod_eq_emod_of_nonneg h0]; omega
  · rw [Int.tmod_eq_emod_of_nonneg h0]; omega
theorem mapBlock_one (A V : Nat → Int) (w : World) : Calls Try.prog 10 #[.agg (cells16 A V)] w fun e w' => ∃ (a : Option Addr) (m cap : Nat) (c : Int), e = .returned (.tuple #[.slice a m cap, .int .i64 c]) ∧ (AllG A V 8 ∧ c = 0 ∧ m = 64 ∧ 64 ≤ cap ∧ w'.ownsRow w.heap.size U8 1 (.slice a 64 cap) 64 (cellsB (encK A V 8)) ∨ ¬ AllG A V 8 ∧ c = 22 ∧ m = 0 ∧ a = none ∧ cap = 0) ∧ Below w.heap.size w w' :=
  (mapBlock_any A V w).mono fun e w' ⟨h1, h2⟩ => by
    rcases h1 with ⟨hg, a, cap, rfl, ho⟩ | ⟨hg, rfl⟩
    · obtain ⟨a2, c2, hv2, hc2⟩ := own_slice ho
      cases hv2
      exact ⟨a, 64, cap, 0, rfl, .inl ⟨hg, rfl, rfl, hc2, ho⟩, h2⟩
    · exact ⟨none, 0, 0, 22, rfl, .inr ⟨hg, rfl, rfl, rfl, rfl⟩, h2⟩
theorem eq_keep {D : Nat → Bool} {X : Nat → Value} {p q i : Nat} {v : Value} (h : D p = true → X p = X q) (hp : p ≠ i) (hq : q ≠ i) : updD D i p = true → updV X i v p = updV X i v q := fun hh => by
  rw [updD_ne D i hp] at hh
  rw [updV_ne X i v hp, updV_ne X i v hq]; exact h hh
theorem read_enc (A V : Nat → Int) (hg : AllG A V 8) (W : World) (base : Nat) (v : Value) (ho : W.ownsRow base U8 1 v 64 (cellsB (encK A V 8))) :
    ∃ a cap, v = .slice a 64 cap ∧ Calls Try.prog 13 #[.slice a 64 cap] W fun e W' => e = .returned (.tuple #[.agg (cells16 A V), .int .i64 0]) ∧ Below W.heap.size W W' := by
  obtain ⟨a, cap, rfl, hcap⟩ := own_slice ho
  obtain ⟨a', cap', hva, -, hby, -⟩ := Bytes.own ho (encK_byte A V 8)
  cases hva
  obtain ⟨b, o, rfl, -⟩ := hby.2.2 (fun e => by have := encK_len A V 8; rw [e] at this; cases this)
  refine ⟨_, _, rfl, (readMap_64 b o cap _ W (encK_len A V 8) hcap hby).mono fun e W' ⟨h1, h2⟩ => ?_⟩
  obtain ⟨ok, hc⟩ := okM_enc A V hg
  rcases h1 with ⟨_, he⟩ | ⟨hno, _⟩
  · exact ⟨by rw [he, hc], h2⟩
  · exact absurd ok hno
theorem bytes_mid {w W : World} {b o : Nat} {l : List Nat} (h : Bytes w (some ⟨b, o, none⟩) l) (hb : Below w.heap.size w W) (k : Nat) {p : Nat} (_ : 64 ≤ p) : Bytes W (some ⟨b, o + k, none⟩) ((l.drop k).take 8) := by
  have h1 := bytes_drop (cap := max l.length (k + 1)) (h.below hb) k (by omega)
  unfold cutA at h1
  rw [if_neg (by omega)] at h1
  exact bytes_take h1 8
theorem key_men : Try.prog.keyTypeAt 3 MEN = true := by kernel_rfl
theorem eql_men (a v : Int) (ha : (Lit.int .i64 a).wf = true) (hv : (Lit.int .i64 v).wf = true) : ∀ W, (binOp .eql MEN (.agg #[.int .i64 a, .int .i64 v]) (.agg #[.int .i64 a, .int .i64 v])).run Try.prog W = .ok (.bool true) W := fun W => by
  have hl : Try.prog.keyLits 3 MEN [.int .i64 a, .int .i64 v] = some [.int .i64 a, .int .i64 v] := by
    simp [Program.keyLits, Try.underlying23, Try.underlying3, cells_int, cells_men, List.range, List.range.loop, ha, hv]
  obtain ⟨r, hr, hiff⟩ := run_equalIn_deep (P := Try.prog) 9997 3 MEN key_men W 3 3 (.agg #[.int .i64 a, .int .i64 v]) (.agg #[.int .i64 a, .int .i64 v]) _ _ (by simp [Value.formed, Try.underlying23, cells_men]) (by simp [Value.formed, Try.underlying23, cells_men]) hl hl
  have e : r = true := hiff.2 rfl
  rw [e] at hr
  have h : (Op.equalIn Op.maxDepth MEN (.agg #[.int .i64 a, .int .i64 v]) (.agg #[.int .i64 a, .int .i64 v])).run Try.prog W = .ok true W := hr
  simp [binOp, Op.equal, h]
set_option maxRecDepth 100000 in
set_option maxHeartbeats 16000000 in
theorem entryPlaces_walk (A V : Nat → Int) (i ma mv : Int) (w : World) (hf : Fit8 A V) (hi : (Lit.int .i64 i).wf = true) (hma : (Lit.int .i64 ma).wf = true) (hmv : (Lit.int .i64 mv).wf = true) :
    Calls Try.prog 7 #[.agg (cells16 A V), .int .i64 i, .agg #[.int .i64 ma, .int .i64 mv]] w fun e w' => e = .returned (.bool true) ∧ Below w.heap.size w w' := by
  have HF := Lib.hid hf
  have HB0 := Lib.hid (((Below.refl w.heap.size w).alloc (Nat.le_refl _) (.cells (cells16 A V) A8T)).alloc (by simp) (.cells #[.int .i64 ma, .int .i64 mv] MEN))
  have HM0 := Lib.hid ((blo_laid w A8T (cells16 A V)).alloc (.cells #[.int .i64 ma, .int .i64 mv] MEN))
  have hp := blo_laid (w.alloc (.cells (cells16 A V) A8T)) MEN #[.int .i64 ma, .int .i64 mv]
  rw [show (w.alloc (.cells (cells16 A V) A8T)).heap.size = w.heap.size + 1 by simp] at hp
  have HP0 := Lib.hid hp
  have HI := Lib.hid (info_a8 A V)
  have hu := Try.underlying24
  obtain ⟨n, hn, hin⟩ := mod8 i
  have HMa := Lib.hid hma
  have HMv := Lib.hid hmv
  clear hf hp hma hmv
  generalize hcs : cells16 A V = CS at *
  have HCS := Lib.hid hcs
  clear hcs
  go_enter Try.func7, Try.ntmps7
  go_wp2_with fail
  refine (awake_any _).mono ?_
  rintro e w1 ⟨rfl, hb1⟩
  have HB1 := Lib.hid (HB0.out.trans (hb1.mono HB0.out.size))
  have HM1 := Lib.hid (HM0.out.later hb1)
  have HP1 := Lib.hid (HP0.out.later hb1)
  clear hb1 HB0 HM0 HP0
  go_upto_region 4 with fail
  clear hin hi
  have HI2 : Hid ((Try.prog.info? A8T).map (·.size) = some (cells16 (putF A n ma) (putF V n mv)).size) := info_a8 _ _
  have HMb : Hid (∀ W, Calls Try.prog 10 #[.agg CS] W fun e w' => ∃ (a : Option Addr) (m cap : Nat) (c : Int), e = .returned (.tuple #[.slice a m cap, .int .i64 c]) ∧ (AllG A V 8 ∧ c = 0 ∧ m = 64 ∧ 64 ≤ cap ∧ w'.ownsRow W.heap.size U8 1 (.slice a 64 cap) 64 (cellsB (encK A V 8)) ∨ ¬ AllG A V 8 ∧ c = 22 ∧ m = 0 ∧ a = none ∧ cap = 0) ∧ Below W.heap.size W w') := fun W => by rw [← HCS.out]; exact mapBlock_one A V W
  have HMb2 := Lib.hid (mapBlock_one (putF A n ma) (putF V n mv))
  have HPut := Lib.hid (cells16_put A V n ma mv hn)
  obtain ⟨c0, c1⟩ := cells16_at A V n hn
  rw [HCS.out] at HPut c0 c1
  have HC0 := Lib.hid c0
  have HC1 := Lib.hid c1
  have HNn := Lib.hid hn
  have k0 : (0 : Int) ≤ (n : Int) := by omega
  have k1 : (n : Int) < 8 := by omega
  clear hn c0 c1
  have HEqM := Lib.hid (eql_men ma mv HMa.out HMv.out)
  have HRd := Lib.hid (read_enc (putF A n ma) (putF V n mv))
  have HEq : Hid (∀ W, (binOp .eql A8T (.agg (cells16 (putF A n ma) (putF V n mv))) (.agg (cells16 (putF A n ma) (putF V n mv)))).run Try.prog W = .ok (.bool true) W) := fun W => by
    have h := equal_a8 (putF A n ma) (putF V n mv) (putF_fit HF.out n (fit_wf HMa.out) (fit_wf HMv.out)) W
    rw [show (10000 : Nat) = Op.maxDepth from rfl] at h
    simp [binOp, Op.equal, h]
  have HOc := Lib.hid (cells16_one (putF A n ma) (putF V n mv))
  have HSz : Hid ((cells16 (putF A n ma) (putF V n mv)).size = z16.size) := rfl
  have HAt := Lib.hid (cells16_at (putF A n ma) (putF V n mv) n HNn.out)
  rw [putF_at, putF_at] at HAt
  generalize hcs2 : cells16 (putF A n ma) (putF V n mv) = CS2 at *
  have HCS2 := Lib.hid hcs2
  clear hcs2
  go_wp2_with (refine wpList_load_row rfl A8T (.tmp 3) rfl w.heap.size rfl A8T CS (0, 0) _ HM1.out hu rfl HI.out ?_)
  refine (HMb.out _).mono ?_
  rintro e w2 ⟨a1, m1, p1, c1, rfl, hr1, hb2⟩
  have HR1 := Lib.hid hr1
  have HL1 : Hid (w.heap.size < w1.heap.size) := HM1.out.lt
  have HB2 := Lib.hid (HB1.out.trans (hb2.mono HB1.out.size))
  have HM2 := Lib.hid (HM1.out.later hb2)
  have HP2 := Lib.hid (HP1.out.later hb2)
  clear hr1 hb2 HB1 HM1 HP1 HMb
  have x0 := HC0.out
  have x1 := HC1.out
  rw [← HM2.out.cell] at x0 x1
  have f0 := HM2.out.frozen (n * 2)
  have f1 := HM2.out.frozen (n * 2 + 1)
  have y0 : w2.cell? ⟨w.heap.size + 1, 0, none⟩ = some (.int .i64 ma) := (HP2.out.cell 0).trans rfl
  have y1 : w2.cell? ⟨w.heap.size + 1, 1, none⟩ = some (.int .i64 mv) := (HP2.out.cell 1).trans rfl
  go_upto_region 6 with fail
  have HM3 : Hid (Blo ((w2.setCell ⟨w.heap.size, n * 2, none⟩ (.int .i64 ma)).setCell ⟨w.heap.size, n * 2 + 1, none⟩ (.int .i64 mv)) w.heap.size A8T CS2) := by
    have e := (HM2.out.put (n * 2) (.int .i64 ma)).put (n * 2 + 1) (.int .i64 mv)
    rw [HPut.out] at e
    exact e
  have HP3 := Lib.hid ((HP2.out.far (p := ⟨w.heap.size, n * 2, none⟩) (by show w.heap.size + 1 ≠ w.heap.size; omega) (.int .i64 ma)).far (p := ⟨w.heap.size, n * 2 + 1, none⟩) (by show w.heap.size + 1 ≠ w.heap.size; omega) (.int .i64 mv))
  have HB3 := Lib.hid ((HB2.out.setCell (p := ⟨w.heap.size, n * 2, none⟩) (Nat.le_refl _) (.int .i64 ma)).setCell (p := ⟨w.heap.size, n * 2 + 1, none⟩) (Nat.le_refl _) (.int .i64 mv))
  have HR3 : Hid (AllG A V 8 ∧ c1 = 0 ∧ m1 = 64 ∧ 64 ≤ p1 ∧ ((w2.setCell ⟨w.heap.size, n * 2, none⟩ (.int .i64 ma)).setCell ⟨w.heap.size, n * 2 + 1, none⟩ (.int .i64 mv)).ownsRow w1.heap.size U8 1 (.slice a1 64 p1) 64 (cellsB (encK A V 8)) ∨ ¬ AllG A V 8 ∧ c1 = 22 ∧ m1 = 0 ∧ a1 = none ∧ p1 = 0) := by
    rcases HR1.out with ⟨q1, q2, q3, q4, q5⟩ | q
    · have hne : some w.heap.size ≠ (Value.slice a1 64 p1).ownBlock := fun e => by
        rcases q5.2 with ⟨h0, _⟩ | ⟨g, cc, cur, h0, hg, _⟩
        · cases h0
        · cases h0
          have := HL1.out
          simp [Value.ownBlock] at e
          omega
      exact .inl ⟨q1, q2, q3, q4, own_far (own_far q5 hne _) hne _⟩
    · exact .inr q
  clear x0 x1 f0 f1 y0 y1 HC0 HC1 HR1 HM2 HP2 HB2 HPut
  generalize (w2.setCell ⟨w.heap.size, n * 2, none⟩ (.int .i64 ma)).setCell ⟨w.heap.size, n * 2 + 1, none⟩ (.int .i64 mv) = w3 at *
  go_wp2_with (refine wpList_load_row rfl A8T (.tmp 3) rfl w.heap.size rfl A8T CS2 (0, 0) _ HM3.out hu rfl HI2.out ?_)
  refine (HMb2.out w3).mono ?_
  rintro e w4 ⟨a2, m2, p2, c2, rfl, hr2, hb4⟩
  have HR4 := Lib.hid hr2
  have HB4 := Lib.hid (HB3.out.trans (hb4.mono HB3.out.size))
  have HM4 := Lib.hid (HM3.out.later hb4)
  have HP4 := Lib.hid (HP3.out.later hb4)
  have HL3 := Lib.hid hb4
  clear hr2 hb4 HB3 HM3 HP3 HMb2
  rcases HR3.out with ⟨g1, rfl, rfl, g4, g5⟩ | ⟨g1, rfl, rfl, rfl, rfl⟩
  · rcases HR4.out with ⟨r1, rfl, rfl, r4, r5⟩ | ⟨r1, rfl, rfl, rfl, rfl⟩
    · clear HR3 HR4
      have HG1 := Lib.hid g1
      have HG4 := Lib.hid g4
      have HO1 := Lib.hid (own_later g5 HL3.out)
      have HH1 := Lib.hid r1
      have HH4 := Lib.hid r4
      have HO2 := Lib.hid r5
      clear g1 g4 g5 r1 r4 r5
      obtain ⟨a1', p1', hva, -, hby, -⟩ := Bytes.own HO1.out (encK_byte A V 8)
      cases hva
      obtain ⟨b1, o1, hb1, -⟩ := hby.2.2 (fun e => by have := encK_len A V 8; rw [e] at this; cases this)
      subst hb1
      obtain ⟨a2', p2', hva2, -, hby2, -⟩ := Bytes.own HO2.out (encK_byte (putF A n ma) (putF V n mv) 8)
      cases hva2
      obtain ⟨b2, o2, hb2, -⟩ := hby2.2.2 (fun e => by have := encK_len (putF A n ma) (putF V n mv) 8; rw [e] at this; cases this)
      subst hb2
      have hT := put_take A V n ma mv HNn.out
      have hD := put_drop A V n ma mv HNn.out
      have HSp := Lib.hid (put_splice A V n ma mv HNn.out)
      have HE1 := Lib.hid (encK_len A V 8)
      have HE2 := Lib.hid (encK_len (putF A n ma) (putF V n mv) 8)
      generalize encK A V 8 = l1 at *
      generalize encK (putF A n ma) (putF V n mv) 8 = l2 at *
      have HY1 := Lib.hid hby
      have HY2 := Lib.hid hby2
      have hc1 := cut_upto b1 o1 64 p1 (n * 8) (8 * (n : Int)) (by omega) (by have := HNn.out; omega) HG4.out (by have := HG4.out; omega) (by decide)
      have hc2 := cut_upto b2 o2 64 p2 (n * 8) (8 * (n : Int)) (by omega) (by have := HNn.out; omega) HH4.out (by have := HH4.out; omega) (by decide)
      have hc3 := cut_from_le b1 o1 64 p1 (n * 8 + 8) (64 - (n * 8 + 8)) (p1 - (n * 8 + 8)) (8 * (n : Int) + 8) (by omega) (by have := HNn.out; omega) HG4.out (by decide) rfl rfl
      have hc4 := cut_from_le b2 o2 64 p2 (n * 8 + 8) (64 - (n * 8 + 8)) (p2 - (n * 8 + 8)) (8 * (n : Int) + 8) (by omega) (by have := HNn.out; omega) HH4.out (by decide) rfl rfl
      have ht1 : ∀ x : Kept w4, (convert 26 9 (.slice (some ⟨b1, o1, none⟩) (n * 8) p1)).run Try.prog x.at_ = .ok (.string (strOf (l2.take (n * 8)))) x.at_ := fun x => by
        rw [← hT]; exact text_of (bytes_take (HY1.out.below x.below) _) _ _ (by rw [List.length_take, HE1.out]; have := HNn.out; omega)
      have ht2 : ∀ x : Kept w4, (convert 26 9 (.slice (some ⟨b2, o2, none⟩) (n * 8) p2)).run Try.prog x.at_ = .ok (.string (strOf (l2.take (n * 8)))) x.at_ := fun x =>
        text_of (bytes_take (HY2.out.below x.below) _) _ _ (by rw [List.length_take, HE2.out]; have := HNn.out; omega)
      have ht3 : ∀ x : Kept w4, (convert 26 9 (.slice (cutA b1 o1 p1 (n * 8 + 8)) (64 - (n * 8 + 8)) (p1 - (n * 8 + 8)))).run Try.prog x.at_ = .ok (.string (strOf (l2.drop (n * 8 + 8)))) x.at_ := fun x => by
        rw [← hD]; exact text_of (bytes_drop (HY1.out.below x.below) _ (by rw [HE1.out]; exact HG4.out)) _ _ (by rw [List.length_drop, HE1.out])
      have ht4 : ∀ x : Kept w4, (convert 26 9 (.slice (cutA b2 o2 p2 (n * 8 + 8)) (64 - (n * 8 + 8)) (p2 - (n * 8 + 8)))).run Try.prog x.at_ = .ok (.string (strOf (l2.drop (n * 8 + 8)))) x.at_ := fun x =>
        text_of (bytes_drop (HY2.out.below x.below) _ (by rw [HE2.out]; exact HH4.out)) _ _ (by rw [List.length_drop, HE2.out])
      clear hT hD hby hby2 HO1 HO2
      have HYq : Hid (Bytes w4 (cutA b1 o1 p1 (n * 8 + 8)) (l1.drop (n * 8 + 8))) := bytes_drop HY1.out _ (by rw [HE1.out]; exact HG4.out)
      have HQ1 : Hid (64 = n * 8 + 8 + (64 - (n * 8 + 8))) := by show 64 = _; have := HNn.out; omega
      generalize strOf (l2.take (n * 8)) = s1 at *
      generalize strOf (l2.drop (n * 8 + 8)) = s2 at *
      generalize hq0 : 64 - (n * 8 + 8) = q0 at *
      have HQ0 : Hid (q0 = 64 - (n * 8 + 8)) := hq0.symm
      clear hq0
      generalize p1 - (n * 8 + 8) = q1 at *
      generalize p2 - (n * 8 + 8) = q2 at *
      generalize cutA b1 o1 p1 (n * 8 + 8) = d1 at *
      generalize cutA b2 o2 p2 (n * 8 + 8) = d2 at *
      have hs1 : (s1.toList != s1.toList) = false := by simp
      have hs2 : (s2.toList != s2.toList) = false := by simp
      go_upto_region 9 with fail
      refine wp_region_kept (by kernel_rfl) (by kernel_rfl) ?_
      repeat (go_big_quiet_step (fail))
      refine wpQuiet_nil ?_
      rintro W ⟨wx, rfl⟩
      have HB5 := Lib.hid (HB4.out.trans (wx.below.mono HB4.out.size))
      have HM5 := Lib.hid (HM4.out.later wx.below)
      have HP5 := Lib.hid (HP4.out.later wx.below)
      have HY15 := Lib.hid (HY1.out.below wx.below)
      have HY25 := Lib.hid (HY2.out.below wx.below)
      have HYd := Lib.hid (HYq.out.below wx.below)
      clear hc4 ht1 ht2 ht3 ht4 hs1 hs2 HB4 HM4 HP4 HY1 HY2 HYq
      go_upto_region 11 with fail
      generalize wx.at_ = w9 at *
      have hc5 : ∀ W : World, (Instr.slice 26 (.slice (some ⟨b2, o2, none⟩) 64 p2) (some (.int .i64 (8 * (n : Int)))) (some (.int .i64 (8 * (n : Int) + 8))) none).run Try.prog W = .ok (.slice (some ⟨b2, o2 + n * 8, none⟩) 8 (p2 - n * 8)) W := fun W => by
        have ht' : Try.prog.underlying 26 = some (.slice (Try.prog.elem 26)) := by simp [Program.elem, Try.underlying26]
        have he : Try.prog.elem 26 = 5 := by simp [Program.elem, Try.underlying26]
        have hn := HNn.out
        have hp := HH4.out
        have e2 : ¬ p2 = n * 8 := by omega
        have e3 : (8 * (n : Int)).toNat = n * 8 := by omega
        have e4 : (8 * (n : Int) + 8).toNat = n * 8 + 8 := by omega
        rw [run_slice_lh W 26 _ _ _ ht' .i64 .i64 _ _ (by omega) (by omega) (by omega), he, size_u8x]
        simp [Result.andThen, sliced, Addr.add_lit, e2, e3, e4]
      have hw1 : IntKind.i64.wrap (8 * (n : Int)) = 8 * (n : Int) := by have := HNn.out; exact wrap_i64 _ (by omega) (by omega)
      have hw2 : IntKind.i64.wrap (8 * (n : Int) + 8) = 8 * (n : Int) + 8 := by have := HNn.out; exact wrap_i64 _ (by omega) (by omega)
      have hn := HNn.out
      have hp28 := HH4.out
      obtain ⟨RL, hRL⟩ : ∃ RL : List (Nat × ObjT), RL = [(0, ⟨rowP w9.heap.size U8 1 0 (cellsB []), 0, 0⟩), (5, ⟨rowP w9.heap.size U8 1 (n * 8) (cellsB (l1.take (n * 8))), 0, 1⟩), (13, ⟨rowP w9.heap.size U8 1 (n * 8 + 8) (cellsB (l1.take (n * 8) ++ (l2.drop (n * 8)).take 8)), 0, 2⟩), (19, ⟨rowP w9.heap.size U8 1 64 (cellsB l2), 0, 3⟩), (24, ⟨cellsP w9.heap.size A8T z16, 1, 0⟩), (25, ⟨cellsP w9.heap.size A8T CS2, 1, 1⟩)] := ⟨_, rfl⟩
      obtain ⟨TL, hTL⟩ : ∃ TL : List (Nat × Value), TL = [(1, .slice (some ⟨b1, o1, none⟩) 64 p1), (2, .int .i64 (n : Int)), (3, .int .i64 (8 * (n : Int))), (4, .slice (some ⟨b1, o1, none⟩) (n * 8) p1), (6, .slice (some ⟨b2, o2, none⟩) 64 p2), (7, .int .i64 (n : Int)), (8, .int .i64 (8 * (n : Int))), (9, .int .i64 (n : Int)), (10, .int .i64 (8 * (n : Int))), (11, .int .i64 (8 * (n : Int) + 8)), (12, .slice (some ⟨b2, o2 + n * 8, none⟩) 8 (p2 - n * 8)), (14, .slice (some ⟨b1, o1, none⟩) 64 p1), (15, .int .i64 (n : Int)), (16, .int .i64 (8 * (n : Int))), (17, .int .i64 (8 * (n : Int) + 8)), (18, .slice d1 q0 q1), (20, .tuple #[.agg CS2, .int .i64 0]), (21, .tuple #[.agg CS2, .int .i64 0]), (22, .agg CS2), (23, .int .i64 0)] := ⟨_, rfl⟩
      obtain ⟨CL, hCL⟩ : ∃ CL : List (Nat × Nat), CL = [(25, 24), (5, 0), (13, 0), (19, 0), (13, 5), (19, 5), (19, 13)] := ⟨_, rfl⟩
      have hKB : keysO RL := by rw [hRL]; exact keysO_of (by rfl)
      have hSB : stabs RL := by intro x hx; simp [hRL] at hx; rcases hx with rfl | rfl | rfl | rfl | rfl | rfl <;> first | exact stab_row _ _ _ _ _ | exact stab_cells _ _ _ | fail
      refine wp_region_inv (n := 26) [(0, 81), (1, 82), (2, 83), (3, 84), (4, 85), (5, 86), (6, 87), (7, 88), (8, 89), (9, 90), (10, 91), (11, 92), (12, 93), (13, 94), (14, 95), (15, 96), (16, 97), (17, 98), (18, 99), (19, 100), (20, 101), (21, 80), (22, 102), (23, 103), (24, 11)] (fun D X W => GI RL TL CL w9 D X W ∧ (D 25 = true → X 25 = X 24)) (by kernel_rfl) (by kernel_rfl) (by kernel_rfl) (fun X => by simp only [putL, Act.put, List.setIfInBounds_toArray, List.set_cons_zero, List.set_cons_succ]; rfl) (fun X => ⟨GI.start (Below.refl _ _).drew, fun h => by cases h⟩) ?_ ?_
      · show StepsI _ _ _ _ _ 0 [_, _, _, _, _, _, _, _, _, _, _, _, _, _, _, _, _, _, _, _, _, _, _, _, _, _]
        refine ⟨fun D X W hD hd ⟨hI, hE⟩ K hK => ?_, ?_⟩
        · refine stepO_run (v := .slice (some ⟨W.heap.size, 0, none⟩) 0 0) (w' := W.alloc (.cells #[] U8)) (by simp [Region.wanted]) (by simp [go_sem, execOp]) (hK _ _ ?_)
          have hL5 : D 5 = false := by cases hh : D 5 with
            | false => rfl
            | true => have := hI.cl (5, 0) (by simp [hCL]) hh; rw [hD] at this; cases this
          have hL13 : D 13 = false := by cases hh : D 13 with
            | false => rfl
            | true => have := hI.cl (13, 0) (by simp [hCL]) hh; rw [hD] at this; cases this
          have hL19 : D 19 = false := by cases hh : D 19 with
            | false => rfl
            | true => have := hI.cl (19, 0) (by simp [hCL]) hh; rw [hD] at this; cases this
          refine ⟨?_, eq_keep hE (by decide) (by decide)⟩
          exact hI.fresh hKB hSB 0 _ ⟨rowP w9.heap.size U8 1 0 (cellsB []), 0, 0⟩ (by simp [hRL]) (sup_en W _) (by intro k hk; simp [blkOf] at hk; subst hk; simp) (by intro y hy e1 e2; simp [hRL] at hy; rcases hy with rfl | rfl | rfl | rfl | rfl | rfl <;> first | exact .inr hL5 | exact .inr hL13 | exact .inr hL19 | (exfalso; simp at e1; done) | (exfalso; simp at e2; done) | fail) ⟨rfl, .inr ⟨W.heap.size, 0, #[], rfl, hI.b.size, heap_alloc_new W _, Nat.le_refl _, by decide, rfl, rfl⟩⟩ (by simp [hTL]) (by simp [hCL])
        refine ⟨fun D X W hD hd ⟨hI, hE⟩ K hK => ?_, ?_⟩
        · exact stepO_run (v := .slice (some ⟨b1, o1, none⟩) 64 p1) (w' := W) (by simp [Region.wanted]) (by simp [go_sem, execOp]) (hK _ _ ⟨hI.tell hSB 1 _ (Below.refl _ _) (by simp [hRL]) (by simp [hTL]) (by simp [hCL]), eq_keep hE (by decide) (by decide)⟩)
        refine ⟨fun D X W hD hd ⟨hI, hE⟩ K hK => ?_, ?_⟩
        · exact stepO_run (v := .int .i64 (n : Int)) (w' := W) (by simp [Region.wanted]) (by simp [go_sem, execOp]) (hK _ _ ⟨hI.tell hSB 2 _ (Below.refl _ _) (by simp [hRL]) (by simp [hTL]) (by simp [hCL]), eq_keep hE (by decide) (by decide)⟩)
        refine ⟨fun D X W hD hd ⟨hI, hE⟩ K hK => ?_, ?_⟩
        · have a2 := hI.dt (2, .int .i64 (n : Int)) (by simp [hTL]) (hd ⟨2, .data⟩ (by simp) rfl)
          exact stepO_run (v := .int .i64 (8 * (n : Int))) (w' := W) (by simp [Region.wanted]) (by simp [go_sem, execOp, a2, hw1]) (hK _ _ ⟨hI.tell hSB 3 _ (Below.refl _ _) (by simp [hRL]) (by simp [hTL]) (by simp [hCL]), eq_keep hE (by decide) (by decide)⟩)
        refine ⟨fun D X W hD hd ⟨hI, hE⟩ K hK => ?_, ?_⟩
        · have a1 := hI.dt (1, .slice (some ⟨b1, o1, none⟩) 64 p1) (by simp [hTL]) (hd ⟨1, .data⟩ (by simp) rfl)
          have a3 := hI.dt (3, .int .i64 (8 * (n : Int))) (by simp [hTL]) (hd ⟨3, .data⟩ (by simp) rfl)
          exact stepO_run (v := .slice (some ⟨b1, o1, none⟩) (n * 8) p1) (w' := W) (by simp [Region.wanted]) (by simp [go_sem, execOp, a1, a3, hc1]) (hK _ _ ⟨hI.tell hSB 4 _ (Below.refl _ _) (by simp [hRL]) (by simp [hTL]) (by simp [hCL]), eq_keep hE (by decide) (by decide)⟩)
        refine ⟨fun D X W hD hd ⟨hI, hE⟩ K hK => ?_, ?_⟩
        · have dp : D 0 = true := hd ⟨0, .data⟩ (by simp) rfl
          have d0 := dp
          have d5 := dp
          have a4 := hI.dt (4, .slice (some ⟨b1, o1, none⟩) (n * 8) p1) (by simp [hTL]) (hd ⟨4, .data⟩ (by simp) rfl)
          have hL13 : D 13 = false := by cases hh : D 13 with
            | false => rfl
            | true => have := hI.cl (13, 5) (by simp [hCL]) hh; rw [hD] at this; cases this
          have hL19 : D 19 = false := by cases hh : D 19 with
            | false => rfl
            | true => have := hI.cl (19, 5) (by simp [hCL]) hh; rw [hD] at this; cases this
          have r0 := hI.rows (0, ⟨rowP w9.heap.size U8 1 0 (cellsB []), 0, 0⟩) (by simp [hRL]) (dp) (by intro y hy e1 e2; simp [hRL] at hy; rcases hy with rfl | rfl | rfl | rfl | rfl | rfl <;> first | exact hD | exact hL13 | exact hL19 | (exfalso; simp at e1; done) | (exfalso; simp at e2; done) | fail)
          refine stepO_appendB (by simp [Region.wanted]) (.tmp 81) (.tmp 85) 26 rfl w9.heap.size U8 Try.underlying26 info_u8 (X 0) 0 [] rfl r0 (some ⟨b1, o1, none⟩) (n * 8) p1 (l1.take (n * 8)) a4 (by rw [List.length_take, HE1.out]; omega) (bytes_take (HY15.out.below hI.b) (n * 8)) (by omega) hI.b.size (n * 8) (l1.take (n * 8)) (by omega) (List.nil_append _) (fun v' W' ho hg hv => hK _ _ ?_)
          refine ⟨?_, eq_keep hE (by decide) (by decide)⟩
          exact hI.onto hKB hSB 5 0 v' ⟨rowP w9.heap.size U8 1 (n * 8) (cellsB (l1.take (n * 8))), 0, 1⟩ ⟨rowP w9.heap.size U8 1 0 (cellsB []), 0, 0⟩ (by simp [hRL]) (by simp [hRL]) rfl dp hg hv (by intro y hy e1 e2; simp [hRL] at hy; rcases hy with rfl | rfl | rfl | rfl | rfl | rfl <;> first | (exfalso; simp at e2; done) | (refine .inl ?_; simp; done) | exact .inr hL13 | exact .inr hL19 | (exfalso; simp at e1; done) | fail) ho (by simp [hTL]) (by intro x hx e; simp [hCL] at hx; rcases hx with rfl | rfl | rfl | rfl | rfl | rfl | rfl <;> first | (exfalso; simp at e; done) | exact dp | exact d0 | exact d5 | fail)
        refine ⟨fun D X W hD hd ⟨hI, hE⟩ K hK => ?_, ?_⟩
        · exact stepO_run (v := .slice (some ⟨b2, o2, none⟩) 64 p2) (w' := W) (by simp [Region.wanted]) (by simp [go_sem, execOp]) (hK _ _ ⟨hI.tell hSB 6 _ (Below.refl _ _) (by simp [hRL]) (by simp [hTL]) (by simp [hCL]), eq_keep hE (by decide) (by decide)⟩)
        refine ⟨fun D X W hD hd ⟨hI, hE⟩ K hK => ?_, ?_⟩
        · exact stepO_run (v := .int .i64 (n : Int)) (w' := W) (by simp [Region.wanted]) (by simp [go_sem, execOp]) (hK _ _ ⟨hI.tell hSB 7 _ (Below.refl _ _) (by simp [hRL]) (by simp [hTL]) (by simp [hCL]), eq_keep hE (by decide) (by decide)⟩)
        refine ⟨fun D X W hD hd ⟨hI, hE⟩ K hK => ?_, ?_⟩
        · have a7 := hI.dt (7, .int .i64 (n : Int)) (by simp [hTL]) (hd ⟨7, .data⟩ (by simp) rfl)
          exact stepO_run (v := .int .i64 (8 * (n : Int))) (w' := W) (by simp [Region.wanted]) (by simp [go_sem, execOp, a7, hw1]) (hK _ _ ⟨hI.tell hSB 8 _ (Below.refl _ _) (by simp [hRL]) (by simp [hTL]) (by simp [hCL]), eq_keep hE (by decide) (by decide)⟩)
        refine ⟨fun D X W hD hd ⟨hI, hE⟩ K hK => ?_, ?_⟩
        · exact stepO_run (v := .int .i64 (n : Int)) (w' := W) (by simp [Region.wanted]) (by simp [go_sem, execOp]) (hK _ _ ⟨hI.tell hSB 9 _ (Below.refl _ _) (by simp [hRL]) (by simp [hTL]) (by simp [hCL]), eq_keep hE (by decide) (by decide)⟩)
        refine ⟨fun D X W hD hd ⟨hI, hE⟩ K hK => ?_, ?_⟩
        · have a9 := hI.dt (9, .int .i64 (n : Int)) (by simp [hTL]) (hd ⟨9, .data⟩ (by simp) rfl)
          exact stepO_run (v := .int .i64 (8 * (n : Int))) (w' := W) (by simp [Region.wanted]) (by simp [go_sem, execOp, a9, hw1]) (hK _ _ ⟨hI.tell hSB 10 _ (Below.refl _ _) (by simp [hRL]) (by simp [hTL]) (by simp [hCL]), eq_keep hE (by decide) (by decide)⟩)
        refine ⟨fun D X W hD hd ⟨hI, hE⟩ K hK => ?_, ?_⟩
        · have a10 := hI.dt (10, .int .i64 (8 * (n : Int))) (by simp [hTL]) (hd ⟨10, .data⟩ (by simp) rfl)
          exact stepO_run (v := .int .i64 (8 * (n : Int) + 8)) (w' := W) (by simp [Region.wanted]) (by simp [go_sem, execOp, a10, hw2]) (hK _ _ ⟨hI.tell hSB 11 _ (Below.refl _ _) (by simp [hRL]) (by simp [hTL]) (by simp [hCL]), eq_keep hE (by decide) (by decide)⟩)
        refine ⟨fun D X W hD hd ⟨hI, hE⟩ K hK => ?_, ?_⟩
        · have a6 := hI.dt (6, .slice (some ⟨b2, o2, none⟩) 64 p2) (by simp [hTL]) (hd ⟨6, .data⟩ (by simp) rfl)
          have a8 := hI.dt (8, .int .i64 (8 * (n : Int))) (by simp [hTL]) (hd ⟨8, .data⟩ (by simp) rfl)
          have a11 := hI.dt (11, .int .i64 (8 * (n : Int) + 8)) (by simp [hTL]) (hd ⟨11, .data⟩ (by simp) rfl)
          exact stepO_run (v := .slice (some ⟨b2, o2 + n * 8, none⟩) 8 (p2 - n * 8)) (w' := W) (by simp [Region.wanted]) (by simp [go_sem, execOp, a6, a8, a11, hc5]) (hK _ _ ⟨hI.tell hSB 12 _ (Below.refl _ _) (by simp [hRL]) (by simp [hTL]) (by simp [hCL]), eq_keep hE (by decide) (by decide)⟩)
        refine ⟨fun D X W hD hd ⟨hI, hE⟩ K hK => ?_, ?_⟩
        · have dp : D 5 = true := hd ⟨5, .data⟩ (by simp) rfl
          have d0 : D 0 = true := hI.cl (5, 0) (by simp [hCL]) dp
          have d5 := dp
          have a12 := hI.dt (12, .slice (some ⟨b2, o2 + n * 8, none⟩) 8 (p2 - n * 8)) (by simp [hTL]) (hd ⟨12, .data⟩ (by simp) rfl)
          have hL19 : D 19 = false := by cases hh : D 19 with
            | false => rfl
            | true => have := hI.cl (19, 13) (by simp [hCL]) hh; rw [hD] at this; cases this
          have r5 := hI.rows (5, ⟨rowP w9.heap.size U8 1 (n * 8) (cellsB (l1.take (n * 8))), 0, 1⟩) (by simp [hRL]) (dp) (by intro y hy e1 e2; simp [hRL] at hy; rcases hy with rfl | rfl | rfl | rfl | rfl | rfl <;> first | exact hD | exact hL19 | (exfalso; simp at e1; done) | (exfalso; simp at e2; done) | fail)
          refine stepO_appendB (by simp [Region.wanted]) (.tmp 86) (.tmp 93) 26 rfl w9.heap.size U8 Try.underlying26 info_u8 (X 5) (n * 8) (l1.take (n * 8)) rfl r5 (some ⟨b2, o2 + n * 8, none⟩) 8 (p2 - n * 8) ((l2.drop (n * 8)).take 8) a12 (by rw [List.length_take, List.length_drop, HE2.out]; omega) (bytes_mid HY25.out hI.b (n * 8) hp28) (by omega) hI.b.size (n * 8 + 8) (l1.take (n * 8) ++ (l2.drop (n * 8)).take 8) (by omega) rfl (fun v' W' ho hg hv => hK _ _ ?_)
          refine ⟨?_, eq_keep hE (by decide) (by decide)⟩
          exact hI.onto hKB hSB 13 5 v' ⟨rowP w9.heap.size U8 1 (n * 8 + 8) (cellsB (l1.take (n * 8) ++ (l2.drop (n * 8)).take 8)), 0, 2⟩ ⟨rowP w9.heap.size U8 1 (n * 8) (cellsB (l1.take (n * 8))), 0, 1⟩ (by simp [hRL]) (by simp [hRL]) rfl dp hg hv (by intro y hy e1 e2; simp [hRL] at hy; rcases hy with rfl | rfl | rfl | rfl | rfl | rfl <;> first | (exfalso; simp at e2; done) | (refine .inl ?_; simp; done) | exact .inr hL19 | (exfalso; simp at e1; done) | fail) ho (by simp [hTL]) (by intro x hx e; simp [hCL] at hx; rcases hx with rfl | rfl | rfl | rfl | rfl | rfl | rfl <;> first | (exfalso; simp at e; done) | exact dp | exact d0 | exact d5 | fail)
        refine ⟨fun D X W hD hd ⟨hI, hE⟩ K hK => ?_, ?_⟩
        · exact stepO_run (v := .slice (some ⟨b1, o1, none⟩) 64 p1) (w' := W) (by simp [Region.wanted]) (by simp [go_sem, execOp]) (hK _ _ ⟨hI.tell hSB 14 _ (Below.refl _ _) (by simp [hRL]) (by simp [hTL]) (by simp [hCL]), eq_keep hE (by decide) (by decide)⟩)
        refine ⟨fun D X W hD hd ⟨hI, hE⟩ K hK => ?_, ?_⟩
        · exact stepO_run (v := .int .i64 (n : Int)) (w' := W) (by simp [Region.wanted]) (by simp [go_sem, execOp]) (hK _ _ ⟨hI.tell hSB 15 _ (Below.refl _ _) (by simp [hRL]) (by simp [hTL]) (by simp [hCL]), eq_keep hE (by decide) (by decide)⟩)
        refine ⟨fun D X W hD hd ⟨hI, hE⟩ K hK => ?_, ?_⟩
        · have a15 := hI.dt (15, .int .i64 (n : Int)) (by simp [hTL]) (hd ⟨15, .data⟩ (by simp) rfl)
          exact stepO_run (v := .int .i64 (8 * (n : Int))) (w' := W) (by simp [Region.wanted]) (by simp [go_sem, execOp, a15, hw1]) (hK _ _ ⟨hI.tell hSB 16 _ (Below.refl _ _) (by simp [hRL]) (by simp [hTL]) (by simp [hCL]), eq_keep hE (by decide) (by decide)⟩)
        refine ⟨fun D X W hD hd ⟨hI, hE⟩ K hK => ?_, ?_⟩
        · have a16 := hI.dt (16, .int .i64 (8 * (n : Int))) (by simp [hTL]) (hd ⟨16, .data⟩ (by simp) rfl)
          exact stepO_run (v := .int .i64 (8 * (n : Int) + 8)) (w' := W) (by simp [Region.wanted]) (by simp [go_sem, execOp, a16, hw2]) (hK _ _ ⟨hI.tell hSB 17 _ (Below.refl _ _) (by simp [hRL]) (by simp [hTL]) (by simp [hCL]), eq_keep hE (by decide) (by decide)⟩)
        refine ⟨fun D X W hD hd ⟨hI, hE⟩ K hK => ?_, ?_⟩
        · have a14 := hI.dt (14, .slice (some ⟨b1, o1, none⟩) 64 p1) (by simp [hTL]) (hd ⟨14, .data⟩ (by simp) rfl)
          have a17 := hI.dt (17, .int .i64 (8 * (n : Int) + 8)) (by simp [hTL]) (hd ⟨17, .data⟩ (by simp) rfl)
          exact stepO_run (v := .slice d1 q0 q1) (w' := W) (by simp [Region.wanted]) (by simp [go_sem, execOp, a14, a17, hc3]) (hK _ _ ⟨hI.tell hSB 18 _ (Below.refl _ _) (by simp [hRL]) (by simp [hTL]) (by simp [hCL]), eq_keep hE (by decide) (by decide)⟩)
        refine ⟨fun D X W hD hd ⟨hI, hE⟩ K hK => ?_, ?_⟩
        · have dp : D 13 = true := hd ⟨13, .data⟩ (by simp) rfl
          have d0 : D 0 = true := hI.cl (13, 0) (by simp [hCL]) dp
          have d5 : D 5 = true := hI.cl (13, 5) (by simp [hCL]) dp
          have a18 := hI.dt (18, .slice d1 q0 q1) (by simp [hTL]) (hd ⟨18, .data⟩ (by simp) rfl)
          have r13 := hI.rows (13, ⟨rowP w9.heap.size U8 1 (n * 8 + 8) (cellsB (l1.take (n * 8) ++ (l2.drop (n * 8)).take 8)), 0, 2⟩) (by simp [hRL]) (dp) (by intro y hy e1 e2; simp [hRL] at hy; rcases hy with rfl | rfl | rfl | rfl | rfl | rfl <;> first | exact hD | (exfalso; simp at e1; done) | (exfalso; simp at e2; done) | fail)
          refine stepO_appendB (by simp [Region.wanted]) (.tmp 94) (.tmp 99) 26 rfl w9.heap.size U8 Try.underlying26 info_u8 (X 13) (n * 8 + 8) (l1.take (n * 8) ++ (l2.drop (n * 8)).take 8) rfl r13 d1 q0 q1 (l1.drop (n * 8 + 8)) a18 (by rw [List.length_drop, HE1.out]; exact HQ0.out) (HYd.out.below hI.b) (by have := HQ1.out; omega) hI.b.size 64 l2 HQ1.out HSp.out (fun v' W' ho hg hv => hK _ _ ?_)
          refine ⟨?_, eq_keep hE (by decide) (by decide)⟩
          exact hI.onto hKB hSB 19 13 v' ⟨rowP w9.heap.size U8 1 64 (cellsB l2), 0, 3⟩ ⟨rowP w9.heap.size U8 1 (n * 8 + 8) (cellsB (l1.take (n * 8) ++ (l2.drop (n * 8)).take 8)), 0, 2⟩ (by simp [hRL]) (by simp [hRL]) rfl dp hg hv (by intro y hy e1 e2; simp [hRL] at hy; rcases hy with rfl | rfl | rfl | rfl | rfl | rfl <;> first | (exfalso; simp at e2; done) | (refine .inl ?_; simp; done)  | (exfalso; simp at e1; done) | fail) ho (by simp [hTL]) (by intro x hx e; simp [hCL] at hx; rcases hx with rfl | rfl | rfl | rfl | rfl | rfl | rfl <;> first | (exfalso; simp at e; done) | exact dp | exact d0 | exact d5 | fail)
        refine ⟨fun D X W hD hd ⟨hI, hE⟩ K hK => ?_, ?_⟩
        · have r19 := hI.rows (19, ⟨rowP w9.heap.size U8 1 64 (cellsB l2), 0, 3⟩) (by simp [hRL]) (hd ⟨19, .data⟩ (by simp) rfl) (by intro y hy e1 e2; simp [hRL] at hy; rcases hy with rfl | rfl | rfl | rfl | rfl | rfl <;> first | (exfalso; simp at e1; done) | (exfalso; simp at e2; done) | fail)
          obtain ⟨xa, xc, hx, hcall⟩ := HRd.out HH1.out W _ _ r19
          have hx2 : X 19 = _ := hx
          refine stepO_call (f := 13) (args := #[.slice xa 64 xc]) (by simp [Region.wanted]) (by simp [go_sem, execOp, hx2]) hcall (fun e W' ⟨he, hb⟩ => ⟨_, he, hK _ _ ?_⟩)
          exact ⟨hI.tell hSB 20 _ hb (by simp [hRL]) (by simp [hTL]) (by simp [hCL]), eq_keep hE (by decide) (by decide)⟩
        refine ⟨fun D X W hD hd ⟨hI, hE⟩ K hK => ?_, ?_⟩
        · have a20 := hI.dt (20, .tuple #[.agg CS2, .int .i64 0]) (by simp [hTL]) (hd ⟨20, .data⟩ (by simp) rfl)
          exact stepO_run (v := .tuple #[.agg CS2, .int .i64 0]) (w' := W) (by simp [Region.wanted]) (by simp [go_sem, execOp, a20]) (hK _ _ ⟨hI.tell hSB 21 _ (Below.refl _ _) (by simp [hRL]) (by simp [hTL]) (by simp [hCL]), eq_keep hE (by decide) (by decide)⟩)
        refine ⟨fun D X W hD hd ⟨hI, hE⟩ K hK => ?_, ?_⟩
        · have a21 := hI.dt (21, .tuple #[.agg CS2, .int .i64 0]) (by simp [hTL]) (hd ⟨21, .data⟩ (by simp) rfl)
          exact stepO_run (v := .agg CS2) (w' := W) (by simp [Region.wanted]) (by simp [go_sem, execOp, a21]) (hK _ _ ⟨hI.tell hSB 22 _ (Below.refl _ _) (by simp [hRL]) (by simp [hTL]) (by simp [hCL]), eq_keep hE (by decide) (by decide)⟩)
        refine ⟨fun D X W hD hd ⟨hI, hE⟩ K hK => ?_, ?_⟩
        · have a21 := hI.dt (21, .tuple #[.agg CS2, .int .i64 0]) (by simp [hTL]) (hd ⟨21, .data⟩ (by simp) rfl)
          exact stepO_run (v := .int .i64 0) (w' := W) (by simp [Region.wanted]) (by simp [go_sem, execOp, a21]) (hK _ _ ⟨hI.tell hSB 23 _ (Below.refl _ _) (by simp [hRL]) (by simp [hTL]) (by simp [hCL]), eq_keep hE (by decide) (by decide)⟩)
        refine ⟨fun D X W hD hd ⟨hI, hE⟩ K hK => ?_, ?_⟩
        · refine stepO_run (v := .pointer (some ⟨W.heap.size, 0, none⟩)) (w' := W.alloc (.cells z16 A8T)) (by simp [Region.wanted]) (by simp [go_sem, execOp]; rfl) (hK _ _ ?_)
          have hL25 : D 25 = false := by cases hh : D 25 with
            | false => rfl
            | true => have := hI.cl (25, 24) (by simp [hCL]) hh; rw [hD] at this; cases this
          refine ⟨?_, fun hh => by rw [updD_ne D 24 (by decide), hL25] at hh; cases hh⟩
          exact hI.fresh hKB hSB 24 _ ⟨cellsP w9.heap.size A8T z16, 1, 0⟩ (by simp [hRL]) (sup_en W _) (by intro k hk; simp [blkOf] at hk; subst hk; simp) (by intro y hy e1 e2; simp [hRL] at hy; rcases hy with rfl | rfl | rfl | rfl | rfl | rfl <;> first | exact .inr hL25 | (exfalso; simp at e1; done) | (exfalso; simp at e2; done) | fail) ⟨W.heap.size, rfl, hI.b.size, blo_laid W A8T z16⟩ (by simp [hTL]) (by simp [hCL])
        refine ⟨fun D X W hD hd ⟨hI, hE⟩ K hK => ?_, ?_⟩
        · have d24 : D 24 = true := hd ⟨24, .data⟩ (by simp) rfl
          have a22 := hI.dt (22, .agg CS2) (by simp [hTL]) (hd ⟨22, .data⟩ (by simp) rfl)
          obtain ⟨g, hg, hgw, hgb⟩ := hI.rows (24, ⟨cellsP w9.heap.size A8T z16, 1, 0⟩) (by simp [hRL]) d24 (by intro y hy e1 e2; simp [hRL] at hy; rcases hy with rfl | rfl | rfl | rfl | rfl | rfl <;> first | exact hD | (exfalso; simp at e1; done) | (exfalso; simp at e2; done) | fail)
          have hg2 : X 24 = .pointer (some ⟨g, 0, none⟩) := hg
          have hbk : blkOf (X 24) = some g := by rw [hg2]; rfl
          refine stepO_store (by simp [Region.wanted]) A8T (.tmp 11) (.tmp 102) rfl g CS2 hg2 a22 A8T z16 hgb HI2.out HSz.out.symm HOc.out rfl (X 24) (fun h1 h2 => hK _ _ ⟨?_, fun _ => by rw [updV_at, updV_ne X 25 _ (by decide)]⟩)
          exact hI.onto hKB hSB 25 24 (X 24) ⟨cellsP w9.heap.size A8T CS2, 1, 1⟩ ⟨cellsP w9.heap.size A8T z16, 1, 0⟩ (by simp [hRL]) (by simp [hRL]) rfl d24 (by rw [hbk]; exact h2) (.inl rfl) (by intro y hy e1 e2; simp [hRL] at hy; rcases hy with rfl | rfl | rfl | rfl | rfl | rfl <;> first | (exfalso; simp at e2; done) | (refine .inl ?_; simp; done) | (exfalso; simp at e1; done) | fail) ⟨g, hg2, hgw, h1⟩ (by simp [hTL]) (by intro x hx e; simp [hCL] at hx; rcases hx with rfl | rfl | rfl | rfl | rfl | rfl | rfl <;> first | (exfalso; simp at e; done) | exact d24 | fail)
        exact True.intro
      · rintro D X W hD ⟨hI, hE⟩
        obtain ⟨g, hg, hgw, hgb⟩ := hI.rows (25, ⟨cellsP w9.heap.size A8T CS2, 1, 1⟩) (by simp [hRL]) (hD 25 (by decide)) (by intro y hy e1 e2; simp [hRL] at hy; rcases hy with rfl | rfl | rfl | rfl | rfl | rfl <;> first | (exfalso; simp at e1; done) | (exfalso; simp at e2; done) | fail)
        have a22 := hI.dt (22, .agg CS2) (by simp [hTL]) (hD 22 (by decide))
        have a23 := hI.dt (23, .int .i64 0) (by simp [hTL]) (hD 23 (by decide))
        have hg2 : X 24 = .pointer (some ⟨g, 0, none⟩) := (hE (hD 25 (by decide))).symm.trans hg
        have a22b : X 22 = .agg CS2 := a22
        have a23b : X 23 = .int .i64 0 := a23
        have HB9 := Lib.hid (HB5.out.trans (hI.b.mono HB5.out.size))
        have HM9 := Lib.hid (HM5.out.later hI.b)
        have HP9 := Lib.hid (HP5.out.later hI.b)
        have HgB := Lib.hid hgb
        have HgW := Lib.hid hgw
        have HWs := Lib.hid hI.b
        clear hI hE hD hgb hgw hg a22 a23
        rw [hg2, a22b, a23b]
        simp only [List.drop_succ_cons, List.drop_zero]
        have hs := HWs.out
        have HgN : Hid (Blo W g A8T CS2) := HgB.out
        have HM10 := Lib.hid (HM5.out.later hs)
        have HP10 := Lib.hid (HP5.out.later hs)
        have HB10 := Lib.hid (HB5.out.trans (hs.mono HB5.out.size))
        clear hs HB9 HM9 HP9 HWs
        clear HgB HgW
        generalize W = w10 at *
        go_wp2_with fail
        have K1 : Hid (∀ W, (∃ x : Kept w10, W = x.at_) → W.heap[g]? = some (.cells CS2 A8T (0, 0))) := fun W ⟨x, hx⟩ => by rw [hx]; exact HgN.out.later x.below
        have K2 : Hid (∀ W, (∃ x : Kept w10, W = x.at_) → W.heap[w.heap.size]? = some (.cells CS2 A8T (0, 0))) := fun W ⟨x, hx⟩ => by rw [hx]; exact HM10.out.later x.below
        have v0 : ∀ x : Kept w10, x.at_.cell? ⟨g, n * 2, none⟩ = some (.int .i64 ma) := fun x => ((HgN.out.later x.below).cell (n * 2)).trans HAt.out.1
        have v1 : ∀ x : Kept w10, x.at_.cell? ⟨g, n * 2 + 1, none⟩ = some (.int .i64 mv) := fun x => ((HgN.out.later x.below).cell (n * 2 + 1)).trans HAt.out.2
        have v2 : ∀ x : Kept w10, x.at_.cell? ⟨w.heap.size + 1, 0, none⟩ = some (.int .i64 ma) := fun x => ((HP10.out.later x.below).cell 0).trans rfl
        have v3 : ∀ x : Kept w10, x.at_.cell? ⟨w.heap.size + 1, 1, none⟩ = some (.int .i64 mv) := fun x => ((HP10.out.later x.below).cell 1).trans rfl
        have heq := HEq.out
        have hem := HEqM.out
        refine wp_region_kept (by kernel_rfl) (by kernel_rfl) ?_
        repeat (go_big_quiet_step (fail))
        go_big_quiet_want
        refine quiet_row A8T (.tmp 11) rfl g rfl A8T CS2 (0, 0) _ K1.out hu rfl HI2.out ?_
        simp only [Act.put, List.setIfInBounds_toArray, List.set_cons_succ, List.set_cons_zero]
        go_big_quiet_on
        go_big_quiet_want
        refine quiet_row A8T (.tmp 3) rfl w.heap.size rfl A8T CS2 (0, 0) _ K2.out hu rfl HI2.out ?_
        simp only [Act.put, List.setIfInBounds_toArray, List.set_cons_succ, List.set_cons_zero]
        go_big_quiet_on
        repeat (go_big_quiet_step (fail))
        refine wpQuiet_nil ?_
        rintro W ⟨wx, rfl⟩
        go_wp2_with fail
        go_ret
        exact ⟨rfl, HB10.out.trans (wx.below.mono HB10.out.size)⟩
    · clear g1 g4 g5 r1
      go_wp2
      go_ret
      exact ⟨rfl, HB4.out⟩
  · rcases HR4.out with ⟨r1, rfl, rfl, r4, r5⟩ | ⟨r1, rfl, rfl, rfl, rfl⟩
    · clear g1 r1 r4 r5
      go_wp2
      go_ret
      exact ⟨rfl, HB4.out⟩
    · clear g1 r1
      go_wp2
      go_ret
      exact ⟨rfl, HB4.out⟩
end Go.Proofs.Ytagigeacjendiaa
