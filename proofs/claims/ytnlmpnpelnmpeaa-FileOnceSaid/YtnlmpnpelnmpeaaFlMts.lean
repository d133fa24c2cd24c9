/-
  The walk of Metas: the blocks of pointers that cover a stretch of data.
-/
import Derived.Test.YtnlmpnpelnmpeaaFlTo
namespace Go.Proofs.Ytnlmpnpelnmpeaa
open Go.RowKit

/-- What one level has of the blocks of pointers that begin with one data block. -/
def levM (fr tt F lv : Int) : List Int := if startsB F lv = true ∧ fr < F + spanM lv ∧ fr < tt then [numM F lv] else []
/-- What the j greatest levels have. -/
def downM (fr tt F : Int) : Nat → List Int
  | 0 => []
  | j + 1 => downM fr tt F j ++ levM fr tt F (3 - (j : Int))
/-- What the first k data blocks have. -/
def mtsM (fr tt : Int) : Nat → List Int
  | 0 => []
  | k + 1 => mtsM fr tt k ++ downM fr tt (k : Int) 3
theorem levM_len (fr tt F lv : Int) : (levM fr tt F lv).length ≤ 1 := by unfold levM; split <;> simp
theorem downM_len (fr tt F : Int) : ∀ j, (downM fr tt F j).length ≤ j
  | 0 => by simp [downM]
  | j + 1 => by
    have := downM_len fr tt F j
    have := levM_len fr tt F (3 - (j : Int))
    simp only [downM, List.length_append]; omega
theorem mtsM_len (fr tt : Int) : ∀ k, (mtsM fr tt k).length ≤ 3 * k
  | 0 => by simp [mtsM]
  | k + 1 => by
    have := mtsM_len fr tt k
    have := downM_len fr tt (k : Int) 3
    simp only [mtsM, List.length_append]; omega
set_option maxHeartbeats 400000 in
theorem metas_bad (fr tt : Int) (w : World) (h : fr < 0 ∨ tt < fr ∨ 600 < tt) :
    Calls Try.prog 29 #[.int .i64 fr, .int .i64 tt] w fun e w' => e = .returned (.tuple #[.slice none 0 0, .int .i64 22]) ∧ w = w' := by
  by_cases h0 : fr < 0
  · clear h
    go_enter Try.func29, Try.ntmps29
    go_wp2
    go_ret2
    exact ⟨rfl, rfl⟩
  · by_cases h1 : tt < fr
    · clear h
      go_enter Try.func29, Try.ntmps29
      go_wp2
      go_ret2
      exact ⟨rfl, rfl⟩
    · have h2 : 600 < tt := by omega
      clear h
      go_enter Try.func29, Try.ntmps29
      go_wp2
      go_ret2
      exact ⟨rfl, rfl⟩
/-- A slice of the call's own that holds so many integers. -/
def OwnL (w : World) (base : Nat) (v : Value) (l : List Int) : Prop := w.ownsRow base 3 1 v l.length (cellsI l)
def MetasOut (w : World) (l : List Int) (e : Ending) (w' : World) : Prop := ∃ v, e = .returned (.tuple #[v, .int .i64 0]) ∧ OwnL w' w.heap.size v l ∧ Below w.heap.size w w'
def InRel (w : World) (fr tt F : Int) (pre : List Int) (t v : Value) (wr : World) : Prop :=
  ∃ lv : Nat, lv ≤ 3 ∧ t = .int .i64 lv ∧ OwnL wr w.heap.size v (pre ++ downM fr tt F (3 - lv)) ∧ Below w.heap.size w wr
def OutRel (w : World) (fr tt : Int) (t v : Value) (wr : World) : Prop :=
  ∃ k : Nat, (k : Int) ≤ tt ∧ t = .int .i64 k ∧ OwnL wr w.heap.size v (mtsM fr tt k) ∧ Below w.heap.size w wr
set_option maxRecDepth 20000 in
set_option maxHeartbeats 2000000 in
theorem metas_good (fr tt : Int) (w : World) (h0 : 0 ≤ fr) (h1 : fr ≤ tt) (h2 : tt ≤ 600) :
    Calls Try.prog 29 #[.int .i64 fr, .int .i64 tt] w (MetasOut w (mtsM fr tt tt.toNat)) := by
  have HB0 : Hid (Below w.heap.size w w) := Below.refl _ _
  go_enter Try.func29, Try.ntmps29
  go_wp2
  go_loopw [7, 6] (fun t v wr => OutRel w fr tt t v wr) (fun t _ _ => 600 - (intOf t).toNat)
  case atStart => exact ⟨0, by omega, rfl, ⟨rfl, .inl ⟨rfl, rfl⟩⟩, Below.refl _ _⟩
  case round =>
    obtain ⟨k, hk, rfl, hown, hbel⟩ := hrel
    have HO := Lib.hid hown
    have HB := Lib.hid hbel
    have hlen := mtsM_len fr tt k
    have HLn : Hid ((mtsM fr tt k).length ≤ 3 * k) := hlen
    clear hown hbel hlen
    obtain ⟨wo, rfl⟩ : ∃ wo : World, wo = wr := ⟨_, rfl⟩
    by_cases hlt : (k : Int) < tt
    · go_wp2_with fail
      go_loopw [8, 6] (fun t v wr => InRel w fr tt k (mtsM fr tt k) t v wr) (fun t _ _ => (intOf t).toNat)
      case atStart => exact ⟨3, by omega, rfl, by simpa [downM] using HO.out, HB.out⟩
      case round =>
        obtain ⟨lv, hlv, rfl, hown, hbel⟩ := hrel
        have HO2 := Lib.hid hown
        have HB2 := Lib.hid hbel
        clear hown hbel
        rcases lv with _ | lv
        · go_wp2_with fail
          go_roundw
          case rel => exact ⟨k + 1, by omega, by go_num, by simpa [mtsM] using HO2.out, HB2.out⟩
          case measure => simp [intOf] <;> omega
        · have hsp := spanM_bd ((lv : Int) + 1)
          have HSt : Hid (∀ W, Calls Try.prog 48 #[.agg #[.int .i64 k, .int .i64 ((lv : Int) + 1)]] W fun e w' => e = .returned (.bool (startsB k ((lv : Int) + 1))) ∧ Below W.heap.size W w') := fun W => starts_any k ((lv : Int) + 1) W (by omega)
          have HSp : Hid (∀ W, Calls Try.prog 49 #[.int .i64 ((lv : Int) + 1)] W fun e w' => e = .returned (.int .i64 (spanM ((lv : Int) + 1))) ∧ W = w') := fun W => span_any ((lv : Int) + 1) W (by omega) (by omega)
          have HN : Hid (∀ W, Calls Try.prog 50 #[.agg #[.int .i64 k, .int .i64 ((lv : Int) + 1)]] W fun e w' => e = .returned (.int .i64 (numM k ((lv : Int) + 1))) ∧ Below W.heap.size W w') := fun W => number_any k ((lv : Int) + 1) W (by omega) (by omega) (by omega) (by omega)
          have hdown : Hid (downM fr tt k (3 - lv) = downM fr tt k (3 - (lv + 1)) ++ levM fr tt k ((lv : Int) + 1)) := by
            show _ = _
            have e : 3 - lv = (3 - (lv + 1)) + 1 := by omega
            rw [e]
            show _ ++ levM fr tt k (3 - ((3 - (lv + 1) : Nat) : Int)) = _
            rw [show (3 - ((3 - (lv + 1) : Nat) : Int)) = (lv : Int) + 1 by omega]
          have hlev : Hid (levM fr tt k ((lv : Int) + 1) = if startsB k ((lv : Int) + 1) = true ∧ fr < k + spanM ((lv : Int) + 1) ∧ fr < tt then [numM k ((lv : Int) + 1)] else []) := rfl
          have hlen : (mtsM fr tt k ++ downM fr tt k (3 - (lv + 1))).length ≤ 3 * k + 3 := by
            have := downM_len fr tt k (3 - (lv + 1))
            have := HLn.out
            simp only [List.length_append]; omega
          generalize levM fr tt k ((lv : Int) + 1) = new at *
          generalize hsb : startsB k ((lv : Int) + 1) = sb at *
          clear hsb
          generalize spanM ((lv : Int) + 1) = S at *
          generalize numM k ((lv : Int) + 1) = N at *
          generalize hcur : mtsM fr tt k ++ downM fr tt k (3 - (lv + 1)) = cur at *
          have HC := Lib.hid hcur
          clear hcur
          have G := Lib.hid (blo_laid wr 108 #[.int .i64 k, .int .i64 ((lv : Int) + 1)])
          have HB3 : Hid (Below w.heap.size w (wr.alloc (.cells #[.int .i64 k, .int .i64 ((lv : Int) + 1)] 108))) := HB2.out.alloc HB2.out.size _
          have HO3 := Lib.hid (HO2.out.alloc (.cells #[.int .i64 k, .int .i64 ((lv : Int) + 1)] 108))
          have hsz2 := HB2.out.size
          go_wp2_with fail
          refine (HSt.out _).mono ?_
          rintro e w1 ⟨rfl, hb1⟩
          have G1 := Lib.hid (G.out.later hb1)
          have HB4 : Hid (Below w.heap.size w w1) := HB3.out.trans (hb1.mono HB3.out.size)
          have HO4 := Lib.hid (own_later HO3.out hb1)
          have hz1 : wr.heap.size < w1.heap.size := G1.out.lt
          clear hb1 G HB3 HO3 HSt HO2 HB2
          by_cases hyes : sb = true ∧ fr < (k : Int) + S ∧ fr < tt
          · have hnew : Hid (new = [N]) := by show _ = _; rw [hlev.out, if_pos hyes]
            obtain ⟨hs1, hs2, hs3⟩ := hyes
            subst hs1
            have b0 := G1.out.cell 0
            have b1 := G1.out.cell 1
            simp at b0 b1
            go_wp2_with fail
            refine (HSp.out _).mono ?_
            rintro e w2 ⟨rfl, rfl⟩
            go_wp2_with fail
            refine (HN.out _).mono ?_
            rintro e w2 ⟨rfl, hb2⟩
            have HB5 : Hid (Below w.heap.size w w2) := HB4.out.trans (hb2.mono HB4.out.size)
            have HO5 := Lib.hid (own_later HO4.out hb2)
            have hz2 := HB5.out.size
            clear hb2 b0 b1 G1
            go_wp2_with (at_builtin; refine wp_append_int rfl (.tmp 48) (.tmp 51) 22 rfl w.heap.size 3 Try.underlying22 info_int _ cur.length cur rfl (HO5.out.alloc _) _ N rfl (by simp) (by omega) (by simp <;> omega) ?_; intro g2 cap2 w6 hown hgrow hat hlt1; have HO6 := Lib.hid hown; have HB6 : Hid (Below w.heap.size w w6) := ((HB5.out.alloc HB5.out.size _).grown hgrow (by simp <;> omega) (fun q hq => (HO5.out.lt q hq).1)); clear hown hgrow hat)
            go_roundw
            case rel =>
              refine ⟨lv, by omega, by go_num, ?_, HB6.out⟩
              have e := HO6.out
              unfold OwnL
              rw [hdown.out, ← List.append_assoc, HC.out, hnew.out, show (cur ++ [N]).length = cur.length + 1 by simp]
              exact e
            case measure => simp [intOf] <;> omega
          · have hnew : Hid (new = []) := by show _ = _; rw [hlev.out, if_neg hyes]
            have hfin : InRel w fr tt k (mtsM fr tt k) (.int .i64 lv) u6 w1 := by
              refine ⟨lv, by omega, rfl, ?_, HB4.out⟩
              rw [hdown.out, ← List.append_assoc, HC.out, hnew.out, List.append_nil]
              exact HO4.out
            have HFin := Lib.hid hfin
            clear hfin
            cases sb
            · go_wp2_with fail
              go_roundw
              case rel => exact HFin.out
              case measure => simp [intOf] <;> omega
            · by_cases hs2 : fr < (k : Int) + S
              · have hs3 : ¬ fr < tt := fun e => hyes ⟨rfl, hs2, e⟩
                clear hyes
                go_wp2_with fail
                refine (HSp.out _).mono ?_
                rintro e w2 ⟨rfl, rfl⟩
                go_wp2_with fail
                go_roundw
                case rel => exact HFin.out
                case measure => simp [intOf] <;> omega
              · clear hyes
                go_wp2_with fail
                refine (HSp.out _).mono ?_
                rintro e w2 ⟨rfl, rfl⟩
                go_wp2_with fail
                go_roundw
                case rel => exact HFin.out
                case measure => simp [intOf] <;> omega
    · obtain rfl : (k : Int) = tt := by omega
      go_wp2_with fail
      go_ret2
      exact ⟨u6, rfl, by simpa using HO.out, HB.out⟩
end Go.Proofs.Ytnlmpnpelnmpeaa
