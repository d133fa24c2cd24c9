/-
  The document's disk: Crash.
-/
import Derived.Test.YtmkhliabmodbdaaDrBar
import Derived.Test.YtmkhliabmodbdaaDkCrash
namespace Go.Proofs.Ytmkhliabmodbdaa
open Go.RowKit

theorem strOf_append (l m : List Nat) : strOf l ++ strOf m = strOf (l ++ m) := by
  apply ByteArray.ext
  apply Array.toList_inj.1
  rw [strOf_toList]
  have h1 := strOf_toList l
  have h2 := strOf_toList m
  simp only [ByteArray.data_append, Array.toList_append, h1, h2, List.map_append]
theorem strOf_extract (l : List Nat) (a b : Nat) : (strOf l).extract a b = strOf ((l.drop a).take (b - a)) := by
  apply ByteArray.ext
  apply Array.toList_inj.1
  have h1 := strOf_toList l
  rw [strOf_toList]
  simp [ByteArray.data_extract, h1, List.map_take, List.map_drop]
theorem strOf_size (l : List Nat) : (strOf l).size = l.length := by
  show (strOf l).data.size = l.length
  rw [← Array.length_toList, strOf_toList, List.length_map]
def part (X : List Nat) (i : Nat) : List Nat := (X.drop (16 * i)).take 16
theorem part_ext {X Y : List Nat} {i : Nat} (hi : i < 4) (hX : X.length = 64) (hY : Y.length = 64) (h : ∀ j, j < 64 → j / 16 = i → X.getD j 0 = Y.getD j 0) : part X i = part Y i := by
  apply List.ext_getElem?
  intro j
  unfold part
  by_cases c : j < 16
  · rw [List.getElem?_take_of_lt c, List.getElem?_take_of_lt c, List.getElem?_drop, List.getElem?_drop]
    have := h (16 * i + j) (by omega) (by omega)
    rw [List.getD_eq_getElem?_getD, List.getD_eq_getElem?_getD, List.getElem?_eq_getElem (by omega), List.getElem?_eq_getElem (by omega)] at this
    rw [List.getElem?_eq_getElem (by omega), List.getElem?_eq_getElem (by omega)]
    simpa using this
  · rw [List.getElem?_eq_none (by simp; omega), List.getElem?_eq_none (by simp; omega)]
theorem pre_part (X : List Nat) (i : Nat) : X.take (16 * i) ++ part X i = X.take (16 * (i + 1)) := by
  rw [part, show 16 * (i + 1) = 16 * i + 16 by omega, List.take_add]
/-- What a round makes of a block. -/
def crB (kept torn : Bool) (sec : Int) (cur b : List Nat) : List Nat := if kept = true then b else if torn = true then tearK 4 cur b sec else cur
theorem crB_length {kept torn : Bool} {sec : Int} {cur b : List Nat} (h1 : cur.length = 64) (h2 : b.length = 64) : (crB kept torn sec cur b).length = 64 := by
  unfold crB; split
  · exact h2
  · split
    · exact L64_length _
    · exact h1
theorem crB_byte {kept torn : Bool} {sec : Int} {cur b : List Nat} (h1 : ∀ x ∈ cur, x < 256) (h2 : ∀ x ∈ b, x < 256) : ∀ x ∈ crB kept torn sec cur b, x < 256 := by
  unfold crB; split
  · exact h2
  · split
    · exact tearK_byte 4 sec h1 h2
    · exact h1
theorem updB_self (F : Nat → List Nat) (i : Nat) : updB F i (F i) = F := by funext j; unfold updB; split <;> simp_all
theorem crK_succ (S : Nat → List Nat) (Q : List (Nat × List Nat)) (keep : List Bool) (torn sec : Int) (k : Nat) (h : k < Q.length) :
    crK S Q keep torn sec (k + 1) = updB (crK S Q keep torn sec k) Q[k].1 (crB (keep.getD k false) (decide ((k : Int) = torn)) sec (crK S Q keep torn sec k Q[k].1) Q[k].2) := by
  have e : Q.getD k (0, []) = Q[k] := by rw [List.getD_eq_getElem?_getD, List.getElem?_eq_getElem h]; rfl
  rw [crK, e, crB]
  by_cases c : keep.getD k false = true
  · rw [if_pos c, if_pos c]
  · rw [if_neg c, if_neg c]
    by_cases t : (k : Int) = torn
    · rw [if_pos t, if_pos (decide_eq_true t)]
    · rw [if_neg t, if_neg (by simpa using t), updB_self]
theorem crK_good (S : Nat → List Nat) (Q : List (Nat × List Nat)) (keep : List Bool) (torn sec : Int) {n : Nat} (hg : ∀ p ∈ Q, GoodW n p) (h1 : ∀ i, (S i).length = 64) (h2 : ∀ i, ∀ x ∈ S i, x < 256) :
    ∀ k, k ≤ Q.length → (∀ i, (crK S Q keep torn sec k i).length = 64) ∧ (∀ i, ∀ x ∈ crK S Q keep torn sec k i, x < 256)
  | 0, _ => ⟨h1, h2⟩
  | k + 1, hk => by
    obtain ⟨i1, i2⟩ := crK_good S Q keep torn sec hg h1 h2 k (by omega)
    have g := hg Q[k] (List.getElem_mem _)
    rw [crK_succ S Q keep torn sec k hk]
    refine ⟨fun i => ?_, fun i => ?_⟩
    · by_cases e : i = Q[k].1
      · rw [e, updB_at]; exact crB_length (i1 _) g.2.1
      · rw [updB_ne _ _ e]; exact i1 i
    · by_cases e : i = Q[k].1
      · rw [e, updB_at]; exact crB_byte (i2 _) g.2.2
      · rw [updB_ne _ _ e]; exact i2 i
theorem crB_part_kept (torn : Bool) (sec : Int) (cur b : List Nat) : crB true torn sec cur b = b := by simp [crB]
theorem crB_part_bit (sec : Int) (cur b : List Nat) (i : Nat) (hi : i < 4) (hb : b.length = 64) (hbit : bitS sec i = true) : part b i = part (crB false true sec cur b) i := by
  have e : crB false true sec cur b = tearK 4 cur b sec := by simp [crB]
  rw [e]
  refine part_ext hi hb (L64_length _) (fun j hj hji => ?_)
  rw [tearK, L64_get _ _ hj, if_pos ⟨by omega, by rw [hji]; exact hbit⟩]
theorem crB_part_no (sec : Int) (cur b : List Nat) (i : Nat) (hi : i < 4) (hc : cur.length = 64) (hbit : bitS sec i = false) : part cur i = part (crB false true sec cur b) i := by
  have e : crB false true sec cur b = tearK 4 cur b sec := by simp [crB]
  rw [e]
  refine part_ext hi hc (L64_length _) (fun j hj hji => ?_)
  rw [tearK, L64_get _ _ hj, if_neg (by rw [hji, hbit]; simp)]
theorem crB_part_off (sec : Int) (cur b : List Nat) : crB false false sec cur b = cur := by simp [crB]
theorem tmod_two (x : Int) : (x.tmod 2 != 0) = decide (x % 2 = 1) := by
  have h : x.tmod 2 = 0 ∧ x % 2 = 0 ∨ (x.tmod 2 = 1 ∨ x.tmod 2 = -1) ∧ x % 2 = 1 := by
    rcases Int.le_total 0 x with c | c
    · rw [Int.tmod_eq_emod_of_nonneg c]; omega
    · obtain ⟨y, rfl⟩ : ∃ y, x = -y := ⟨-x, by omega⟩
      rw [Int.neg_tmod, Int.tmod_eq_emod_of_nonneg (by omega)]; omega
  rcases h with ⟨h1, h2⟩ | ⟨h1 | h1, h2⟩ <;> rw [h1, h2] <;> rfl
theorem cut_text (X : List Nat) (hX : X.length = 64) (j : Nat) (hj : j < 4) (W : World) : (Instr.sliceAt STR (.string (strOf X)) (some (.int .i64 (16 * (j : Int)))) (some (.int .i64 (16 * (j : Int) + 16))) none).run Try.prog W = .ok (.string (strOf (part X j))) W := by
  rw [run_sliceAt_string _ _ _ _ _ _ Try.underlying9, run_slice_string _ _ _ _ _ _ _ Try.underlying9 (by omega) (by omega) (by rw [strOf_size, hX]; omega), strOf_extract, part]
  rw [show (16 * (j : Int)).toNat = 16 * j by omega, show (16 * (j : Int) + 16).toNat - 16 * j = 16 by omega]
theorem str_step (X Y : List Nat) (j : Nat) (h : part X j = part Y j) : strOf (Y.take (16 * j)) ++ strOf (part X j) = strOf (Y.take (16 * (j + 1))) := by
  rw [h, strOf_append, pre_part]
theorem str_room (X Y : List Nat) (j : Nat) (hj : j < 4) : ¬ 9223372036854775807 < (strOf (Y.take (16 * j))).size + (strOf (part X j)).size := by
  rw [strOf_size, strOf_size, List.length_take, part, List.length_take]; omega
def RcR (w : World) (g c n : Nat) (F : Nat → (Nat → List Nat)) (M : Nat) (bx cx : Array Value) (t : Value) (wr : World) : Prop :=
  ∃ k : Nat, k ≤ M ∧ t = .int .i64 k ∧ Tx wr g n (F k) ∧ Blo wr w.heap.size RDT bx ∧ Blo wr (w.heap.size + 1) RDT #[.slice none 0 0, .slice none 0 0, .int .i64 0, .int .i64 0] ∧ Blo wr c RDT cx ∧ Below w.heap.size w wr
def RcO (w : World) (n : Nat) (F : Nat → List Nat) (e : Ending) (w' : World) : Prop :=
  ∃ g c5, e = .returned (.agg #[.slice (some ⟨g, 0, none⟩) n c5, .slice none 0 0, .int .i64 0, .int .i64 (-1)]) ∧ Tx w' g n F ∧ Below w.heap.size w w'
set_option maxRecDepth 100000 in
set_option maxHeartbeats 4000000 in
theorem rcrash_any (sa qa ka : Option Addr) (n sc m qc kn kc : Nat) (st lf : Int) (S : Nat → List Nat) (Q : List (Nat × List Nat)) (keep : List Bool) (torn sec : Int) (hn1 : 0 < n) (hn2 : n ≤ 5000) (w : World)
    (hm : m = Q.length) (hQ : Rds w qa (cells2 Q)) (hS : Rds w sa (cellsS S n)) (hnone : sa = none → n = 0 ∧ sc = 0) (hgood : ∀ p ∈ Q, GoodW n p) (hlen : ∀ i, (S i).length = 64) (hbyte : ∀ i, ∀ x ∈ S i, x < 256) (hroom : m ≤ 100000)
    (hkn : kn = keep.length) (hkm : kn ≤ 9223372036854775807) (hK : Bools w ka keep) :
    Calls Try.prog 20 #[.agg #[.slice sa n sc, .slice qa m qc, .int .i64 st, .int .i64 lf], .slice ka kn kc, .int .i64 torn, .int .i64 sec] w (RcO w n (crK S Q keep torn sec Q.length)) := by
  have HQ := Lib.hid hQ
  have HSs := Lib.hid hS
  have HM := Lib.hid hm
  have HGo := Lib.hid hgood
  have HNn := Lib.hid hnone
  have HKn := Lib.hid hkn
  have HK := Lib.hid hK
  have HCr := Lib.hid (crK_good S Q keep torn sec hgood hlen hbyte)
  have hb2 := dr_two w (.cells #[.slice sa n sc, .slice qa m qc, .int .i64 st, .int .i64 lf] RDT) (.cells #[.slice none 0 0, .slice none 0 0, .int .i64 0, .int .i64 0] RDT)
  have HB4 := Lib.hid hb2
  have HY2 := Lib.hid ((blo_laid w RDT #[.slice sa n sc, .slice qa m qc, .int .i64 st, .int .i64 lf]).alloc (.cells #[.slice none 0 0, .slice none 0 0, .int .i64 0, .int .i64 0] RDT))
  have HW2 : Hid (Blo ((w.alloc (.cells #[.slice sa n sc, .slice qa m qc, .int .i64 st, .int .i64 lf] RDT)).alloc (.cells #[.slice none 0 0, .slice none 0 0, .int .i64 0, .int .i64 0] RDT)) (w.heap.size + 1) RDT #[.slice none 0 0, .slice none 0 0, .int .i64 0, .int .i64 0]) := by
    have h := blo_laid (w.alloc (.cells #[.slice sa n sc, .slice qa m qc, .int .i64 st, .int .i64 lf] RDT)) RDT #[.slice none 0 0, .slice none 0 0, .int .i64 0, .int .i64 0]
    rw [show (w.alloc (.cells #[.slice sa n sc, .slice qa m qc, .int .i64 st, .int .i64 lf] RDT)).heap.size = w.heap.size + 1 by simp] at h
    exact h
  have HS2 := Lib.hid (HSs.out.later hb2)
  clear hb2 hQ hS hm hnone hgood hkn hK hlen hbyte
  go_enter Try.func20, Try.ntmps20
  go_upto_region 1 with (fail)
  have hlt := HW2.out.lt
  generalize ((w.alloc (.cells #[.slice sa n sc, .slice qa m qc, .int .i64 st, .int .i64 lf] RDT)).alloc (.cells #[.slice none 0 0, .slice none 0 0, .int .i64 0, .int .i64 0] RDT)) = w2 at *
  have hal : Below w2.heap.size w2 (w2.alloc (.cells #[] STR)) := (Below.refl _ _).alloc (Nat.le_refl _) _
  have y0b := (HY2.out.later hal).cell 0
  simp at y0b
  go_upto_region 2 with ((at_builtin; refine wp_append_row rfl (.tmp 15) (.tmp 17) 28 rfl w2.heap.size STR (.string ByteArray.empty) 1 16 Try.underlying28 info_str rfl (by decide) (by decide) _ 0 [] rfl (World.ownsRow_lit w2 #[] 0 (Nat.le_refl _) (by unfold maxLen; omega) rfl) sa n sc (cellsS S n) rfl (by simp [cellsS]) (HS2.out.later hal).add (cellsS_one S n) HNn.out (by omega) (by simp) ?_; intro a5 c5 w3 hown hgrow; rw [Nat.zero_add, List.nil_append] at hown; rw [Nat.zero_add]; have HB5 := Lib.hid (hal.grown hgrow (by simp) (fun q hq => by cases hq; exact Nat.le_refl _)); obtain ⟨g, rfl, hg, htx⟩ := tx_own hn1 hown; have HTx := Lib.hid htx; have HG := Lib.hid hg; have HY7 := Lib.hid (HY2.out.later HB5.out); have HW7 := Lib.hid (HW2.out.later HB5.out); clear hown hgrow htx hg y0b))
  clear hal
  have HC9 := Lib.hid (blo_laid w3 RDT #[.slice (some ⟨g, 0, none⟩) n c5, .slice none 0 0, .int .i64 0, .int .i64 (-1)])
  have hb3 : Below w3.heap.size w3 (w3.alloc (.cells #[.slice (some ⟨g, 0, none⟩) n c5, .slice none 0 0, .int .i64 0, .int .i64 (-1)] RDT)) := (Below.refl _ _).alloc (Nat.le_refl _) _
  have HT9 := Lib.hid (HTx.out.later hb3)
  have HY9 := Lib.hid (HY7.out.later hb3)
  have HW9 := Lib.hid (HW7.out.later hb3)
  have HB9 := Lib.hid ((HB4.out.trans (HB5.out.mono HB4.out.size)).trans (hb3.mono (Nat.le_trans HB4.out.size HB5.out.size)))
  have HGn : Hid (w.heap.size + 1 < g ∧ g < w3.heap.size) := by
    obtain ⟨cur, h1, h2⟩ := HTx.out
    exact ⟨by have := HG.out; omega, h1.lt⟩
  generalize w3.heap.size = c at *
  generalize (w3.alloc (.cells #[.slice (some ⟨g, 0, none⟩) n c5, .slice none 0 0, .int .i64 0, .int .i64 (-1)] RDT)) = w4 at *
  clear hb3 HTx HG HY7 HW7 HB5 HB4 HW2 HY2 HS2 hlt
  have y1 := HY9.out.cell 1
  simp at y1
  have HSt : Hid (RcR w g c n (crK S Q keep torn sec) Q.length #[.slice sa n sc, .slice qa m qc, .int .i64 st, .int .i64 lf] #[.slice (some ⟨g, 0, none⟩) n c5, .slice none 0 0, .int .i64 0, .int .i64 (-1)] (.int .i64 0) w4) :=
    ⟨0, Nat.zero_le _, rfl, HT9.out, HY9.out, HW9.out, HC9.out, HB9.out⟩
  go_wp2_with fail
  clear y1 HT9 HY9 HW9 HC9 HB9
  go_loopw [23] (fun t wr => RcR w g c n (crK S Q keep torn sec) Q.length #[.slice sa n sc, .slice qa m qc, .int .i64 st, .int .i64 lf] #[.slice (some ⟨g, 0, none⟩) n c5, .slice none 0 0, .int .i64 0, .int .i64 (-1)] t wr) (fun t _ => m - (intOf t).toNat)
  case atStart => exact HSt.out
  case round =>
    clear HSt
    obtain ⟨k, hk, rfl, hT, hX, hZ, hC, hB⟩ := hrel
    have HT := Lib.hid hT
    have HX := Lib.hid hX
    have HZ := Lib.hid hZ
    have HC := Lib.hid hC
    have HB := Lib.hid hB
    clear hT hX hZ hB hC
    have k0 : (0 : Int) ≤ (k : Int) := by omega
    have kb : (k : Int) ≤ 1000000 := by have := HM.out; omega
    by_cases hlt : k < m
    · have hkq : k < Q.length := by rw [← HM.out]; exact hlt
      have k1 : (k : Int) < (m : Int) := by omega
      have HKq : Hid (k < Q.length) := hkq
      have x1 := HX.out.cell 1
      simp at x1
      obtain ⟨qb, qo, hqa, c0⟩ := HQ.out.later HB.out (k * 2) _ (cells2_at Q k hkq).1
      obtain ⟨qb', qo', hqa', c1⟩ := HQ.out.later HB.out (k * 2 + 1) _ (cells2_at Q k hkq).2
      rw [hqa] at hqa'
      cases hqa'
      subst hqa
      have HG1 : Hid (Q[k].1 < n) := (HGo.out Q[k] (List.getElem_mem _)).1
      have HG2 : Hid (Q[k].2.length = 64) := (HGo.out Q[k] (List.getElem_mem _)).2.1
      have HFl := Lib.hid (crK_succ S Q keep torn sec k hkq)
      have HL1 := Lib.hid ((HCr.out k (by omega)).1)
      rw [← Nat.add_assoc] at c1
      generalize Q[k].1 = q1 at *
      generalize Q[k].2 = q2 at *
      go_upto_region 7 with (fail)
      have hb5 : Below wr.heap.size wr (wr.alloc (.cells #[.int .i64 (q1 : Int), .string (strOf q2)] RWT)) := (Below.refl _ _).alloc (Nat.le_refl _) _
      have HV := Lib.hid (blo_laid wr RWT #[.int .i64 (q1 : Int), .string (strOf q2)])
      have HT5 := Lib.hid (HT.out.later hb5)
      have HX5 := Lib.hid (HX.out.later hb5)
      have HZ5 := Lib.hid (HZ.out.later hb5)
      have HC5 := Lib.hid (HC.out.later hb5)
      have HB5 := Lib.hid (HB.out.trans (hb5.mono HB.out.size))
      generalize wr.heap.size = gx at *
      generalize (wr.alloc (.cells #[.int .i64 (q1 : Int), .string (strOf q2)] RWT)) = w5 at *
      clear hb5 HT HX HZ HC HB x1 c0 c1
      obtain ⟨cur, hcur⟩ : ∃ cur, crK S Q keep torn sec k q1 = cur := ⟨_, rfl⟩
      have HCl : Hid (cur.length = 64) := by show cur.length = 64; rw [← hcur]; exact HL1.out q1
      have hqn : q1 < n := HG1.out
      have t0 := (HT5.out.cell hqn).1
      have t1 := (HT5.out.cell hqn).2
      rw [hcur] at HFl t0
      obtain ⟨Y, hY⟩ : ∃ Y, crB (keep.getD k false) (decide ((k : Int) = torn)) sec cur q2 = Y := ⟨_, rfl⟩
      rw [hY] at HFl
      have v0 := HV.out.cell 0
      have v1 := HV.out.cell 1
      have d0 := HC5.out.cell 0
      simp at v0 v1 d0
      have j0 : (0 : Int) ≤ (q1 : Int) := by omega
      have j1 : (q1 : Int) < (n : Int) := by omega
      have HYd := Lib.hid hY
      have HCu := Lib.hid hcur
      clear hY hcur hkq
      go_wp2_with fail
      clear t0 t1 v0 v1 d0
      go_loop [12, 13] (fun s i => ∃ j : Nat, j ≤ 4 ∧ i = .int .i64 j ∧ s = .string (strOf (Y.take (16 * j)))) (fun _ i => 4 - (intOf i).toNat)
      case atStart => exact ⟨0, by omega, rfl, by simp; rfl⟩
      case round =>
        obtain ⟨j, hj, rfl, rfl⟩ := hrel
        have t0 := (HT5.out.cell hqn).1
        rw [HCu.out] at t0
        have t1 := (HT5.out.cell hqn).2
        have v0 := HV.out.cell 0
        have v1 := HV.out.cell 1
        have d0 := HC5.out.cell 0
        simp at v0 v1 d0
        have i0 : (0 : Int) ≤ (j : Int) := by omega
        by_cases hj4 : j < 4
        · have i1 : (j : Int) < 4 := by omega
          have hcA := fun W => cut_text cur HCl.out j hj4 W
          have hcB := fun W => cut_text q2 HG2.out j hj4 W
          have hrA := str_room cur Y j hj4
          have hrB := str_room q2 Y j hj4
          by_cases hA : keep.getD k false = true
          · have hkk : k < keep.length := by
              rcases Nat.lt_or_ge k keep.length with h | h
              · exact h
              · rw [List.getD_eq_getElem?_getD, List.getElem?_eq_none h] at hA; cases hA
            have hkk2 : k < kn := by rw [HKn.out]; exact hkk
            obtain ⟨kb, ko, hka, hkc⟩ := (HK.out.below HB5.out) (fun e => by rw [e] at hkk; cases hkk)
            subst hka
            have hkc := hkc k hkk
            rw [hA] at hkc
            have l1 : (k : Int) < (kn : Int) := by omega
            have HAdd := str_step q2 Y j (by rw [← HYd.out, hA, crB_part_kept])
            clear hA hkk hkk2
            go_wp2_with fail
            go_round
            case rel => exact ⟨j + 1, hj4, by simp, rfl⟩
            case measure => simp [intOf]; omega
          · have hAf : keep.getD k false = false := by cases h : keep.getD k false with
              | true => exact absurd h hA
              | false => rfl
            have hkc : k < keep.length → ∃ kb ko, ka = some ⟨kb, ko, none⟩ ∧ w5.cell? ⟨kb, ko + k, none⟩ = some (.bool false) := fun hkk => by
              obtain ⟨kb, ko, ha, hkc⟩ := (HK.out.below HB5.out) (fun e => by rw [e] at hkk; cases hkk)
              exact ⟨kb, ko, ha, by rw [hkc k hkk, hAf]⟩
            have HYf : Hid (crB false (decide ((k : Int) = torn)) sec cur q2 = Y) := by rw [← hAf]; exact HYd.out
            have HKc := Lib.hid hkc
            clear hA hAf hkc
            by_cases hT : (k : Int) = torn
            · have ht : ((k : Int) == torn) = true := by rw [hT]; simp
              have HYt : Hid (crB false true sec cur q2 = Y) := by
                have h := HYf.out
                rw [decide_eq_true hT] at h; exact h
              clear hT
              have hbit := tmod_two (sec / 2 ^ j)
              cases hb : bitS sec j with
              | true =>
                rw [show decide ((sec / 2 ^ j) % 2 = 1) = true from hb] at hbit
                have HAdd := str_step q2 Y j (by rw [← HYt.out]; exact crB_part_bit sec cur q2 j hj4 HG2.out hb)
                clear hb
                by_cases hkk2 : k < kn
                · obtain ⟨kb, ko, hka, hkc⟩ := HKc.out (by rw [← HKn.out]; exact hkk2)
                  subst hka
                  have l1 : (k : Int) < (kn : Int) := by omega
                  go_wp2_with fail
                  go_round
                  case rel => exact ⟨j + 1, hj4, by simp, rfl⟩
                  case measure => simp [intOf]; omega
                · have l1 : ¬ (k : Int) < (kn : Int) := by omega
                  go_wp2_with fail
                  go_round
                  case rel => exact ⟨j + 1, hj4, by simp, rfl⟩
                  case measure => simp [intOf]; omega
              | false =>
                rw [show decide ((sec / 2 ^ j) % 2 = 1) = false from hb] at hbit
                have HAdd := str_step cur Y j (by rw [← HYt.out]; exact crB_part_no sec cur q2 j hj4 HCl.out hb)
                clear hb
                by_cases hkk2 : k < kn
                · obtain ⟨kb, ko, hka, hkc⟩ := HKc.out (by rw [← HKn.out]; exact hkk2)
                  subst hka
                  have l1 : (k : Int) < (kn : Int) := by omega
                  go_wp2_with fail
                  go_round
                  case rel => exact ⟨j + 1, hj4, by simp, rfl⟩
                  case measure => simp [intOf]; omega
                · have l1 : ¬ (k : Int) < (kn : Int) := by omega
                  go_wp2_with fail
                  go_round
                  case rel => exact ⟨j + 1, hj4, by simp, rfl⟩
                  case measure => simp [intOf]; omega
            · have ht : ((k : Int) == torn) = false := by simpa using hT
              have HAdd := str_step cur Y j (by
                have h := HYf.out
                rw [decide_eq_false hT, crB_part_off] at h
                rw [h])
              clear hT
              by_cases hkk2 : k < kn
              · obtain ⟨kb, ko, hka, hkc⟩ := HKc.out (by rw [← HKn.out]; exact hkk2)
                subst hka
                have l1 : (k : Int) < (kn : Int) := by omega
                go_wp2_with fail
                go_round
                case rel => exact ⟨j + 1, hj4, by simp, rfl⟩
                case measure => simp [intOf]; omega
              · have l1 : ¬ (k : Int) < (kn : Int) := by omega
                go_wp2_with fail
                go_round
                case rel => exact ⟨j + 1, hj4, by simp, rfl⟩
                case measure => simp [intOf]; omega
        · have hje : j = 4 := by omega
          subst hje
          have HYl : Hid (Y.take (16 * 4) = Y) := by
            show Y.take (16 * 4) = Y
            rw [List.take_of_length_le]
            rw [← HYd.out, crB_length HCl.out HG2.out]; omega
          rw [HYl.out]
          go_wp2_with fail
          have HT6 : Hid (Tx (w5.setCell ⟨g, q1, none⟩ (.string (strOf Y))) g n (crK S Q keep torn sec (k + 1))) := by
            rw [HFl.out]
            exact HT5.out.put hqn Y
          have hg1 : w.heap.size ≠ g := by have := HGn.out; omega
          have hg2 : w.heap.size + 1 ≠ g := by have := HGn.out; omega
          have hg3 : c ≠ g := by have := HGn.out; omega
          have HX6 := Lib.hid (HX5.out.far (p := ⟨g, q1, none⟩) hg1 (.string (strOf Y)))
          have HZ6 := Lib.hid (HZ5.out.far (p := ⟨g, q1, none⟩) hg2 (.string (strOf Y)))
          have HC6 := Lib.hid (HC5.out.far (p := ⟨g, q1, none⟩) hg3 (.string (strOf Y)))
          have HB6 : Hid (Below w.heap.size w (w5.setCell ⟨g, q1, none⟩ (.string (strOf Y)))) := HB5.out.setCell (p := ⟨g, q1, none⟩) (by have := HGn.out; show w.heap.size ≤ g; omega) _
          clear hg1 hg2 hg3
          go_roundw
          case rel => exact ⟨k + 1, HKq.out, by simp, HT6.out, HX6.out, HZ6.out, HC6.out, HB6.out⟩
          case measure => simp [intOf]; omega
    · have hke : k = Q.length := by have := HM.out; omega
      have k1 : ¬ (k : Int) < (m : Int) := by omega
      have HT2 : Hid (Tx wr g n (crK S Q keep torn sec Q.length)) := by
        have h := HT.out
        rw [hke] at h
        exact h
      have d0 := HC.out.cell 0
      have d1 := HC.out.cell 1
      have d2 := HC.out.cell 2
      have d3 := HC.out.cell 3
      have z0 := HZ.out.cell 0
      have z1 := HZ.out.cell 1
      have z2 := HZ.out.cell 2
      have z3 := HZ.out.cell 3
      have e0 := HZ.out.frozen 0
      have e1 := HZ.out.frozen 1
      have e2 := HZ.out.frozen 2
      have e3 := HZ.out.frozen 3
      simp at d0 d1 d2 d3 z0 z1 z2 z3
      clear hke HT HX HZ HC
      go_wp2
      refine bodyPost_ret (v := .agg #[.slice (some ⟨g, 0, none⟩) n c5, .slice none 0 0, .int .i64 0, .int .i64 (-1)]) ?_ rfl ⟨g, c5, rfl, ?_, ?_⟩
      · simp [results, Try.results20, go_sem, d0, d1, d2, d3, z0, z1, z2, z3]
      · have hg2 : w.heap.size + 1 ≠ g := by have := HGn.out; omega
        exact ((((HT2.out.far (p := ⟨w.heap.size + 1, 0, none⟩) hg2 _).far (p := ⟨w.heap.size + 1, 1, none⟩) hg2 _).far (p := ⟨w.heap.size + 1, 2, none⟩) hg2 _).far (p := ⟨w.heap.size + 1, 3, none⟩) hg2 _)
      · exact dr_four _ _ _ _ _ _ _ HB.out (Nat.le_succ _)
end Go.Proofs.Ytmkhliabmodbdaa
