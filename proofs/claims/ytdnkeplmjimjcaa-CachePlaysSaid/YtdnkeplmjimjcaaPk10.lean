/-
  The document's Dirty.
-/
import Derived.Test.YtdnkeplmjimjcaaPk09
import Derived.BigQuiet
namespace Go.Proofs.Ytdnkeplmjimjcaa
open Go.RowKit

structure DdS (w : World) (room : Int) (a : Option Addr) (n cap : Nat) (v : Value) (k : Nat) (M : List (Int × Int)) (wr : World) : Prop where
  own : wr.ownsRow (w.heap.size + 1) RKT 2 v k (flatP M)
  box : Blo wr w.heap.size RCT #[.int .i64 room, .slice a n cap]
  b : Below w.heap.size w wr
def DdR (w : World) (room : Int) (a : Option Addr) (n cap : Nat) (L : List Bk) (v t : Value) (wr : World) : Prop :=
  ∃ (i : Nat) (qs : List (Int × Int)), i ≤ n ∧ t = .int .i64 (i : Int) ∧ DtK (L.take i) qs ∧ DdS w room a n cap v qs.length qs wr
/-- The key on its way down. -/
def DdI (w : World) (room : Int) (a : Option Addr) (n cap : Nat) (v : Value) (k : Nat) (qs : List (Int × Int)) (x : Int × Int) (t : Value) (wr : World) : Prop :=
  ∃ A B : List (Int × Int), t = .int .i64 (A.length : Int) ∧ A.length < k ∧ InsS A B x ∧ (A ++ x :: B).Perm (qs ++ [x]) ∧ DdS w room a n cap v k (A ++ x :: B) wr
section
variable {w W W' : World} {room : Int} {a : Option Addr} {n cap k : Nat} {v : Value} {M : List (Int × Int)}
theorem DdS.later (h : DdS w room a n cap v k M W) (hb : Below W.heap.size W W') : DdS w room a n cap v k M W' := ⟨own_later h.own hb, h.box.later hb, h.b.trans (hb.mono h.b.size)⟩
/-- Two keys beside one another change places. -/
theorem DdS.swap {g c : Nat} {A B : List (Int × Int)} {x y : Int × Int} (h : DdS w room a n cap (.slice (some ⟨g, 0, none⟩) k c) k (A ++ y :: x :: B) W) :
    DdS w room a n cap (.slice (some ⟨g, 0, none⟩) k c) k (A ++ x :: y :: B) ((((W.setCell ⟨g, (A.length + 1) * 2, none⟩ (.int .i64 y.1)).setCell ⟨g, (A.length + 1) * 2 + 1, none⟩ (.int .i64 y.2)).setCell ⟨g, A.length * 2, none⟩ (.int .i64 x.1)).setCell ⟨g, A.length * 2 + 1, none⟩ (.int .i64 x.2)) := by
  have hl := h.own.1
  rw [flatP_len] at hl
  simp only [List.length_append, List.length_cons] at hl
  have h2 : (flatP [y]).length = 2 := flatP_len [y]
  have h3 : (flatP [x]).length = 2 := flatP_len [x]
  have hg := (own_low h.own (g := g) rfl).1
  have e1 : (A ++ y :: x :: B)[A.length + 1]? = some x := by
    rw [List.getElem?_append_right (by omega), Nat.add_sub_cancel_left]
    rfl
  have o1 := own_cells (off := (A.length + 1) * 2) (vs := flatP [y]) h.own (by omega)
  rw [flatP_set e1] at o1
  have e2 : (A ++ y :: x :: B).set (A.length + 1) y = A ++ y :: y :: B := by
    rw [List.set_append_right _ _ (by omega), Nat.add_sub_cancel_left]
    rfl
  rw [e2] at o1
  have e3 : (A ++ y :: y :: B)[A.length]? = some y := by
    rw [List.getElem?_append_right (by omega), Nat.sub_self]
    rfl
  have o2 := own_cells (off := A.length * 2) (vs := flatP [x]) o1 (by omega)
  rw [flatP_set e3] at o2
  have e4 : (A ++ y :: y :: B).set A.length x = A ++ x :: y :: B := by
    rw [List.set_append_right _ _ (by omega), Nat.sub_self]
    rfl
  rw [e4] at o2
  have q1 := out_own W g ((A.length + 1) * 2) (flatP [y])
  have q2 := out_own (W.setCells g ((A.length + 1) * 2) (flatP [y])) g (A.length * 2) (flatP [x])
  have hs : w.heap.size ≤ (W.setCells g ((A.length + 1) * 2) (flatP [y])).heap.size := Nat.le_trans h.b.size q1.size
  exact ⟨o2, q2.blo (q1.blo h.box (by omega)) (by omega), (h.b.trans (q1.below h.b.size (fun k _ e => by omega))).trans (q2.below hs (fun k _ e => by omega))⟩
end
theorem snoc_or {α : Type} (A : List α) : A = [] ∨ ∃ A' y, A = A' ++ [y] := by
  rcases List.eq_nil_or_concat A with h | ⟨A', y, h⟩
  · exact .inl h
  · exact .inr ⟨A', y, by rw [h, List.concat_eq_append]⟩
theorem dd_some {w W : World} {room : Int} {a a7 : Option Addr} {n cap m c7 : Nat} {M : List (Int × Int)} (h : DdS w room a n cap (.slice a7 (m + 1) c7) (m + 1) M W) : ∃ g7, a7 = some ⟨g7, 0, none⟩ := by
  rcases h.own.2 with ⟨q, h0⟩ | ⟨g, cap', cur, q, _⟩
  · omega
  · cases q
    exact ⟨g, rfl⟩
/-- The dirty keys, rising, in new memory. -/
def DdO (w : World) (L : List Bk) (e : Ending) (w' : World) : Prop := ∃ qs a' cap', DtK L qs ∧ e = .returned (.slice a' qs.length cap') ∧ w'.ownsRow (w.heap.size + 1) RKT 2 (.slice a' qs.length cap') qs.length (flatP qs) ∧ Below w.heap.size w w'
theorem ins_start {qs : List (Int × Int)} {L : List Bk} (h : DtK L qs) (x : Int × Int) : InsS qs [] x := ⟨by rw [List.append_nil]; exact h.2, fun b hb => by cases hb⟩
set_option maxRecDepth 100000 in
set_option maxHeartbeats 4000000 in
theorem ddirty_any (room : Int) (a : Option Addr) (n cap : Nat) (L : List Bk) (w : World) (h : DRow w a n L) (hn : n ≤ 5000) :
    Calls Try.prog 21 #[.agg #[.int .i64 room, .slice a n cap]] w (DdO w L) := by
  have H := Lib.hid h
  have HL : Hid (n = L.length) := h.len
  obtain ⟨w1, hw1⟩ : ∃ w1, w1 = w.alloc (.cells #[.int .i64 room, .slice a n cap] RCT) := ⟨_, rfl⟩
  have HSt : Hid (DdR w room a n cap L (.slice none 0 0) (.int .i64 0) w1) := by
    refine ⟨0, [], Nat.zero_le _, rfl, ⟨by simp, List.Pairwise.nil⟩, World.ownsRow_nil _ _ _ _, ?_, ?_⟩
    · rw [hw1]; exact blo_laid w _ _
    · rw [hw1]; exact sup_pc9 w _
  have hX1 : Blo w1 w.heap.size RCT #[.int .i64 room, .slice a n cap] := by rw [hw1]; exact blo_laid w _ _
  have d1 := hX1.cell 1
  clear hX1 h
  go_enter Try.func21, Try.ntmps21
  go_upto_region 1 with (fail)
  rw [← hw1]
  clear hw1
  go_wp2_with fail
  clear d1
  go_loopw [3, 9] (fun v t wr => DdR w room a n cap L v t wr) (fun _ t _ => n - (intOf t).toNat)
  case atStart => exact HSt.out
  case round =>
    clear HSt
    obtain ⟨i, qs, hi, rfl, hdt, hds⟩ := hrel
    have HS := Lib.hid hds
    have HDt := Lib.hid hdt
    clear hds hdt
    have i0 : (0 : Int) ≤ (i : Int) := by omega
    by_cases hin : i < n
    · have i1 : (i : Int) < (n : Int) := by omega
      obtain ⟨s, hs⟩ : ∃ s, L[i]? = some s := ⟨_, List.getElem?_eq_getElem (by rw [← HL.out]; exact hin)⟩
      obtain ⟨g, rfl, c0, c1, -, c3, -⟩ := (H.out.later HS.out.b).cells hs
      have x0 : wr.cell? ⟨w.heap.size, 1, none⟩ = some (.slice (some ⟨g, 0, none⟩) n cap) := HS.out.box.cell 1
      have HIn : Hid (i < n ∧ n ≤ 5000) := ⟨hin, hn⟩
      have HSs := Lib.hid hs
      clear hs hin
      obtain ⟨⟨s1, s2⟩, sd, sdi, sp⟩ := s
      have c0 : wr.cell? ⟨g, i * 5, none⟩ = some (.int .i64 s1) := c0
      have c1 : wr.cell? ⟨g, i * 5 + 1, none⟩ = some (.int .i64 s2) := c1
      have c3 : wr.cell? ⟨g, i * 5 + 3, none⟩ = some (.bool sdi) := c3
      cases sdi with
      | false =>
        have HE : Hid (DtK (L.take (i + 1)) qs) := dtk_no HDt.out HSs.out rfl
        go_wp2_with fail
        go_roundw
        case rel => exact ⟨i + 1, qs, HIn.out.1, rfl, HE.out, HS.out⟩
        case measure => have := HIn.out.1; simp [intOf]; omega
      | true =>
        have hb6 : Below wr.heap.size wr (wr.alloc (.cells #[.int .i64 s1, .int .i64 s2] RKT)) := sup_pc9 wr _
        have HO6 := Lib.hid (own_later HS.out.own hb6)
        have HX6 := Lib.hid (HS.out.box.later hb6)
        have HB6 := Lib.hid (HS.out.b.trans (hb6.mono HS.out.b.size))
        have HSrc : Hid (∀ ad, some (⟨wr.heap.size, 0, none⟩ : Addr) = some ad → ∀ j u, (flatP [(s1, s2)])[j]? = some u → (wr.alloc (.cells #[.int .i64 s1, .int .i64 s2] RKT)).cell? (ad.add j) = some u) := laid_srcO wr RKT #[.int .i64 s1, .int .i64 s2] (flatP [(s1, s2)]) rfl
        have HBs : Hid (w.heap.size + 1 ≤ (wr.alloc (.cells #[.int .i64 s1, .int .i64 s2] RKT)).heap.size) := by
          have := HS.out.box.lt
          have := hb6.size
          show w.heap.size + 1 ≤ _
          omega
        have HQn : Hid (qs.length ≤ i) := dtk_len HDt.out
        generalize hm : qs.length = m at *
        have HM := Lib.hid hm
        have hm5 : m ≤ 5000 := by have := HQn.out; have := HIn.out; omega
        clear hb6 hm
        go_upto_region 7 with (at_builtin; refine wp_append_rowO rfl (.tmp 19) (.tmp 26) 50 rfl (w.heap.size + 1) RKT (.agg #[.int .i64 0, .int .i64 0]) 2 16 Try.underlying50 info_rkt rfl (by decide) (by decide) u3 m (flatP qs) rfl HO6.out (some ⟨wr.heap.size, 0, none⟩) 1 1 (flatP [(s1, s2)]) rfl rfl HSrc.out (flatP_one _) (fun h => by cases h) (by omega) HBs.out ?_; intro a7 c7 w7 hown hgrow _; have HR : Hid (DdS w room (some ⟨g, 0, none⟩) n cap (.slice a7 (m + 1) c7) (m + 1) (qs ++ [(s1, s2)]) w7) := ⟨by rw [flatP_app]; exact hown, (Out.of_grown hgrow (X := fun g => u3.ownBlock = some g) (fun g e => e)).blo HX6.out (fun e => by have := (own_blo HO6.out e).1; omega), HB6.out.trans ((Out.of_grown hgrow (X := fun g => u3.ownBlock = some g) (fun g e => e)).below HB6.out.size (fun g _ e => by have := (own_blo HO6.out e).1; omega))⟩; clear hown hgrow)
        obtain ⟨g7, rfl⟩ : ∃ g7, a7 = some ⟨g7, 0, none⟩ := dd_some HR.out
        have HI0 : Hid (DdI w room (some ⟨g, 0, none⟩) n cap (.slice (some ⟨g7, 0, none⟩) (m + 1) c7) (m + 1) qs (s1, s2) (.int .i64 (m : Int)) w7) := ⟨qs, [], by rw [HM.out], by rw [HM.out]; omega, ins_start HDt.out _, List.Perm.refl _, HR.out⟩
        clear HO6 HX6 HB6 HSrc HBs HR HS x0 c0 c1 c3
        go_wp2_with fail
        obtain ⟨wo, rfl⟩ : ∃ wo, wo = wr := ⟨_, rfl⟩
        go_loopw [5] (fun t wr => DdI w room (some ⟨g, 0, none⟩) n cap (.slice (some ⟨g7, 0, none⟩) (m + 1) c7) (m + 1) qs (s1, s2) t wr) (fun t _ => (intOf t).toNat)
        case atStart => exact HI0.out
        case round =>
          clear HI0
          obtain ⟨A, B, rfl, hAk, hins, hperm, hdd⟩ := hrel
          have HEnd0 : Hid ((A = [] ∨ ∃ A' y, A = A' ++ [y] ∧ ¬ ltK (s1, s2) y) → ∀ W4, Below wr.heap.size wr W4 → DdR w room (some ⟨g, 0, none⟩) n cap L (.slice (some ⟨g7, 0, none⟩) (m + 1) c7) (.int .i64 ((i : Int) + 1)) W4) := fun hA W4 hb => by
            have hl : (A ++ (s1, s2) :: B).length = m + 1 := by rw [hperm.length_eq, List.length_append, HM.out]; rfl
            refine ⟨i + 1, A ++ (s1, s2) :: B, HIn.out.1, rfl, dtk_yes HDt.out HSs.out rfl hperm (hins.done hA), ?_⟩
            rw [hl]
            exact hdd.later hb
          have HIns := Lib.hid hins
          have HPm := Lib.hid hperm
          have HDd := Lib.hid hdd
          have HAk := Lib.hid hAk
          clear hins hperm hdd hAk
          rcases snoc_or A with rfl | ⟨A, y, rfl⟩
          · have HEnd := Lib.hid (HEnd0.out (.inl rfl))
            have k1 : True := trivial
            have k2 : True := trivial
            have k3 : True := trivial
            have k4 : True := trivial
            clear HEnd0
            simp only [List.length_nil, Int.ofNat_zero]
            go_upto_region 8 with (fail)
            refine wp_region_kept (by kernel_rfl) (by kernel_rfl) ?_
            repeat (go_big_quiet_step (fail))
            refine wpQuiet_nil ?_
            rintro W4 ⟨w4, rfl⟩
            have HB4 : Hid (Below wr.heap.size wr w4.at_) := w4.below
            generalize w4.at_ = W4 at *
            clear w4 k1 k2 k3 k4
            go_wp2_with fail
            go_roundw
            case rel => exact HEnd.out W4 HB4.out
            case measure => have := HIn.out.1; simp [intOf]; omega
          · obtain ⟨y1, y2⟩ := y
            have e0 : (((A ++ [(y1, y2)]).length : Nat) : Int) = (A.length : Int) + 1 := by simp
            (try simp only [e0])
            have HEnd := Lib.hid (fun hy => HEnd0.out (.inr ⟨A, (y1, y2), rfl, hy⟩))
            have hqm : A.length < m := by have := HAk.out; simp at this; omega
            obtain ⟨q, hqa⟩ : ∃ q, A.length = q := ⟨_, rfl⟩
            rw [hqa] at hqm
            (try simp only [hqa])
            have t10 := (own_keyD HDd.out.own (i := q + 1) (q := (s1, s2)) (by rw [List.getElem?_append_right (by simp; omega), List.length_append, hqa]; simp))
            have t20 := (own_keyD HDd.out.own (i := q) (q := (y1, y2)) (by rw [List.append_assoc, List.getElem?_append_right (by omega), hqa, Nat.sub_self]; rfl))
            have k1 : ∀ z : Kept wr, z.at_.cell? ⟨g7, (q + 1) * 2, none⟩ = some (.int .i64 s1) := fun z => cell_later z.below t10.1
            have k2 : ∀ z : Kept wr, z.at_.cell? ⟨g7, (q + 1) * 2 + 1, none⟩ = some (.int .i64 s2) := fun z => cell_later z.below t10.2
            have k3 : ∀ z : Kept wr, z.at_.cell? ⟨g7, q * 2, none⟩ = some (.int .i64 y1) := fun z => cell_later z.below t20.1
            have k4 : ∀ z : Kept wr, z.at_.cell? ⟨g7, q * 2 + 1, none⟩ = some (.int .i64 y2) := fun z => cell_later z.below t20.2
            have q0 : (0 : Int) ≤ (q : Int) := by omega
            have q1 : (0 : Int) < (q : Int) + 1 := by omega
            have q2 : (0 : Int) ≤ (q : Int) + 1 := by omega
            have q3 : (q : Int) < (m : Int) := by omega
            have q4 : (q : Int) < (m : Int) + 1 := by omega
            have q5 : (q : Int) + 1 < (m : Int) + 1 := by omega
            have wq1 : IntKind.i64.wrap ((q : Int) + 1 - 1) = (q : Int) := by rw [Int.add_sub_cancel]; exact IntWalk.i64_in _ (by omega)
            have wq2 : IntKind.i64.wrap (q : Int) = (q : Int) := IntWalk.i64_in _ (by omega)
            clear t10 t20 HEnd0 e0
            by_cases h1 : s1 < y1
            · have d1 : decide (s1 < y1) = true := decide_eq_true h1
              go_upto_region 8 with (fail)
              refine wp_region_kept (by kernel_rfl) (by kernel_rfl) ?_
              repeat (go_big_quiet_step (fail))
              refine wpQuiet_nil ?_
              rintro W4 ⟨w4, rfl⟩
              have HB4 : Hid (Below wr.heap.size wr w4.at_) := w4.below
              generalize w4.at_ = W4 at *
              clear w4 k1 k2 k3 k4
              have HSv : Hid (DdS w room (some ⟨g, 0, none⟩) n cap (.slice (some ⟨g7, 0, none⟩) (m + 1) c7) (m + 1) (A ++ (y1, y2) :: (s1, s2) :: B) W4) := by
                have h5 := HDd.out.later HB4.out
                rw [List.append_assoc] at h5
                exact h5
              have HSw : Hid (DdS w room (some ⟨g, 0, none⟩) n cap (.slice (some ⟨g7, 0, none⟩) (m + 1) c7) (m + 1) (A ++ (y1, y2) :: (s1, s2) :: B) W4.drew) := HSv.out.later ((Below.refl _ _).drew)
              obtain ⟨z10, z11⟩ := own_keyD HSv.out.own (i := q + 1) (q := (s1, s2)) (by rw [List.getElem?_append_right (by omega), ← hqa, Nat.add_sub_cancel_left]; rfl)
              obtain ⟨z20, z21⟩ := own_keyD HSv.out.own (i := q) (q := (y1, y2)) (by rw [List.getElem?_append_right (by omega), ← hqa, Nat.sub_self]; rfl)
              have f10 := HSv.out.own.frozenAt ((q + 1) * 2)
              have f11 := HSv.out.own.frozenAt ((q + 1) * 2 + 1)
              have f20 := HSv.out.own.frozenAt (q * 2)
              have f21 := HSv.out.own.frozenAt (q * 2 + 1)
              have HSp := Lib.hid HSw.out.swap
              rw [hqa] at HSp
              have HLt : Hid (ltK (s1, s2) (y1, y2)) := Or.inl h1
              have HQa := Lib.hid hqa
              clear hqa
              go_upto_region 10 with (fail)
              go_region
              have HRel : Hid (A.length < m + 1 ∧ InsS A ((y1, y2) :: B) (s1, s2) ∧ (A ++ (s1, s2) :: (y1, y2) :: B).Perm (qs ++ [(s1, s2)])) := ⟨by rw [HQa.out]; omega, HIns.out.step HLt.out, perm_swap.trans HPm.out⟩
              all_goals
                go_wp2_with fail
                go_roundw
                case rel => exact ⟨A, (y1, y2) :: B, by rw [HQa.out], HRel.out.1, HRel.out.2.1, HRel.out.2.2, HSp.out⟩
                case measure => simp [intOf]
            · have d1 : decide (s1 < y1) = false := decide_eq_false h1
              by_cases h2 : s1 = y1
              · subst h2
                by_cases h3 : s2 < y2
                · have d3 : decide (s2 < y2) = true := decide_eq_true h3
                  go_upto_region 8 with (fail)
                  refine wp_region_kept (by kernel_rfl) (by kernel_rfl) ?_
                  repeat (go_big_quiet_step (fail))
                  refine wpQuiet_nil ?_
                  rintro W4 ⟨w4, rfl⟩
                  have HB4 : Hid (Below wr.heap.size wr w4.at_) := w4.below
                  generalize w4.at_ = W4 at *
                  clear w4 k1 k2 k3 k4
                  have HSv : Hid (DdS w room (some ⟨g, 0, none⟩) n cap (.slice (some ⟨g7, 0, none⟩) (m + 1) c7) (m + 1) (A ++ (s1, y2) :: (s1, s2) :: B) W4) := by
                    have h5 := HDd.out.later HB4.out
                    rw [List.append_assoc] at h5
                    exact h5
                  have HSw : Hid (DdS w room (some ⟨g, 0, none⟩) n cap (.slice (some ⟨g7, 0, none⟩) (m + 1) c7) (m + 1) (A ++ (s1, y2) :: (s1, s2) :: B) W4.drew) := HSv.out.later ((Below.refl _ _).drew)
                  obtain ⟨z10, z11⟩ := own_keyD HSv.out.own (i := q + 1) (q := (s1, s2)) (by rw [List.getElem?_append_right (by omega), ← hqa, Nat.add_sub_cancel_left]; rfl)
                  obtain ⟨z20, z21⟩ := own_keyD HSv.out.own (i := q) (q := (s1, y2)) (by rw [List.getElem?_append_right (by omega), ← hqa, Nat.sub_self]; rfl)
                  have f10 := HSv.out.own.frozenAt ((q + 1) * 2)
                  have f11 := HSv.out.own.frozenAt ((q + 1) * 2 + 1)
                  have f20 := HSv.out.own.frozenAt (q * 2)
                  have f21 := HSv.out.own.frozenAt (q * 2 + 1)
                  have HSp := Lib.hid HSw.out.swap
                  rw [hqa] at HSp
                  have HLt : Hid (ltK (s1, s2) (s1, y2)) := Or.inr ⟨rfl, h3⟩
                  have HQa := Lib.hid hqa
                  clear hqa
                  go_upto_region 10 with (fail)
                  go_region
                  have HRel : Hid (A.length < m + 1 ∧ InsS A ((s1, y2) :: B) (s1, s2) ∧ (A ++ (s1, s2) :: (s1, y2) :: B).Perm (qs ++ [(s1, s2)])) := ⟨by rw [HQa.out]; omega, HIns.out.step HLt.out, perm_swap.trans HPm.out⟩
                  all_goals
                    go_wp2_with fail
                    go_roundw
                    case rel => exact ⟨A, (s1, y2) :: B, by rw [HQa.out], HRel.out.1, HRel.out.2.1, HRel.out.2.2, HSp.out⟩
                    case measure => simp [intOf]
                · have d3 : decide (s2 < y2) = false := decide_eq_false h3
                  have HEnd := Lib.hid (HEnd.out (by unfold ltK; simp only; omega))
                  go_upto_region 8 with (fail)
                  refine wp_region_kept (by kernel_rfl) (by kernel_rfl) ?_
                  repeat (go_big_quiet_step (fail))
                  refine wpQuiet_nil ?_
                  rintro W4 ⟨w4, rfl⟩
                  have HB4 : Hid (Below wr.heap.size wr w4.at_) := w4.below
                  generalize w4.at_ = W4 at *
                  clear w4 k1 k2 k3 k4
                  go_wp2_with fail
                  go_roundw
                  case rel => exact HEnd.out W4 HB4.out
                  case measure => have := HIn.out.1; simp [intOf]; omega
              · have HEnd := Lib.hid (HEnd.out (by unfold ltK; simp only; omega))
                have d2 : (s1 == y1) = false := by simpa using h2
                go_upto_region 8 with (fail)
                refine wp_region_kept (by kernel_rfl) (by kernel_rfl) ?_
                repeat (go_big_quiet_step (fail))
                refine wpQuiet_nil ?_
                rintro W4 ⟨w4, rfl⟩
                have HB4 : Hid (Below wr.heap.size wr w4.at_) := w4.below
                generalize w4.at_ = W4 at *
                clear w4 k1 k2 k3 k4
                go_wp2_with fail
                go_roundw
                case rel => exact HEnd.out W4 HB4.out
                case measure => have := HIn.out.1; simp [intOf]; omega
    · have i1 : ¬ (i : Int) < (n : Int) := by omega
      obtain rfl : i = n := by omega
      have HO := Lib.hid HS.out.own
      have HB := Lib.hid HS.out.b
      have HE : Hid (DtK L qs) := by
        have := HDt.out
        rwa [List.take_of_length_le (by have := HL.out; omega)] at this
      clear HS
      go_wp2_with fail
      go_ret
      have ho := HO.out
      obtain ⟨a', cap', rfl, -⟩ := own_slice ho
      exact ⟨qs, a', cap', HE.out, rfl, ho, HB.out⟩
end Go.Proofs.Ytdnkeplmjimjcaa
