/-
  The walk of ImapFull: as many as there are are given, and not one more; each that is freed is given again, with a version more.
-/
import Derived.Test.YtbacfbdeeogkgaaImAwake
import Derived.Test.YtbacfbdeeogkgaaKit
namespace Go.Proofs.Ytbacfbdeeogkgaa
open Go.RowKit Go.Maps

theorem IsRow.ints {w : World} {a : Option Addr} {len cap : Nat} {zs : List Int} (h : IsRow .i64 w a len cap zs) : len ≤ 9223372036854775807 ∧ (len ≠ 0 → ∃ b o, a = some ⟨b, o, none⟩ ∧ ∀ i, i < len → w.cell? ⟨b, o + i, none⟩ = some (.int .i64 (zs.getD i 0))) := by
  rcases h with ⟨rfl, rfl, rfl, rfl⟩ | ⟨x, rfl, h1, h2, h3, h4, h5⟩
  · exact ⟨by decide, fun h => absurd rfl h⟩
  · have hmx : (maxLen : Nat) = 9223372036854775807 := by decide
    refine ⟨by omega, fun hne => ?_⟩
    obtain ⟨b, o, rfl, hc⟩ := Go.ints_at h4 (by omega)
    exact ⟨b, o, rfl, fun i hi => hc i (by omega)⟩
theorem cut197 (x : Int) : ∃ k : Nat, k < 197 ∧ wrap64 ((IntKind.u64.wrap x).tmod 197) = (k : Int) := by
  obtain ⟨k, hk, e⟩ := cut_mod x 196 (by decide)
  exact ⟨k, by omega, e⟩
theorem cut_less (x : Int) (n : Nat) (h0 : 2 ≤ n) (hn : n < 1000) : ∃ k : Nat, k < n - 1 ∧ wrap64 ((IntKind.u64.wrap x).tmod ((n : Int) - 1)) = (k : Int) := by
  obtain ⟨k, hk, e⟩ := cut_mod x (n - 2) (by omega)
  refine ⟨k, by omega, ?_⟩
  rw [← e]
  congr 2
  omega
theorem run_make_ints {P : Program} (T e : TypeId) (ht : P.underlying T = some (.slice e)) (hi : (P.info? e).map (fun i => (i.zero, i.size, i.bytes)) = some (some (.int .i64 0), 1, 8))
    (w : World) (m : Int) (n : Nat) (hm : m = (n : Int)) (hn : n ≤ 1000000) :
    (Instr.makeSlice T (.int .i64 m) (.int .i64 m)).run P w = .ok (.slice (some ⟨w.heap.size, 0, none⟩) n n) (w.alloc (.cells (cellsI (List.replicate n 0)).toArray e)) := by
  subst hm
  obtain ⟨i, hi0, hz, hs1, hb1⟩ := info_parts hi
  have hr := run_make (P := P) w T e i (.int .i64 0) ht hi0 hz .i64 .i64 n n (by omega) (Int.le_refl _) (by rw [hb1]; omega) (by omega)
  simp only [Int.toNat_natCast] at hr
  rw [hr, hs1]
  congr 3
  apply Array.toList_inj.1
  rw [show (Value.int .i64 0).cells = #[Value.int .i64 0] from rfl, Nat.mul_one, toList_madeCells_one]
  simp [cellsI]
theorem getD_setI (F : List Int) (i j : Nat) (v : Int) (hi : i < F.length) : (F.set i v).getD j 0 = if i = j then v else F.getD j 0 := by
  rw [List.getD_eq_getElem?_getD, List.getD_eq_getElem?_getD, List.getElem?_set]
  by_cases e : i = j
  · subst e; simp [hi]
  · simp [e]
theorem cellsI_set (F : List Int) (j : Nat) (v : Int) : (cellsI F).set j (.int .i64 v) = cellsI (F.set j v) := by simp [cellsI, List.map_set]
theorem lst_none (p : Nat → Bool) : ∀ k, (∀ j, 1 ≤ j → j < k → p j = false) → lstI p k = []
  | 0, _ => rfl
  | k + 1, h => by
    show (if 1 ≤ k ∧ p k = true then _ else _ : List Int) = []
    rw [if_neg (fun q => by rw [h k q.1 (by omega)] at q; exact absurd q.2 (by decide))]
    exact lst_none p k fun j h1 h2 => h j h1 (by omega)
theorem lst_only (p : Nat → Bool) (i : Nat) (hp : p i = true) (h1 : 1 ≤ i) : ∀ k, i < k → (∀ j, 1 ≤ j → j < k → j ≠ i → p j = false) → (lstI p k).length = 1
  | 0, h, _ => by omega
  | k + 1, hk, h => by
    show (if 1 ≤ k ∧ p k = true then lstI p k ++ [(k : Int) + 1] else lstI p k : List Int).length = 1
    rcases Nat.lt_or_ge i k with q | q
    · rw [if_neg (fun z => by rw [h k z.1 (by omega) (by omega)] at z; exact absurd z.2 (by decide))]
      exact lst_only p i hp h1 k q fun j a b c => h j a (by omega) c
    · obtain rfl : i = k := by omega
      rw [if_pos ⟨h1, hp⟩, lst_none p i fun j a b => h j a (by omega) (by omega)]
      rfl
theorem lst_all (p : Nat → Bool) : ∀ k, 1 ≤ k → (∀ j, 1 ≤ j → j < k → p j = true) → (lstI p k).length = k - 1
  | 0, h, _ => by omega
  | k + 1, hk, h => by
    show (if 1 ≤ k ∧ p k = true then lstI p k ++ [(k : Int) + 1] else lstI p k : List Int).length = k + 1 - 1
    by_cases q : 1 ≤ k
    · rw [if_pos ⟨q, h k q (by omega)⟩, List.length_append, lst_all p k q fun j a b => h j a (by omega)]
      simp
      omega
    · obtain rfl : k = 0 := by omega
      rfl
/-- The first places are busy. -/
def bz (p : Nat) : Nat → Bool := fun j => decide (1 ≤ j ∧ j < p)
theorem bz_one : (fun _ => false : Nat → Bool) = bz 1 := by
  funext j
  unfold bz
  rw [eq_comm, decide_eq_false_iff_not]
  omega
theorem bz_up (p : Nat) (hp : 1 ≤ p) : upd (bz p) p true = bz (p + 1) := by
  funext j
  unfold upd bz
  by_cases e : j = p
  · subst e
    rw [if_pos rfl, eq_comm, decide_eq_true_iff]
    omega
  · rw [if_neg e]
    congr 1
    apply propext
    omega
theorem bz_can (p : Nat) : canB (fun _ => 0) (bz p) p = true ∧ ∀ j, 1 ≤ j → j < p → canB (fun _ => 0) (bz p) j = false := by
  unfold canB bz
  refine ⟨by simp, fun j h1 h2 => ?_⟩
  rw [decide_eq_true (show 1 ≤ j ∧ j < p from ⟨h1, h2⟩)]
  rfl
def FL1 (w : World) (bm gs gd n : Nat) (i : Value) (wr : World) : Prop :=
  ∃ p : Nat, 1 ≤ p ∧ p ≤ n ∧ i = .int .i64 ((p : Int) + 1) ∧ Im wr bm gs gd n 0 (fun _ => 0) (fun _ => 0) (bz p) ∧ Below w.heap.size w wr
structure FR (w : World) (bm gs gd n bo k N : Nat) (A V : Nat → Int) (B : Nat → Bool) (L : List Int) (wr : World) : Prop where
  im : Im wr bm gs gd n N A V B
  len : L.length = n + 1
  tm : Blo wr bo 3 (cellsI L).toArray
  all : ∀ j, 1 ≤ j → j < n → B j = true
  ver : ∀ j, 1 ≤ j → j < n → V j = L.getD (j + 1) 0 ∧ 0 ≤ V j ∧ V j ≤ k
  below : Below w.heap.size w wr
  cnt : N ≤ k
  apart : bo ≠ gs ∧ bo ≠ bm ∧ bo ≠ gd
def FL2 (w : World) (bm gs gd n bo : Nat) (i : Value) (wr : World) : Prop :=
  ∃ (k N : Nat) (A V : Nat → Int) (B : Nat → Bool) (L : List Int), i = .int .i64 k ∧ k ≤ 60 ∧ FR w bm gs gd n bo k N A V B L wr
theorem full_not {V : Nat → Int} {B : Nat → Bool} {j : Nat} (h : B j = true) : canB V B j = false := by
  unfold canB
  rw [h]
  rfl
set_option maxRecDepth 100000 in
set_option maxHeartbeats 4000000 in
theorem imapFull_any (a : Int) (adr : Option Addr) (len cap : Nat) (zs : List Int) (w : World) (hp : IsRow .i64 w adr len cap zs) :
    Calls Try.prog 6 #[.int .i64 a, .slice adr len cap] w fun e w' => e = .returned (.bool true) ∧ Below w.heap.size w w' := by
  obtain ⟨m, hm, hme⟩ := cut197 a
  have HAw := Lib.hid (awake_any w)
  have HNew := Lib.hid (fun W => newI_any (m + 4) W (by omega) (by omega))
  have hn1 : 4 ≤ m + 4 := by omega
  have hn2 : m + 4 ≤ 200 := by omega
  have e2 : Hid ((m : Int) + 4 = ((m + 4 : Nat) : Int)) := by show _ = _; omega
  have HP := Lib.hid hp.ints.2
  have hlen := hp.ints.1
  clear hp
  go_enter Try.func6, Try.ntmps6
  go_wp2_with fail
  refine HAw.out.mono ?_
  rintro e w1 ⟨rfl, hb1⟩
  have HB1 := Lib.hid hb1
  clear hb1 HAw
  go_wp2_with fail
  rw [e2.out]
  try rw [hme]
  clear hme e2
  generalize m + 4 = n at *
  refine (HNew.out _).mono ?_
  rintro e w2 ⟨bm, gs, gd, rfl, hI, ⟨l1, l2, l3⟩, hb⟩
  have HI2 := Lib.hid hI
  have HB2 := Lib.hid (HB1.out.trans (hb.mono HB1.out.size))
  have l1' : w.heap.size ≤ bm := Nat.le_trans HB1.out.size l1
  have l2' : w.heap.size ≤ gs := Nat.le_trans HB1.out.size l2
  have l3' : w.heap.size ≤ gd := Nat.le_trans HB1.out.size l3
  have HL : Hid ((lstI (canB (fun _ => 0) (fun _ => false)) n).length = n - 1) := lst_all _ n (by omega) fun j h1 h2 => rfl
  clear hI hb HNew l1 l2 l3
  go_wp2_with fail
  refine (room_any HI2.out (by omega) hn2).mono ?_
  rintro e w3 ⟨rfl, hb⟩
  rw [HL.out]
  have hI3 := HI2.out.later hb
  rw [bz_one] at hI3
  have HI3 := Lib.hid hI3
  have HB3 := Lib.hid (HB2.out.trans (hb.mono HB2.out.size))
  have hcast : ((n - 1 : Nat) : Int) = (n : Int) - 1 := by omega
  rw [hcast]
  clear hb hI3 HI2 HB2 HL hcast
  have hself : ∀ z : Int, (z != z) = false := fun z => by simp
  go_wp2_with fail
  go_loopw [7] (fun i wr => FL1 w bm gs gd n i wr) (fun i _ => n + 1 - (intOf i).toNat)
  case atStart => exact ⟨1, by decide, by omega, rfl, HI3.out, HB3.out⟩
  case round =>
    clear HI3 HB3
    obtain ⟨p, hp1, hp2, rfl, hI, hb⟩ := hrel
    have HI := Lib.hid hI
    have HB := Lib.hid hb
    clear hI hb
    by_cases hlt : p < n
    · have HA := Lib.hid (alloc_n (C := w.heap.size) p ((p : Int) + 1) 0 (bz (p + 1)) HI.out hlt hp1 hn2 l2' (bz_can p).1 (bz_can p).2 rfl rfl (bz_up p hp1))
      go_wp2_with fail
      refine HA.out.mono ?_
      rintro e w5 ⟨rfl, hI, hb⟩
      have HI5 := Lib.hid hI
      have HB5 := Lib.hid (HB.out.trans hb)
      clear hI hb HA HI HB
      go_wp2_with fail
      go_roundw
      case rel => exact ⟨p + 1, by omega, by omega, by simp, HI5.out, HB5.out⟩
      case measure => simp [intOf]; omega
    · obtain rfl : p = n := by omega
      clear hlt
      have hmk := run_make_ints (P := Try.prog) 40 3 Try.underlying40 info_int wr ((p : Int) + 1) (p + 1) (by omega) (by omega)
      have hlt := HI.out.lt
      have HS0 : Hid (FR w bm gs gd p wr.heap.size 0 0 (fun _ => 0) (fun _ => 0) (bz p) (List.replicate (p + 1) 0) (wr.alloc (.cells (cellsI (List.replicate (p + 1) 0)).toArray 3))) :=
        ⟨HI.out.later (sup_im wr _), by simp, blo_laid wr _ _, fun j h1 h2 => by unfold bz; exact decide_eq_true ⟨h1, h2⟩, fun j h1 h2 => ⟨by rw [List.getD_eq_getElem?_getD, List.getElem?_replicate]; split <;> rfl, Int.le_refl _, Int.le_refl _⟩, HB.out.alloc HB.out.size _, Nat.le_refl _, by omega⟩
      have hbo : w.heap.size ≤ wr.heap.size := HB.out.size
      clear hlt
      go_wp2_with fail
      clear hmk
      generalize (wr.alloc (.cells (cellsI (List.replicate (p + 1) 0)).toArray 3)) = w4 at *
      generalize wr.heap.size = bo at *
      obtain ⟨wo, rfl⟩ : ∃ wo : World, wo = wr := ⟨_, rfl⟩
      clear HI HB
      go_loopw [12] (fun i wr => FL2 w bm gs gd p bo i wr) (fun i _ => 60 - (intOf i).toNat)
      case atStart => exact ⟨0, 0, _, _, _, _, rfl, by decide, HS0.out⟩
      case round =>
        clear HS0
        obtain ⟨k, N, A, V, B, L, rfl, hk, hS⟩ := hrel
        have HS := Lib.hid hS
        clear hS
        by_cases hlt : k < len ∧ k < 60
        · obtain ⟨h1, h2⟩ := hlt
          obtain ⟨b, o, rfl, hc⟩ := HP.out (by omega)
          have hx := cell_later HS.out.below (hc k h1)
          generalize zs.getD k 0 = x at *
          obtain ⟨q, hq, hqe⟩ := cut_less x p (by omega) (by omega)
          have hnw : IntKind.u64.wrap ((p : Int) - 1) = (p : Int) - 1 := by rw [IntKind.wrap_u64]; omega
          have hn0 : ((p : Int) - 1 == 0) = false := by rw [beq_eq_false_iff_ne]; omega
          have i1 : (0 : Int) ≤ (k : Int) := by omega
          have i2 : (k : Int) < (len : Int) := by omega
          have hver := HS.out.ver (q + 1) (by omega) (by omega)
          have ht := HS.out.tm.cell (q + 2)
          rw [List.getElem?_toArray, cellsI_get L (q + 2) (by rw [HS.out.len]; omega), ← hver.1] at ht
          have ft := HS.out.tm.frozen (q + 2)
          obtain ⟨v, hv⟩ : ∃ v, V (q + 1) = v := ⟨_, rfl⟩
          rw [hv] at ht hver
          obtain ⟨hv0, hv1, hv2⟩ := hver
          clear hv0
          obtain ⟨ap1, ap2, ap3⟩ := HS.out.apart
          have hI1 : Im (wr.setCell ⟨bo, q + 2, none⟩ (.int .i64 (v + 1))) bm gs gd p N A V B := HS.out.im.far (p := ⟨bo, q + 2, none⟩) (fun e => ap2 e.symm) (fun e => ap1 e.symm) (fun e => ap3 e.symm) _
          have HNo := Lib.hid (alloc_no hI1 (by omega) hn2 fun j a b => full_not (HS.out.all j a b))
          have hfr := free_yes (C := w.heap.size) (i := q + 1) hI1 (by omega) (by omega) hn2 l2' l3' (by have := HS.out.cnt; omega) (HS.out.all (q + 1) (by omega) (by omega)) (by rw [hv]; omega)
          rw [show ((q + 1 : Nat) : Int) + 1 = (q : Int) + 2 by omega, hv, show min (v + 1) 65535 = v + 1 by omega] at hfr
          have HFr := Lib.hid hfr
          have HBo : Hid (Blo (wr.setCell ⟨bo, q + 2, none⟩ (.int .i64 (v + 1))) bo 3 (cellsI (L.set (q + 2) (v + 1))).toArray) := by
            show Blo _ _ _ _
            have := HS.out.tm.put (q + 2) (.int .i64 (v + 1))
            rwa [List.setIfInBounds_toArray, cellsI_set] at this
          have HB1 : Hid (Below w.heap.size w (wr.setCell ⟨bo, q + 2, none⟩ (.int .i64 (v + 1)))) := HS.out.below.setCell (p := ⟨bo, q + 2, none⟩) hbo _
          have HV : Hid (∀ j, 1 ≤ j → j < p → upd V (q + 1) (v + 1) j = (L.set (q + 2) (v + 1)).getD (j + 1) 0 ∧ 0 ≤ upd V (q + 1) (v + 1) j ∧ upd V (q + 1) (v + 1) j ≤ ((k + 1 : Nat) : Int)) := by
            show ∀ _, _
            intro j a b
            have hl := HS.out.len
            rw [getD_setI L (q + 2) (j + 1) (v + 1) (by omega)]
            by_cases e : j = q + 1
            · subst e
              rw [upd_at, if_pos rfl]
              exact ⟨rfl, by omega, by omega⟩
            · rw [upd_ne _ _ _ e, if_neg (by omega)]
              have := HS.out.ver j a b
              exact ⟨this.1, this.2.1, by omega⟩
          have HAl : Hid (∀ j, 1 ≤ j → j < p → j ≠ q + 1 → upd B (q + 1) false j = true) := fun j a b e => by rw [upd_ne _ _ _ e]; exact HS.out.all j a b
          have HRo : Hid ((lstI (canB (upd V (q + 1) (v + 1)) (upd B (q + 1) false)) p).length = 1) :=
            lst_only _ (q + 1) (by unfold canB; rw [upd_at, upd_at]; simp; omega) (by omega) p (by omega) fun j a b e => full_not (HAl.out j a b e)
          have HLen : Hid ((L.set (q + 2) (v + 1)).length = p + 1) := by show _ = _; rw [List.length_set]; exact HS.out.len
          have HCn := Lib.hid HS.out.cnt
          clear hc hv hfr hI1 HS
          go_wp2_with fail
          clear hx ht ft hqe hnw hn0
          generalize wr.setCell ⟨bo, q + 2, none⟩ (.int .i64 (v + 1)) = w5 at *
          refine HNo.out.mono ?_
          rintro e w6 ⟨rfl, rfl⟩
          clear HNo
          go_wp2_with fail
          refine HFr.out.mono ?_
          rintro e w6 ⟨rfl, ⟨N', hN', hI⟩, hb, hf⟩
          have HI6 := Lib.hid hI
          have HB6 := Lib.hid (HB1.out.trans hb)
          have HBo6 := Lib.hid (hf _ _ _ ap1 HBo.out)
          clear hI hb hf HFr HB1 HBo
          go_wp2_with fail
          refine (room_any HI6.out (by omega) hn2).mono ?_
          rintro e w7 ⟨rfl, hb⟩
          rw [HRo.out]
          have HI7 := Lib.hid (HI6.out.later hb)
          have HB7 := Lib.hid (HB6.out.trans (hb.mono HB6.out.size))
          have HBo7 := Lib.hid (HBo6.out.later hb)
          clear hb HI6 HB6 HBo6 HRo
          have hal := alloc_yes (C := w.heap.size) (i := q + 1) HI7.out (by omega) (by omega) hn2 l2' (by unfold canB; rw [upd_at, upd_at]; simp; omega) fun j a b => full_not (HAl.out j a (by omega) (by omega))
          have HAA := Lib.hid hal
          clear hal
          go_wp2_with fail
          refine HAA.out.mono ?_
          rintro e w8 ⟨rfl, hI, hb, hf⟩
          have hBo := hf _ _ _ ap1 HBo7.out
          have HN8 : Hid (FR w bm gs gd p bo (k + 1) N' (upd A (q + 1) 0) (upd V (q + 1) (v + 1)) (upd (upd B (q + 1) false) (q + 1) true) (L.set (q + 2) (v + 1)) w8) := by
            refine ⟨hI, HLen.out, hBo, fun j a b => ?_, HV.out, HB7.out.trans hb, by have := HCn.out; omega, ap1, ap2, ap3⟩
            by_cases e : j = q + 1
            · subst e; rw [upd_at]
            · rw [upd_ne _ _ _ e]; exact HAl.out j a b e
          have tt := hBo.cell (q + 2)
          rw [List.getElem?_toArray, cellsI_get _ (q + 2) (by rw [HLen.out]; omega), getD_setI L (q + 2) (q + 2) (v + 1) (by have := HLen.out; rw [List.length_set] at this; omega), if_pos rfl] at tt
          rw [upd_at, show ((q + 1 : Nat) : Int) + 1 = (q : Int) + 2 by omega]
          have j1 : (0 : Int) ≤ (q : Int) := by omega
          have j2 : (q : Int) + 2 < (p : Int) + 1 := by omega
          clear hI hb hf hBo HAA HI7 HB7 HBo7 HV HAl HLen HCn
          go_wp2_with fail
          go_roundw
          case rel => exact ⟨k + 1, N', _, _, _, _, by simp, by omega, HN8.out⟩
          case measure => simp [intOf]; omega
        · have HR0 : Hid ((lstI (canB V B) p).length = 0) := by
            show _ = _
            rw [lst_none _ p fun j a b => full_not (HS.out.all j a b)]
            rfl
          have HRb : Hid ((lstI B p).length = p - 1) := lst_all _ p (by omega) HS.out.all
          have hcast : ((p - 1 : Nat) : Int) = (p : Int) - 1 := by omega
          have HCast := Lib.hid hcast
          have hself2 : (((p : Int) - 1) == ((p : Int) - 1)) = true := by simp
          clear hcast
          rcases (show len ≤ k ∨ (k < len ∧ 60 ≤ k) by omega) with h1 | ⟨h1, h2⟩
          all_goals
            clear hlt
            go_wp2_with fail
            refine (room_any HS.out.im (by omega) hn2).mono ?_
            rintro e w7 ⟨rfl, hb⟩
            rw [HR0.out]
            have HI7 := Lib.hid (HS.out.im.later hb)
            have HB7 := Lib.hid (HS.out.below.trans (hb.mono HS.out.below.size))
            clear hb HR0
            go_wp2_with fail
            refine (busy_any HI7.out (by omega) hn2).mono ?_
            rintro e w8 ⟨a8, c8, rfl, _, hb⟩
            rw [HRb.out]
            have HB8 := Lib.hid (HB7.out.trans (hb.mono HB7.out.size))
            have hcc := HCast.out
            clear hb HRb
            go_wp2
            go_ret
            exact ⟨by first | rfl | simp, HB8.out⟩
theorem imapFull_walk (a : Int) (adr : Option Addr) (len cap : Nat) (zs : List Int) (w : World) (_ : (Lit.int .i64 a).wf = true) (hp : IsRow .i64 w adr len cap zs) :
    Calls Try.prog 6 #[.int .i64 a, .slice adr len cap] w fun e w' => e = .returned (.bool true) ∧ Below w.heap.size w w' := imapFull_any a adr len cap zs w hp
end Go.Proofs.Ytbacfbdeeogkgaa
