/-
  The walk of UsageOnce: a segment that Take gave isn't given again ahead of a Release or Sweep of it.
-/
import Derived.Test.YtfilbbiiiaodiaaUsAwake
import Derived.Test.YtfilbbiiiaodiaaUsAdd
import Derived.Test.YtfilbbiiiaodiaaUsGet
import Derived.Test.YtfilbbiiiaodiaaUsOLive
import Derived.Test.YtfilbbiiiaodiaaTriples
import Derived.Test.YtfilbbiiiaodiaaKit
namespace Go.Proofs.Ytfilbbiiiaodiaa
open Go.RowKit

theorem cut20 (x : Int) : ∃ k : Nat, k < 20 ∧ wrap64 ((IntKind.u64.wrap x).tmod 20) = (k : Int) := by
  obtain ⟨k, hk, e⟩ := cut_mod x 19 (by decide)
  exact ⟨k, by omega, e⟩
theorem cut_var (x : Int) (n : Nat) (h0 : 0 < n) (hn : n < 4611686018427387904) : ∃ k : Nat, k < n ∧ wrap64 ((IntKind.u64.wrap x).tmod (n : Int)) = (k : Int) := by
  obtain ⟨k, hk, e⟩ := cut_mod x (n - 1) (by omega)
  refine ⟨k, by omega, ?_⟩
  rw [← e]
  congr 2
  omega
/-- What the loop keeps: the table, what is out by the numbers (out), what stands in the list's memory (L). -/
structure ORelS (w : World) (bt g bo n : Nat) (hand last : Int) (F out L : List Int) (wr : World) : Prop where
  tb : Tb wr bt g TB IN n 8 hand F
  lv : Lives F n 8
  inv : OInv F out n last
  lb : Blo wr bo 3 (cellsI L).toArray
  below : Below w.heap.size w wr
  apart : bo ≠ g ∧ bo ≠ bt
  hd : -1 ≤ hand ∧ hand < n
def OLoop (w : World) (bt g bo n : Nat) (v i : Value) (wr : World) : Prop :=
  ∃ (k : Nat) (F out : List Int) (hand last : Int), i = .int .i64 k ∧ v = .int .i64 last ∧ k ≤ 9223372036854775807 ∧ ORelS w bt g bo n hand last F out out wr
section
variable {w wr w' : World} {bt g bo n s : Nat} {hand last : Int} {F out L : List Int}
theorem ORelS.later (h : ORelS w bt g bo n hand last F out L wr) (hb : Below wr.heap.size wr w') : ORelS w bt g bo n hand last F out L w' :=
  ⟨h.tb.later hb, h.lv, h.inv, h.lb.later hb, h.below.trans (hb.mono h.below.size), h.apart, h.hd⟩
theorem ORelS.put (h : ORelS w bt g bo n hand last F out L wr) (hbo : w.heap.size ≤ bo) (s : Nat) (v : Int) : ORelS w bt g bo n hand last F out (L.set s v) (wr.setCell ⟨bo, s, none⟩ (.int .i64 v)) := by
  refine ⟨⟨h.tb.top.far (fun e => h.apart.2 e.symm) _, h.tb.segs.far (fun e => h.apart.1 e.symm) _, h.tb.len, h.tb.apart⟩, h.lv, h.inv, ?_, h.below.setCell (p := ⟨bo, s, none⟩) hbo _, h.apart, h.hd⟩
  have hx := h.lb.put s (.int .i64 v)
  rwa [List.setIfInBounds_toArray, cellsI_set] at hx
theorem ORelS.cell (h : ORelS w bt g bo n hand last F out L wr) (s : Nat) (hs : s < L.length) : wr.cell? ⟨bo, s, none⟩ = some (.int .i64 (L.getD s 0)) := by
  rw [h.lb.cell s]
  simpa using cellsI_get L s hs
def AddO (w : World) (bt g bo n : Nat) (hand last : Int) (out : List Int) (e : Ending) (w' : World) : Prop :=
  ∃ c F, e = .returned (.int .i64 c) ∧ ORelS w bt g bo n hand last F out out w'
theorem add_o (v : Int) (h : ORelS w bt g bo n hand last F out out wr) (hs : s < n) (hn : n ≤ 512) (hbg : w.heap.size ≤ g) :
    Calls Try.prog 13 #[.pointer (some ⟨bt, 0, none⟩), .int .i64 s, .int .i64 v] wr (AddO w bt g bo n hand last out) := by
  have hl := h.lv s hs
  have hF := h.inv.flen
  by_cases hv : -(F.getD (s * 3) 0) ≤ v ∧ v ≤ 8 - F.getD (s * 3) 0
  · refine (add_yes (B := w.heap.size) v _ h.tb hs hn rfl hl ⟨by decide, by decide⟩ hv h.below.size hbg).mono ?_
    rintro e w' ⟨rfl, ht, hb, hf⟩
    exact ⟨0, _, rfl, ht, h.lv.add s (by omega) _ (by omega) (by omega), h.inv.live s hs _, hf _ _ _ h.apart.1 h.lb, h.below.trans hb, h.apart, h.hd⟩
  · refine (add_no (B := wr.heap.size) v _ h.tb hs hn rfl hl ⟨by decide, by decide⟩ hv (Nat.le_refl _)).mono ?_
    rintro e w' ⟨rfl, ht, hb⟩
    exact ⟨22, F, rfl, h.later hb⟩
def TakeO (w : World) (bt g bo n : Nat) (hand last : Int) (F out : List Int) (e : Ending) (w' : World) : Prop :=
  (∃ s : Nat, s < n ∧ e = .returned (.tuple #[.int .i64 s, .int .i64 0]) ∧ out.getD s 0 = 0 ∧ ORelS w bt g bo n s s (seiz F n s) (out.set s 1) out w') ∨
  (e = .returned (.tuple #[.int .i64 0, .int .i64 28]) ∧ cnt F 0 n = 0 ∧ ORelS w bt g bo n hand last F out out w')
theorem nth_onto (n : Nat) (hand : Int) (i : Nat) (hi : i < n) : ∃ j, j < n ∧ nth n hand j = i := by
  have hn : (0 : Int) < (n : Int) := by omega
  have h1 := Int.emod_nonneg ((i : Int) - hand - 1) (show (n : Int) ≠ 0 by omega)
  have h2 := Int.emod_lt_of_pos ((i : Int) - hand - 1) hn
  refine ⟨(((i : Int) - hand - 1) % (n : Int)).toNat, by omega, ?_⟩
  unfold nth
  rw [Int.toNat_of_nonneg h1, Int.add_emod_emod, show hand + 1 + ((i : Int) - hand - 1) = (i : Int) by omega, Int.emod_eq_of_lt (by omega) (by omega)]
  simp
theorem take_o (h : ORelS w bt g bo n hand last F out out wr) (h1 : 1 ≤ n) (hn : n ≤ 512) (hbg : w.heap.size ≤ g) (hbt : w.heap.size ≤ bt) :
    Calls Try.prog 14 #[.pointer (some ⟨bt, 0, none⟩)] wr (TakeO w bt g bo n hand last F out) := by
  have hh := h.hd
  have hF := h.inv.flen
  obtain ⟨r, hr⟩ := takeIs_ex F n hand
  rcases hr with ⟨k, hk, _, h0, hpre⟩ | ⟨_, hall⟩
  · obtain ⟨hs, hq⟩ := nth_lt n hand k (by omega)
    refine (take_at (B := w.heap.size) k h.tb hn hbg hbt ⟨hh.1, by omega⟩ hk hq hs h0 (fun j hj q hjq => ?_)).mono ?_
    · obtain ⟨_, e⟩ := nth_lt n hand j (by omega)
      obtain rfl : q = nth n hand j := by omega
      exact hpre j hj
    · rintro e w' ⟨rfl, ht, hb, hf⟩
      refine .inl ⟨_, hs, rfl, ?_, ht, h.lv.seiz n _ (by omega), h.inv.take _ hs (by rw [seiz_length]; exact hF), hf _ _ _ h.apart.1 h.apart.2 h.lb, h.below.trans hb, h.apart, by omega⟩
      rcases h.inv.outs _ hs with ⟨a, _⟩ | ⟨_, b⟩
      · exact a
      · have : st F (nth n hand k) = 0 := h0
        omega
  · have hall' : ∀ i, i < n → F.getD (i * 3 + 1) 0 ≠ 0 := fun i hi => by
      obtain ⟨j, hj, rfl⟩ := nth_onto n hand i hi
      exact hall j hj
    refine (take_full h.tb h1 hn ⟨hh.1, by omega⟩ hall').mono ?_
    rintro e w' ⟨rfl, rfl⟩
    exact .inr ⟨rfl, cnt_none F 0 n fun j hj => hall' j hj, h⟩
def UseO (w wr : World) (bt g bo n s : Nat) (hand last : Int) (F out : List Int) (e : Ending) (w' : World) : Prop :=
  (e = .returned (.int .i64 0) ∧ ORelS w bt g bo n hand last (F.set (s * 3 + 1) 1) (out.set s 1) out w' ∧ Fr2 bt g wr w') ∨
  (e = .returned (.int .i64 103) ∧ ORelS w bt g bo n hand last F out out w')
theorem use_o (h : ORelS w bt g bo n hand last F out out wr) (hs : s < n) (hn : n ≤ 512) (hbg : w.heap.size ≤ g) :
    Calls Try.prog 16 #[.pointer (some ⟨bt, 0, none⟩), .int .i64 s] wr (UseO w wr bt g bo n s hand last F out) := by
  have hF := h.inv.flen
  by_cases h0 : F.getD (s * 3 + 1) 0 = 0
  · refine (use_yes (B := w.heap.size) h.tb hs hn h0 hbg).mono ?_
    rintro e w' ⟨rfl, ht, hb, hf⟩
    exact .inl ⟨rfl, ⟨ht, h.lv.use s (by omega) 1, h.inv.use s hs h0, hf _ _ _ h.apart.1 h.apart.2 h.lb, h.below.trans hb, h.apart, h.hd⟩, hf⟩
  · refine (use_no h.tb hs hn h0).mono ?_
    rintro e w' ⟨rfl, rfl⟩
    exact .inr ⟨rfl, h⟩
def RelO (w wr : World) (bt g bo n s : Nat) (hand last : Int) (F out : List Int) (e : Ending) (w' : World) : Prop :=
  (e = .returned (.int .i64 0) ∧ (s : Int) ≠ last ∧ ORelS w bt g bo n hand last (rel F s) (out.set s 0) out w' ∧ Fr2 bt g wr w') ∨
  (∃ c : Int, (c == 0) = false ∧ e = .returned (.int .i64 c) ∧ ORelS w bt g bo n hand last F out out w')
theorem rel_o (h : ORelS w bt g bo n hand last F out out wr) (hs : s < n) (hn : n ≤ 512) (hbg : w.heap.size ≤ g) :
    Calls Try.prog 17 #[.pointer (some ⟨bt, 0, none⟩), .int .i64 s] wr (RelO w wr bt g bo n s hand last F out) := by
  have hF := h.inv.flen
  rcases h.inv.outs s hs with ⟨_, h0⟩ | ⟨_, h0 | h0⟩
  · refine (rel_stale h.tb hs hn h0).mono ?_
    rintro e w' ⟨rfl, rfl⟩
    exact .inr ⟨103, rfl, rfl, h⟩
  · by_cases hl : F.getD (s * 3) 0 = 0
    · refine (rel_fr (B := w.heap.size) h.tb hs hn h0 hl hbg).mono ?_
      rintro e w' ⟨rfl, ht, hb, hf⟩
      refine .inl ⟨rfl, fun q => ?_, ⟨ht, h.lv.rel s, h.inv.release s hs h0 (by rw [rel_length]; exact hF), hf _ _ _ h.apart.1 h.apart.2 h.lb, h.below.trans hb, h.apart, h.hd⟩, hf⟩
      rcases h.inv.one with ⟨a, _⟩ | ⟨t, _, a, b, _⟩
      · omega
      · obtain rfl : s = t := by omega
        omega
    · refine (rel_live h.tb hs hn h0 hl).mono ?_
      rintro e w' ⟨rfl, rfl⟩
      exact .inr ⟨16, rfl, rfl, h⟩
  · refine (rel_busy h.tb hs hn h0).mono ?_
    rintro e w' ⟨rfl, rfl⟩
    exact .inr ⟨16, rfl, rfl, h⟩
def SwpO (w wr : World) (bt g bo n : Nat) (hand last : Int) (F out : List Int) (e : Ending) (w' : World) : Prop :=
  ∃ a m cap, m = (swL F n).length ∧ m ≤ n ∧ e = .returned (.slice a m cap) ∧ w'.ownsRow wr.heap.size 3 1 (.slice a m cap) m (cellsI (swL F n)) ∧ ORelS w bt g bo n hand last (swF F n) (zeroed out (swL F n) m) (zeroed out (swL F n) 0) w'
theorem sweep_o (h : ORelS w bt g bo n hand last F out out wr) (hn : n ≤ 512) (hbg : w.heap.size ≤ g) :
    Calls Try.prog 18 #[.pointer (some ⟨bt, 0, none⟩)] wr (SwpO w wr bt g bo n hand last F out) := by
  refine (sweep_any (B := w.heap.size) h.tb hn hbg h.below.size (fun j hj => ?_)).mono ?_
  · rcases h.inv.outs j hj with ⟨_, h0⟩ | ⟨_, h0 | h0⟩
    · exact .inl h0
    · exact .inr (.inl h0)
    · exact .inr (.inr h0)
  · rintro e w' ⟨a, cap, rfl, ho, ht, hb, hf⟩
    exact ⟨a, _, cap, rfl, swL_len F n, rfl, ho, ht, h.lv.sweep n, h.inv.sweep, hf _ _ _ h.apart.1 h.apart.2 h.lb, h.below.trans hb, h.apart, h.hd⟩
def SLoop (w wr : World) (bt g bo n m cap : Nat) (a : Option Addr) (hand last : Int) (F out : List Int) (i : Value) (wq : World) : Prop :=
  ∃ q : Nat, q ≤ m ∧ i = .int .i64 q ∧ wq.ownsRow wr.heap.size 3 1 (.slice a m cap) m (cellsI (swL F n)) ∧ ORelS w bt g bo n hand last (swF F n) (zeroed out (swL F n) m) (zeroed out (swL F n) q) wq
end
theorem zer_st (n j : Nat) : st (List.replicate (3 * n) 0) j = 0 := by
  unfold st
  rw [List.getD_eq_getElem?_getD, List.getElem?_replicate]
  split <;> rfl
theorem inv_zer (n : Nat) : OInv (List.replicate (3 * n) 0) (List.replicate n 0) n (-1) :=
  ⟨by simp, by simp, .inl ⟨rfl, fun j _ => by rw [zer_st]; decide⟩, fun j hj => .inl ⟨by rw [List.getD_eq_getElem?_getD, List.getElem?_replicate]; split <;> rfl, zer_st n j⟩⟩
theorem lives_zer (n : Nat) : Lives (List.replicate (3 * n) 0) n 8 := fun j _ => by
  rw [List.getD_eq_getElem?_getD, List.getElem?_replicate]
  split <;> simp
theorem run_make_ints {P : Program} (T e : TypeId) (ht : P.underlying T = some (.slice e)) (hi : (P.info? e).map (fun i => (i.zero, i.size, i.bytes)) = some (some (.int .i64 0), 1, 8))
    (w : World) (n : Nat) (hn : n ≤ 1000000) :
    (Instr.makeSlice T (.int .i64 n) (.int .i64 n)).run P w = .ok (.slice (some ⟨w.heap.size, 0, none⟩) n n) (w.alloc (.cells (cellsI (List.replicate n 0)).toArray e)) := by
  obtain ⟨i, hi0, hz, hs1, hb1⟩ := info_parts hi
  have hr := run_make (P := P) w T e i (.int .i64 0) ht hi0 hz .i64 .i64 n n (by omega) (Int.le_refl _) (by rw [hb1]; omega) (by omega)
  simp only [Int.toNat_natCast] at hr
  rw [hr, hs1]
  congr 3
  apply Array.toList_inj.1
  rw [show (Value.int .i64 0).cells = #[Value.int .i64 0] from rfl, Nat.mul_one, toList_madeCells_one]
  simp [cellsI]
set_option maxRecDepth 100000 in
set_option maxHeartbeats 4000000 in
theorem usageOnce_any (a : Int) (adr : Option Addr) (len cap : Nat) (zs : List Int) (w : World) (hp : Triples w adr len zs) :
    Calls Try.prog 4 #[.int .i64 a, .slice adr len cap] w fun e w' => e = .returned (.bool true) ∧ Below w.heap.size w w' := by
  obtain ⟨m, hm, hme⟩ := cut20 a
  have HAw := Lib.hid (awake_any w)
  have HNew := Lib.hid (fun W => new_any (m + 1) 8 W (by omega) (by omega) (by decide) (by decide))
  have hn1 : 1 ≤ m + 1 := by omega
  have hn2 : m + 1 ≤ 20 := by omega
  have e2 : Hid ((m : Int) + 1 = ((m + 1 : Nat) : Int)) := by show _ = _; omega
  have HP := Lib.hid hp
  have hlen := hp.1
  clear hp
  go_enter Try.func4, Try.ntmps4
  go_wp2_with fail
  refine HAw.out.mono ?_
  rintro e w1 ⟨rfl, hb1⟩
  have HB1 := Lib.hid hb1
  clear hb1 HAw
  go_wp2_with fail
  rw [e2.out]
  try rw [hme]
  clear hme e2
  generalize m + 1 = n at *
  refine (HNew.out _).mono ?_
  rintro e w2 ⟨bt, g, rfl, ht, hbt, hbg, hb⟩
  have hmk := run_make_ints (P := Try.prog) 40 3 Try.underlying40 info_int w2 n (by omega)
  have HS0 : Hid (ORelS w bt g w2.heap.size n (-1) (-1) (List.replicate (3 * n) 0) (List.replicate n 0) (List.replicate n 0) (w2.alloc (.cells (cellsI (List.replicate n 0)).toArray 3))) :=
    ⟨ht.later (sup_us w2 _), lives_zer n, inv_zer n, blo_laid w2 _ _, (HB1.out.trans (hb.mono HB1.out.size)).alloc (Nat.le_trans HB1.out.size hb.size) _, ⟨by have := ht.segs.lt; omega, by have := ht.top.lt; omega⟩, by omega⟩
  have hbt' : w.heap.size ≤ bt := Nat.le_trans HB1.out.size hbt
  have hbg' : w.heap.size ≤ g := Nat.le_trans HB1.out.size hbg
  have hbo' : w.heap.size ≤ w2.heap.size := Nat.le_trans HB1.out.size hb.size
  have hn3 : n ≤ 512 := by omega
  clear ht HNew hb hbt hbg
  go_wp2_with fail
  clear hmk
  generalize (w2.alloc (.cells (cellsI (List.replicate n 0)).toArray 3)) = w3 at *
  generalize w2.heap.size = bo at *
  go_loopw [8, 9] (fun v i wr => OLoop w bt g bo n v i wr) (fun _ i _ => len - (intOf i).toNat)
  case atStart => exact ⟨0, _, _, _, _, rfl, rfl, by decide, HS0.out⟩
  case round =>
    obtain ⟨k, F, out, hand, last, rfl, rfl, hk, hS⟩ := hrel
    have HS := Lib.hid hS
    clear hS
    by_cases hlt : k < len ∧ k < 100
    · obtain ⟨h1, h2⟩ := hlt
      obtain ⟨b, o, rfl, hc⟩ := HP.out.2.2 (by omega)
      have hx := cell_later HS.out.below (hc k h1).1
      have hy := cell_later HS.out.below (hc k h1).2.1
      have hz := cell_later HS.out.below (hc k h1).2.2
      have hvb := HP.out.2.1 (k * 3 + 2)
      generalize zs.getD (k * 3) 0 = K at *
      generalize zs.getD (k * 3 + 1) 0 = x at *
      generalize zs.getD (k * 3 + 2) 0 = v at *
      obtain ⟨s, hs, hse⟩ := cut_var x n (by omega) (by omega)
      have i1 : (0 : Int) ≤ (k : Int) := by omega
      have i2 : (k : Int) < (len : Int) := by omega
      have hn0 : ((n : Int) == 0) = false := by
        rw [beq_eq_false_iff_ne]; omega
      have hnw : IntKind.u64.wrap (n : Int) = (n : Int) := by rw [IntKind.wrap_u64]; omega
      clear hc
      have HW : Hid (ORelS w bt g bo n hand last F out out (wr.alloc (.cells #[.int .i64 K, .int .i64 s, .int .i64 v] 36))) := HS.out.later (sup_us wr _)
      by_cases hK : K = 1
      · subst hK
        go_wp2_with fail
        refine (add_o v HW.out hs hn3 hbg').mono ?_
        rintro e w7 ⟨c, F7, rfl, hN⟩
        have HN := Lib.hid hN
        clear hN HW HS hx hy hz
        rcases one_count HN.out.inv.one with ⟨hl, hc⟩ | ⟨hl, hc⟩
        all_goals
          have HC := Lib.hid hc
          have hl2 := hl
          clear hl
          try (have hl3 := Int.le_of_eq hl2; clear hl2)
          go_wp2_with fail
          refine (count_any 2 HN.out.tb hn3).mono ?_
          rintro e w9 ⟨rfl, hb⟩
          rw [HC.out]
          have HN9 := Lib.hid (HN.out.later hb)
          clear hb HC hc
          go_wp2_with fail
          go_roundw
          case rel => exact ⟨k + 1, _, _, _, _, by simp, rfl, by omega, HN9.out⟩
          case measure => simp [intOf]; omega
      · by_cases hK3 : K = 3
        · subst hK3
          go_wp2_with fail
          refine (take_o HW.out hn1 hn3 hbg' hbt').mono ?_
          have HOL := Lib.hid HW.out.inv.olen
          clear HW HS hx hy hz hK
          rintro e w7 (⟨s7, hs7, rfl, ho, hN⟩ | ⟨rfl, hc0, hN⟩)
          · have HN := Lib.hid hN
            have c7 := hN.cell s7 (by rw [HOL.out]; exact hs7)
            rw [ho] at c7
            have f7 := hN.lb.frozen s7
            have HN7 := Lib.hid (hN.put hbo' s7 1)
            have j1 : (0 : Int) ≤ (s7 : Int) := by omega
            have j2 : (s7 : Int) < (n : Int) := by omega
            clear hN ho
            go_wp2_with fail
            clear c7 f7 HN
            generalize w7.setCell ⟨bo, s7, none⟩ (.int .i64 1) = w8 at *
            rcases one_count HN7.out.inv.one with ⟨hl, hc⟩ | ⟨hl, hc⟩
            · exfalso; omega
            ·
              have HC := Lib.hid hc
              have hl2 := hl
              clear hl
              try (have hl3 := Int.le_of_eq hl2; clear hl2)
              go_wp2_with fail
              refine (count_any 2 HN7.out.tb hn3).mono ?_
              rintro e w9 ⟨rfl, hb⟩
              rw [HC.out]
              have HN9 := Lib.hid (HN7.out.later hb)
              clear hb HC hc
              go_wp2_with fail
              go_roundw
              case rel => exact ⟨k + 1, _, _, _, _, by simp, rfl, by omega, HN9.out⟩
              case measure => simp [intOf]; omega
          · have HN := Lib.hid hN
            have HC0 := Lib.hid hc0
            clear hN hc0
            go_wp2_with fail
            refine (count_any 0 HN.out.tb hn3).mono ?_
            rintro e w8 ⟨rfl, hb⟩
            rw [HC0.out]
            have HN8 := Lib.hid (HN.out.later hb)
            clear hb HN HC0
            rcases one_count HN8.out.inv.one with ⟨hl, hc⟩ | ⟨hl, hc⟩
            all_goals
              have HC := Lib.hid hc
              have hl2 := hl
              clear hl
              try (have hl3 := Int.le_of_eq hl2; clear hl2)
              go_wp2_with fail
              refine (count_any 2 HN8.out.tb hn3).mono ?_
              rintro e w9 ⟨rfl, hb⟩
              rw [HC.out]
              have HN9 := Lib.hid (HN8.out.later hb)
              clear hb HC hc
              go_wp2_with fail
              go_roundw
              case rel => exact ⟨k + 1, _, _, _, _, by simp, rfl, by omega, HN9.out⟩
              case measure => simp [intOf]; omega
        · by_cases hK4 : K = 4
          · subst hK4
            go_wp2_with fail
            refine (use_o HW.out hs hn3 hbg').mono ?_
            have HOB := Lib.hid (blo_laid wr 36 #[.int .i64 4, .int .i64 s, .int .i64 v])
            have HOL := Lib.hid HW.out.inv.olen
            have HA : Hid (wr.heap.size ≠ g ∧ wr.heap.size ≠ bt) := ⟨by have := HS.out.tb.segs.lt; omega, by have := HS.out.tb.top.lt; omega⟩
            clear HW HS hx hy hz hK hK3
            rintro e w7 (⟨rfl, hN, hf⟩ | ⟨rfl, hN⟩)
            · have HN := Lib.hid hN
              have cw := (hf _ _ _ HA.out.1 HA.out.2 HOB.out).cell 1
              simp at cw
              have f7 := hN.lb.frozen s
              have c7 := hN.cell s (by rw [HOL.out]; exact hs)
              have HN7 := Lib.hid (hN.put hbo' s 1)
              have j1 : (0 : Int) ≤ (s : Int) := by omega
              have j2 : (s : Int) < (n : Int) := by omega
              clear hN hf HOB
              skip
              go_wp2_with fail
              clear cw c7 f7 HN
              generalize w7.setCell ⟨bo, s, none⟩ (.int .i64 1) = w8 at *
              rcases one_count HN7.out.inv.one with ⟨hl, hc⟩ | ⟨hl, hc⟩
              all_goals
                have HC := Lib.hid hc
                have hl2 := hl
                clear hl
                try (have hl3 := Int.le_of_eq hl2; clear hl2)
                go_wp2_with fail
                refine (count_any 2 HN7.out.tb hn3).mono ?_
                rintro e w9 ⟨rfl, hb⟩
                rw [HC.out]
                have HN9 := Lib.hid (HN7.out.later hb)
                clear hb HC hc
                go_wp2_with fail
                go_roundw
                case rel => exact ⟨k + 1, _, _, _, _, by simp, rfl, by omega, HN9.out⟩
                case measure => simp [intOf]; omega
            · have HN := Lib.hid hN
              clear hN HOB HA HOL
              go_wp2_with fail
              rcases one_count HN.out.inv.one with ⟨hl, hc⟩ | ⟨hl, hc⟩
              all_goals
                have HC := Lib.hid hc
                have hl2 := hl
                clear hl
                try (have hl3 := Int.le_of_eq hl2; clear hl2)
                go_wp2_with fail
                refine (count_any 2 HN.out.tb hn3).mono ?_
                rintro e w9 ⟨rfl, hb⟩
                rw [HC.out]
                have HN9 := Lib.hid (HN.out.later hb)
                clear hb HC hc
                go_wp2_with fail
                go_roundw
                case rel => exact ⟨k + 1, _, _, _, _, by simp, rfl, by omega, HN9.out⟩
                case measure => simp [intOf]; omega
          · by_cases hK5 : K = 5
            · subst hK5
              go_wp2_with fail
              refine (rel_o HW.out hs hn3 hbg').mono ?_
              have HOB := Lib.hid (blo_laid wr 36 #[.int .i64 5, .int .i64 s, .int .i64 v])
              have HOL := Lib.hid HW.out.inv.olen
              have HA : Hid (wr.heap.size ≠ g ∧ wr.heap.size ≠ bt) := ⟨by have := HS.out.tb.segs.lt; omega, by have := HS.out.tb.top.lt; omega⟩
              clear HW HS hx hy hz hK hK3 hK4
              rintro e w7 (⟨rfl, hne, hN, hf⟩ | ⟨c, hc0, rfl, hN⟩)
              · have HN := Lib.hid hN
                have cw := (hf _ _ _ HA.out.1 HA.out.2 HOB.out).cell 1
                simp at cw
                have f7 := hN.lb.frozen s
                have c7 := hN.cell s (by rw [HOL.out]; exact hs)
                have HN7 := Lib.hid (hN.put hbo' s 0)
                have j1 : (0 : Int) ≤ (s : Int) := by omega
                have j2 : (s : Int) < (n : Int) := by omega
                clear hN hf HOB
                have hne2 : ((s : Int) == last) = false := by rw [beq_eq_false_iff_ne]; exact hne
                clear hne
                go_wp2_with fail
                clear cw c7 f7 HN
                generalize w7.setCell ⟨bo, s, none⟩ (.int .i64 0) = w8 at *
                rcases one_count HN7.out.inv.one with ⟨hl, hc⟩ | ⟨hl, hc⟩
                all_goals
                  have HC := Lib.hid hc
                  have hl2 := hl
                  clear hl
                  try (have hl3 := Int.le_of_eq hl2; clear hl2)
                  go_wp2_with fail
                  refine (count_any 2 HN7.out.tb hn3).mono ?_
                  rintro e w9 ⟨rfl, hb⟩
                  rw [HC.out]
                  have HN9 := Lib.hid (HN7.out.later hb)
                  clear hb HC hc
                  go_wp2_with fail
                  go_roundw
                  case rel => exact ⟨k + 1, _, _, _, _, by simp, rfl, by omega, HN9.out⟩
                  case measure => simp [intOf]; omega
              · have HN := Lib.hid hN
                clear hN HOB HA HOL
                go_wp2_with fail
                rcases one_count HN.out.inv.one with ⟨hl, hc⟩ | ⟨hl, hc⟩
                all_goals
                  have HC := Lib.hid hc
                  have hl2 := hl
                  clear hl
                  try (have hl3 := Int.le_of_eq hl2; clear hl2)
                  go_wp2_with fail
                  refine (count_any 2 HN.out.tb hn3).mono ?_
                  rintro e w9 ⟨rfl, hb⟩
                  rw [HC.out]
                  have HN9 := Lib.hid (HN.out.later hb)
                  clear hb HC hc
                  go_wp2_with fail
                  go_roundw
                  case rel => exact ⟨k + 1, _, _, _, _, by simp, rfl, by omega, HN9.out⟩
                  case measure => simp [intOf]; omega
            · by_cases hK6 : K = 6
              · subst hK6
                go_wp2_with fail
                refine (sweep_o HW.out hn3 hbg').mono ?_
                have hlb := HW.out.lb.lt
                have HOL := Lib.hid HW.out.inv.olen
                have HF := Lib.hid HW.out.inv
                clear HW HS hx hy hz hK hK3 hK4 hK5
                rintro e w7 ⟨a7, m7, cap7, hm7, hmn, rfl, hown, hN⟩
                have HO := Lib.hid hown
                have HN := Lib.hid hN
                have HM := Lib.hid hm7
                clear hN hown hm7
                go_wp2_with fail
                go_loopw [128] (fun i wq => SLoop w (wr.alloc (.cells #[.int .i64 6, .int .i64 s, .int .i64 v] 36)) bt g bo n m7 cap7 a7 hand last F out i wq) (fun i _ => m7 - (intOf i).toNat)
                case atStart => exact ⟨0, Nat.zero_le _, rfl, HO.out, HN.out⟩
                case round =>
                  clear HO HN
                  obtain ⟨q, hq, rfl, ho, hN⟩ := hrel
                  have HO := Lib.hid ho
                  have HN := Lib.hid hN
                  clear ho hN
                  by_cases hlq : q < m7
                  · obtain ⟨s8, hs8, he8, hne8, hz8⟩ := HF.out.found q (by rw [← HM.out]; exact hlq)
                    obtain ⟨g8, o8, ha8, hc8⟩ := (Ints.own HO.out) (fun e => by have := HM.out; rw [e] at this; simp at this; omega)
                    have d8 := hc8 q (by rw [← HM.out]; exact hlq)
                    rw [he8] at d8
                    have HA8 := Lib.hid ha8
                    have c8 := HN.out.cell s8 (by rw [zeroed_length, HOL.out]; exact hs8)
                    rw [hz8] at c8
                    have f8 := HN.out.lb.frozen s8
                    have hzz : Hid (zeroed out (swL F n) (q + 1) = (zeroed out (swL F n) q).set s8 0) := by
                      show (zeroed out (swL F n) q).set ((swL F n).getD q 0).toNat 0 = _
                      rw [he8]; simp
                    have HN8 := Lib.hid (HN.out.put hbo' s8 0)
                    have HO8 := Lib.hid (own_far (p := ⟨bo, s8, none⟩) HO.out (own_ne HO.out hlb) (.int .i64 0))
                    have j1 : (0 : Int) ≤ (s8 : Int) := by omega
                    have j2 : (s8 : Int) < (n : Int) := by omega
                    have j3 : (0 : Int) ≤ (q : Int) := by omega
                    have j4 : (q : Int) < (m7 : Int) := by omega
                    have hne9 : ((s8 : Int) == last) = false := by rw [beq_eq_false_iff_ne]; exact hne8
                    subst ha8
                    clear hc8 he8 hz8 hne8 HN HO
                    go_wp2_with fail
                    go_roundw
                    case rel => exact ⟨q + 1, by omega, by simp, HO8.out, by rw [hzz.out]; exact HN8.out⟩
                    case measure => simp [intOf]; omega
                  · obtain rfl : q = m7 := by omega
                    clear hlq
                    rcases one_count HN.out.inv.one with ⟨hl, hc⟩ | ⟨hl, hc⟩
                    all_goals
                      have HC := Lib.hid hc
                      have hl2 := hl
                      clear hl
                      try (have hl3 := Int.le_of_eq hl2; clear hl2)
                      go_wp2_with fail
                      refine (count_any 2 HN.out.tb hn3).mono ?_
                      rintro e w9 ⟨rfl, hb⟩
                      rw [HC.out]
                      have HN9 := Lib.hid (HN.out.later hb)
                      clear hb HC hc
                      go_wp2_with fail
                      go_roundw
                      case rel => exact ⟨k + 1, _, _, _, _, by simp, rfl, by omega, HN9.out⟩
                      case measure => simp [intOf]; omega
              · have n1 : (K == 1) = false := by rw [beq_eq_false_iff_ne]; exact hK
                have n3 : (K == 3) = false := by rw [beq_eq_false_iff_ne]; exact hK3
                have n4 : (K == 4) = false := by rw [beq_eq_false_iff_ne]; exact hK4
                have n5 : (K == 5) = false := by rw [beq_eq_false_iff_ne]; exact hK5
                have n6 : (K == 6) = false := by rw [beq_eq_false_iff_ne]; exact hK6
                clear hK hK3 hK4 hK5 hK6
                rcases one_count HW.out.inv.one with ⟨hl, hc⟩ | ⟨hl, hc⟩
                all_goals
                  have HC := Lib.hid hc
                  have hl2 := hl
                  clear hl
                  try (have hl3 := Int.le_of_eq hl2; clear hl2)
                  go_wp2_with fail
                  refine (count_any 2 HW.out.tb hn3).mono ?_
                  rintro e w9 ⟨rfl, hb⟩
                  rw [HC.out]
                  have HN9 := Lib.hid (HW.out.later hb)
                  clear hb HC hc
                  go_wp2_with fail
                  go_roundw
                  case rel => exact ⟨k + 1, _, _, _, _, by simp, rfl, by omega, HN9.out⟩
                  case measure => simp [intOf]; omega
    · rcases (show len ≤ k ∨ (k < len ∧ 100 ≤ k) by omega) with h1 | ⟨h1, h2⟩
      all_goals
        clear hlt
        go_wp2
        go_ret
        exact ⟨rfl, HS.out.below⟩
theorem usageOnce_walk (a : Int) (adr : Option Addr) (len cap : Nat) (zs : List Int) (w : World) (_ : (Lit.int .i64 a).wf = true) (hp : Triples w adr len zs) :
    Calls Try.prog 4 #[.int .i64 a, .slice adr len cap] w fun e w' => e = .returned (.bool true) ∧ Below w.heap.size w w' := usageOnce_any a adr len cap zs w hp
end Go.Proofs.Ytfilbbiiiaodiaa
