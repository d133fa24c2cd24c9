/-
  The walk of UsageSweeps: a Sweep releases just those that a Release of each would.
-/
import Derived.Test.YtfilbbiiiaodiaaUsAwake
import Derived.Test.YtfilbbiiiaodiaaUsPlay
import Derived.Test.YtfilbbiiiaodiaaUsGet
import Derived.Test.YtfilbbiiiaodiaaTriples
import Derived.Test.YtfilbbiiiaodiaaKit
namespace Go.Proofs.Ytfilbbiiiaodiaa
open Go.RowKit

theorem cut12 (x : Int) : ∃ k : Nat, k < 12 ∧ wrap64 ((IntKind.u64.wrap x).tmod 12) = (k : Int) := by
  obtain ⟨k, hk, e⟩ := cut_mod x 11 (by decide)
  exact ⟨k, by omega, e⟩
theorem swF_live (F : List Int) (j : Nat) : ∀ k, (swF F k).getD (j * 3) 0 = F.getD (j * 3) 0
  | 0 => rfl
  | k + 1 => by
    show (if swOk F k then rel (swF F k) k else swF F k).getD (j * 3) 0 = _
    split
    · rw [rel_other _ _ _ (by omega) (by omega)]
      exact swF_live F j k
    · exact swF_live F j k
theorem swL_none (G : List Int) : ∀ k, (∀ j, j < k → ¬ swOk G j) → swL G k = []
  | 0, _ => rfl
  | k + 1, h => by
    show (if swOk G k then _ else _ : List Int) = []
    rw [if_neg (h k (by omega))]
    exact swL_none G k fun j hj => h j (by omega)
theorem swL_done (F : List Int) (n : Nat) (hF : F.length = 3 * n) : swL (swF F n) n = [] := by
  refine swL_none _ n fun j hj h => ?_
  have h1 : st (swF F n) j = 1 := h.1
  rw [swF_st F j n (by omega)] at h1
  have h2 := h.2
  rw [swF_live] at h2
  by_cases q : swOk F j
  · rw [if_pos ⟨hj, q⟩] at h1
    omega
  · rw [if_neg fun z => q z.2] at h1
    exact q ⟨h1, h2⟩
theorem swL_pre (F : List Int) (k : Nat) : ∀ m, ∃ M, swL F (k + m) = swL F k ++ M
  | 0 => ⟨[], by simp⟩
  | m + 1 => by
    obtain ⟨M, hM⟩ := swL_pre F k m
    show ∃ M', (if swOk F (k + m) then swL F (k + m) ++ [((k + m : Nat) : Int)] else swL F (k + m)) = _
    split
    · exact ⟨M ++ [((k + m : Nat) : Int)], by rw [hM, List.append_assoc]⟩
    · exact ⟨M, hM⟩
theorem swL_nth (F : List Int) (n s : Nat) (hs : s < n) (h : swOk F s) : (swL F s).length < (swL F n).length ∧ (swL F n).getD (swL F s).length 0 = (s : Int) := by
  obtain ⟨M, hM⟩ := swL_pre F (s + 1) (n - (s + 1))
  rw [show s + 1 + (n - (s + 1)) = n by omega] at hM
  have e : swL F (s + 1) = swL F s ++ [(s : Int)] := by show (if _ then _ else _) = _; rw [if_pos h]
  rw [e] at hM
  rw [hM]
  constructor
  · simp
  · rw [List.getD_eq_getElem?_getD]; simp
/-- A list whose row no table touches. -/
def Apt (w : World) (a : Option Addr) (L : List Int) (bt g : Nat) : Prop :=
  L ≠ [] → ∃ b cur, a = some ⟨b, 0, none⟩ ∧ Blo w b 3 cur ∧ (∀ i, i < L.length → cur[i]? = some (.int .i64 (L.getD i 0))) ∧ b ≠ g ∧ b ≠ bt
theorem Apt.own {w : World} {base n cap bt g : Nat} {a : Option Addr} {L : List Int} (h : w.ownsRow base 3 1 (.slice a n cap) n (cellsI L)) (h1 : bt < base) (h2 : g < base) : Apt w a L bt g := fun hL => by
  have hlen : n = L.length := by have := h.1; rw [cellsI_length, Nat.mul_one] at this; exact this.symm
  rcases id h.2 with ⟨_, h0⟩ | ⟨b, c, cur, h1', hb, hh, _, _, _, ht⟩
  · exact absurd (List.eq_nil_of_length_eq_zero (by omega)) hL
  · cases h1'
    refine ⟨b, cur, rfl, hh, fun i hi => ?_, by omega, by omega⟩
    have := cellsI_get L i hi
    rw [← ht, List.getElem?_take_of_lt (by omega), Array.getElem?_toList] at this
    exact this
theorem Apt.fr2 {w w' : World} {a : Option Addr} {L : List Int} {bt g : Nat} (h : Apt w a L bt g) (hf : Fr2 bt g w w') : Apt w' a L bt g := fun hL => by
  obtain ⟨b, cur, h1, h2, h3, h4, h5⟩ := h hL
  exact ⟨b, cur, h1, hf _ _ _ h4 h5 h2, h3, h4, h5⟩
theorem rel_yes' (F : List Int) (n s : Nat) (hs : s < n) (h : swOk F s) : relS n (swF F s) s = (0, swF F (s + 1)) := by
  have e1 : st (swF F s) s = 1 := by unfold st; rw [swF_at F s _ (by omega)]; exact h.1
  have e2 : (swF F s).getD (s * 3) 0 = 0 := by rw [swF_live]; exact h.2
  unfold relS
  rw [if_pos ⟨by omega, by omega⟩, Int.toNat_natCast, if_neg (by omega), if_pos ⟨e1, e2⟩]
  show _ = (0, (if swOk F s then rel (swF F s) s else swF F s))
  rw [if_pos h]
theorem rel_no' (F : List Int) (n s : Nat) (hs : s < n) (h : ¬ swOk F s) : ∃ c : Int, (c == 0) = false ∧ relS n (swF F s) s = (c, swF F (s + 1)) := by
  have e1 : st (swF F s) s = st F s := by unfold st; rw [swF_at F s _ (by omega)]
  have e2 : (swF F s).getD (s * 3) 0 = F.getD (s * 3) 0 := swF_live F s s
  have e3 : swF F (s + 1) = swF F s := by show (if _ then _ else _) = _; rw [if_neg h]
  unfold relS
  rw [if_pos ⟨by omega, by omega⟩, Int.toNat_natCast, e3, e1, e2]
  by_cases h0 : st F s = 0
  · exact ⟨103, rfl, by rw [if_pos h0]⟩
  · exact ⟨16, rfl, by rw [if_neg h0, if_neg (show ¬ (st F s = 1 ∧ F.getD (s * 3) 0 = 0) from h)]⟩
structure Two (w : World) (b1 g1 b2 g2 n : Nat) (ha hb : Int) (F G : List Int) (wr : World) : Prop where
  a : USt b1 g1 n 8 ha F wr
  b : USt b2 g2 n 8 hb G wr
  below : Below w.heap.size w wr
structure Far (w : World) (b1 g1 b2 g2 : Nat) : Prop where
  o : b1 ≠ b2 ∧ b1 ≠ g2 ∧ g1 ≠ b2 ∧ g1 ≠ g2
  lo : w.heap.size ≤ b1 ∧ w.heap.size ≤ g1 ∧ w.heap.size ≤ b2 ∧ w.heap.size ≤ g2
theorem Two.later {w wr w' : World} {b1 g1 b2 g2 n : Nat} {ha hb : Int} {F G : List Int} (h : Two w b1 g1 b2 g2 n ha hb F G wr) (hl : Below wr.heap.size wr w') : Two w b1 g1 b2 g2 n ha hb F G w' :=
  ⟨h.a.later hl, h.b.later hl, h.below.trans (hl.mono h.below.size)⟩
theorem Two.onA {w wr w' : World} {b1 g1 b2 g2 n : Nat} {ha hb ha' : Int} {F G F' : List Int} (h : Two w b1 g1 b2 g2 n ha hb F G wr) (hf : Far w b1 g1 b2 g2) (hu : USt b1 g1 n 8 ha' F' w') (hl : Below w.heap.size wr w') (hr : Fr2 b1 g1 wr w') : Two w b1 g1 b2 g2 n ha' hb F' G w' :=
  ⟨hu, h.b.fr2 hr (fun e => hf.o.2.2.1 e.symm) (fun e => hf.o.1 e.symm) (fun e => hf.o.2.2.2 e.symm) (fun e => hf.o.2.1 e.symm), h.below.trans hl⟩
theorem Two.onB {w wr w' : World} {b1 g1 b2 g2 n : Nat} {ha hb hb' : Int} {F G G' : List Int} (h : Two w b1 g1 b2 g2 n ha hb F G wr) (hf : Far w b1 g1 b2 g2) (hu : USt b2 g2 n 8 hb' G' w') (hl : Below w.heap.size wr w') (hr : Fr2 b2 g2 wr w') : Two w b1 g1 b2 g2 n ha hb' F G' w' :=
  ⟨h.a.fr2 hr hf.o.2.1 hf.o.1 hf.o.2.2.2 hf.o.2.2.1, hu, h.below.trans hl⟩
def L1 (w : World) (b1 g1 b2 g2 n : Nat) (i : Value) (wr : World) : Prop :=
  ∃ (k : Nat) (F : List Int) (hand : Int), i = .int .i64 k ∧ k ≤ 9223372036854775807 ∧ Two w b1 g1 b2 g2 n hand hand F F wr
def L2 (w : World) (b1 g1 b2 g2 n : Nat) (h1 h2 : Int) (F : List Int) (a : Option Addr) (m i : Value) (wr : World) : Prop :=
  ∃ s : Nat, s ≤ n ∧ i = .int .i64 s ∧ m = .int .i64 (swL F s).length ∧ Two w b1 g1 b2 g2 n h1 h2 (swF F n) (swF F s) wr ∧ Apt wr a (swL F n) b2 g2
def L3 (w : World) (b1 g1 b2 g2 n : Nat) (h1 h2 : Int) (F : List Int) (i : Value) (wr : World) : Prop :=
  ∃ s : Nat, s ≤ n ∧ i = .int .i64 s ∧ Two w b1 g1 b2 g2 n h1 h2 F F wr
theorem ust_new {w' : World} {bt g n : Nat} (hn : 1 ≤ n) (ht : Tb w' bt g TB IN n 8 (-1) (List.replicate (3 * n) 0)) : USt bt g n 8 (-1) (List.replicate (3 * n) 0) w' :=
  ⟨ht, fun j _ => by rw [List.getD_eq_getElem?_getD, List.getElem?_replicate]; split <;> simp, fun j _ => .inl (by unfold st; rw [List.getD_eq_getElem?_getD, List.getElem?_replicate]; split <;> rfl), by omega⟩
theorem swF_stt {F : List Int} {n : Nat} (hF : F.length = 3 * n) (h : ∀ j, j < n → st F j = 0 ∨ st F j = 1 ∨ st F j = 2) : ∀ j, j < n → st (swF F n) j = 0 ∨ st (swF F n) j = 1 ∨ st (swF F n) j = 2 := fun j hj => by
  rw [swF_st F j n (by omega)]
  split
  · exact .inl rfl
  · exact h j hj
set_option maxRecDepth 100000 in
set_option maxHeartbeats 4000000 in
theorem usageSweeps_any (a : Int) (adr : Option Addr) (len cap : Nat) (zs : List Int) (w : World) (hp : Triples w adr len zs) :
    Calls Try.prog 7 #[.int .i64 a, .slice adr len cap] w fun e w' => e = .returned (.bool true) ∧ Below w.heap.size w w' := by
  obtain ⟨m, hm, hme⟩ := cut12 a
  have HAw := Lib.hid (awake_any w)
  have HNew := Lib.hid (fun W => new_any (m + 1) 8 W (by omega) (by omega) (by decide) (by decide))
  have hn1 : 1 ≤ m + 1 := by omega
  have hn2 : m + 1 ≤ 12 := by omega
  have e2 : Hid ((m : Int) + 1 = ((m + 1 : Nat) : Int)) := by show _ = _; omega
  have HP := Lib.hid hp
  have hlen := hp.1
  clear hp
  go_enter Try.func7, Try.ntmps7
  go_wp2_with fail
  refine HAw.out.mono ?_
  rintro e w1 ⟨rfl, hb1⟩
  have HB1 := Lib.hid hb1
  clear hb1 HAw
  go_wp2_with fail
  rw [e2.out]
  try rw [hme]
  clear hme e2
  generalize m + 1 = n at *
  refine (HNew.out _).mono ?_
  rintro e w2 ⟨b1, g1, rfl, ht, hbt, hbg, hb⟩
  have HT := Lib.hid (ust_new hn1 ht)
  have HB2 : Hid (Below w.heap.size w w2) := HB1.out.trans (hb.mono HB1.out.size)
  have hl1 : w.heap.size ≤ b1 := Nat.le_trans HB1.out.size hbt
  have hl2 : w.heap.size ≤ g1 := Nat.le_trans HB1.out.size hbg
  clear ht hb hbt hbg
  go_wp2_with fail
  refine (HNew.out _).mono ?_
  rintro e w3 ⟨b2, g2, rfl, ht, hbt, hbg, hb⟩
  have HFar : Hid (Far w b1 g1 b2 g2) := ⟨⟨by have := HT.out.lt; omega, by have := HT.out.lt; omega, by have := HT.out.lt; omega, by have := HT.out.lt; omega⟩, hl1, hl2, Nat.le_trans HB2.out.size hbt, Nat.le_trans HB2.out.size hbg⟩
  have HS0 : Hid (Two w b1 g1 b2 g2 n (-1) (-1) (List.replicate (3 * n) 0) (List.replicate (3 * n) 0) w3) := ⟨HT.out.later hb, ust_new hn1 ht, HB2.out.trans (hb.mono HB2.out.size)⟩
  have hn3 : n ≤ 512 := by omega
  clear ht hb hbt hbg HT HB2 HNew hl1 hl2
  go_wp2_with fail
  go_loopw [9] (fun i wr => L1 w b1 g1 b2 g2 n i wr) (fun i _ => len - (intOf i).toNat)
  case atStart => exact ⟨0, _, _, rfl, by decide, HS0.out⟩
  case round =>
    obtain ⟨k, F, hand, rfl, hk, hS⟩ := hrel
    have HS := Lib.hid hS
    clear hS
    by_cases hlt : k < len ∧ k < 60
    · obtain ⟨h1, h2⟩ := hlt
      obtain ⟨b, o, rfl, hc⟩ := HP.out.2.2 (by omega)
      have hx := cell_later HS.out.below (hc k h1).1
      have hy := cell_later HS.out.below (hc k h1).2.1
      have hz := cell_later HS.out.below (hc k h1).2.2
      have HC := Lib.hid (hc k h1)
      have i1 : (0 : Int) ≤ (k : Int) := by omega
      have i2 : (k : Int) < (len : Int) := by omega
      clear hc
      generalize zs.getD (k * 3) 0 = K at *
      generalize zs.getD (k * 3 + 1) 0 = x at *
      generalize zs.getD (k * 3 + 2) 0 = v at *
      go_wp2_with fail
      refine (play_c (B := w.heap.size) K x v HS.out.a hn1 hn3 HFar.out.lo.2.1 HFar.out.lo.1).mono ?_
      rintro e w5 ⟨rfl, hu, hb, hf⟩
      have HS5 := Lib.hid (HS.out.onA HFar.out hu hb hf)
      clear hu hb hf hx hy hz HS
      have hx := cell_later HS5.out.below HC.out.1
      have hy := cell_later HS5.out.below HC.out.2.1
      have hz := cell_later HS5.out.below HC.out.2.2
      go_wp2_with fail
      refine (play_c (B := w.heap.size) K x v HS5.out.b hn1 hn3 HFar.out.lo.2.2.2 HFar.out.lo.2.2.1).mono ?_
      rintro e w6 ⟨rfl, hu, hb, hf⟩
      have HS6 := Lib.hid (HS5.out.onB HFar.out hu hb hf)
      clear hu hb hf hx hy hz HS5
      go_wp2_with fail
      go_roundw
      case rel => exact ⟨k + 1, _, _, by simp, by omega, HS6.out⟩
      case measure => simp [intOf]; omega
    · rcases (show len ≤ k ∨ (k < len ∧ 60 ≤ k) by omega) with h1 | ⟨h1, h2⟩
      all_goals
        clear hlt
        go_wp2_with fail
        have hlb := HS.out.b.lt
        have HFl := Lib.hid HS.out.a.tb.len
        refine (sweep_any (B := w.heap.size) HS.out.a.tb hn3 HFar.out.lo.2.1 HS.out.below.size HS.out.a.stt).mono ?_
        rintro e w7 ⟨a7, cap7, rfl, hown, ht, hb, hf⟩
        have HO := Lib.hid (Apt.own hown hlb.1 hlb.2)
        have hu : USt b1 g1 n 8 hand (swF F n) w7 := ⟨ht, HS.out.a.lv.sweep n, swF_stt HFl.out HS.out.a.stt, HS.out.a.hd⟩
        have HS7 := Lib.hid (HS.out.onA HFar.out hu hb hf)
        clear hown ht hb hf hu HS
        obtain ⟨M, hM⟩ : ∃ M, (swL F n).length = M := ⟨_, rfl⟩
        rw [hM]
        have HM := Lib.hid hM
        clear hM
        go_wp2_with fail
        go_loopw [11, 12] (fun m i wr => L2 w b1 g1 b2 g2 n hand hand F a7 m i wr) (fun _ i _ => n - (intOf i).toNat)
        case atStart => exact ⟨0, Nat.zero_le _, rfl, rfl, HS7.out, HO.out⟩
        case round =>
          clear HS7 HO
          obtain ⟨s, hs, rfl, rfl, hS, hA⟩ := hrel
          have HS := Lib.hid hS
          have HA := Lib.hid hA
          clear hS hA
          by_cases hls : s < n
          · by_cases hok : swOk F s
            · obtain ⟨hq1, hq2⟩ := swL_nth F n s hls hok
              have HR := Lib.hid (rel_c (B := w.heap.size) (s : Int) HS.out.b hn3 HFar.out.lo.2.2.2)
              have HE := Lib.hid (rel_yes' F n s hls hok)
              have HL : Hid ((swL F (s + 1)).length = (swL F s).length + 1) := by show (if swOk F s then _ else _ : List Int).length = _; rw [if_pos hok]; simp
              have HQ2 := Lib.hid hq2
              have hll := swL_len F s
              clear hok hq2
              go_wp2_with fail
              refine HR.out.mono ?_
              rintro e w8 ⟨rfl, hu, hb, hf⟩
              rw [HE.out]
              rw [HE.out] at hu
              have HS8 := Lib.hid (HS.out.onB HFar.out hu hb hf)
              have HA8 := Lib.hid (HA.out.fr2 hf)
              clear hu hb hf HS HA HR
              obtain ⟨b8, cur8, ha8, hc8, hd8, _⟩ := HA8.out (fun e => by rw [e] at hq1; simp at hq1)
              have c8 := (hc8.cell (swL F s).length).trans (hd8 _ hq1)
              rw [HQ2.out] at c8
              have HL9 : Hid ((swL F (s + 1)).length = (swL F s).length + 1) := HL
              clear hd8 hc8
              generalize (swL F s).length = q at *
              rw [HM.out] at hq1
              subst ha8
              have i1 : (0 : Int) ≤ (q : Int) := by omega
              have i2 : (q : Int) < (M : Int) := by omega
              go_wp2_with fail
              go_roundw
              case rel => exact ⟨s + 1, by omega, by simp, by rw [HL.out]; simp, HS8.out, HA8.out⟩
              case measure => simp [intOf]; omega
            · obtain ⟨c, hc0, he⟩ := rel_no' F n s hls hok
              have HR := Lib.hid (rel_c (B := w.heap.size) (s : Int) HS.out.b hn3 HFar.out.lo.2.2.2)
              have HE := Lib.hid he
              have HL : Hid (swL F (s + 1) = swL F s) := by show (if swOk F s then _ else _ : List Int) = _; rw [if_neg hok]
              clear hok he
              go_wp2_with fail
              refine HR.out.mono ?_
              rintro e w8 ⟨rfl, hu, hb, hf⟩
              rw [HE.out]
              rw [HE.out] at hu
              have HS8 := Lib.hid (HS.out.onB HFar.out hu hb hf)
              have HA8 := Lib.hid (HA.out.fr2 hf)
              clear hu hb hf HS HA HR
              go_wp2_with fail
              go_roundw
              case rel => exact ⟨s + 1, by omega, by simp, by rw [HL.out], HS8.out, HA8.out⟩
              case measure => simp [intOf]; omega
          · obtain rfl : s = n := by omega
            clear hls
            rw [HM.out]
            have HZ := Lib.hid (swL_done F s HFl.out)
            go_wp2_with fail
            generalize swF F s = G at *
            go_loopw [13] (fun i wr => L3 w b1 g1 b2 g2 s hand hand G i wr) (fun i _ => s - (intOf i).toNat)
            case atStart => exact ⟨0, Nat.zero_le _, rfl, HS.out⟩
            case round =>
              clear HS HA
              obtain ⟨q, hq, rfl, hS⟩ := hrel
              have HS := Lib.hid hS
              clear hS
              by_cases hlq : q < s
              · obtain ⟨L, hLq⟩ : ∃ L, G.getD (q * 3) 0 = L := ⟨_, rfl⟩
                obtain ⟨S, hSq⟩ : ∃ S, G.getD (q * 3 + 1) 0 = S := ⟨_, rfl⟩
                obtain ⟨A, hAq⟩ : ∃ A, G.getD (q * 3 + 2) 0 = A := ⟨_, rfl⟩
                have HG1 := Lib.hid (get_any L S A HS.out.a.tb hlq hn3 hLq hSq hAq)
                have HG2 := Lib.hid (fun W (h : USt b2 g2 s 8 hand G W) => get_any L S A h.tb hlq hn3 hLq hSq hAq)
                clear hLq hSq hAq
                go_wp2_with fail
                refine HG1.out.mono ?_
                rintro e w8 ⟨rfl, hb8⟩
                have HS8 := Lib.hid ((HS.out.later hb8).later (sup_us w8 (.cells #[.int .i64 L, .int .i64 S, .int .i64 A] IN)))
                have HX := Lib.hid (blo_laid w8 IN #[.int .i64 L, .int .i64 S, .int .i64 A])
                clear hb8 HG1 HS
                go_wp2_with fail
                generalize (w8.alloc (.cells #[.int .i64 L, .int .i64 S, .int .i64 A] IN)) = w9 at *
                generalize w8.heap.size = x9 at *
                refine (HG2.out _ HS8.out.b).mono ?_
                rintro e w10 ⟨rfl, hb8⟩
                have HX10 := Lib.hid ((HX.out.later hb8).later (sup_us w10 (.cells #[.int .i64 L, .int .i64 S, .int .i64 A] IN)))
                have HS10 := Lib.hid ((HS8.out.later hb8).later (sup_us w10 (.cells #[.int .i64 L, .int .i64 S, .int .i64 A] IN)))
                have HY := Lib.hid (blo_laid w10 IN #[.int .i64 L, .int .i64 S, .int .i64 A])
                clear hb8 HG2 HS8 HX
                have x0 := HX10.out.cell 0
                have x1 := HX10.out.cell 1
                have x2 := HX10.out.cell 2
                have y0 := HY.out.cell 0
                have y1 := HY.out.cell 1
                have y2 := HY.out.cell 2
                simp at x0 x1 x2
                have hself : ∀ z : Int, (z != z) = false := fun z => by simp
                go_wp2_with fail
                go_roundw
                case rel => exact ⟨q + 1, by omega, by simp, HS10.out⟩
                case measure => simp [intOf]; omega
              · obtain rfl : q = s := by omega
                clear hlq
                go_wp2_with fail
                refine (sweep_any (B := w.heap.size) HS.out.a.tb hn3 HFar.out.lo.2.1 HS.out.below.size HS.out.a.stt).mono ?_
                rintro e w8 ⟨a8, cap8, rfl, _, ht, hb, hf⟩
                have HB8 : Hid (Below w.heap.size w w8) := HS.out.below.trans hb
                rw [HZ.out]
                clear ht hb hf HS
                go_wp2
                go_ret
                exact ⟨by simp, HB8.out⟩
theorem usageSweeps_walk (a : Int) (adr : Option Addr) (len cap : Nat) (zs : List Int) (w : World) (_ : (Lit.int .i64 a).wf = true) (hp : Triples w adr len zs) :
    Calls Try.prog 7 #[.int .i64 a, .slice adr len cap] w fun e w' => e = .returned (.bool true) ∧ Below w.heap.size w w' := usageSweeps_any a adr len cap zs w hp
end Go.Proofs.Ytfilbbiiiaodiaa
