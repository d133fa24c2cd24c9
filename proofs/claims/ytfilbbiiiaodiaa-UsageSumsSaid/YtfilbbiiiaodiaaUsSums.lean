/-
  The walk of UsageSums: what is added is there, segment by segment and in all, never below 0 and never above the size.
-/
import Derived.Test.YtfilbbiiiaodiaaUsAwake
import Derived.Test.YtfilbbiiiaodiaaUsAdd
import Derived.Test.YtfilbbiiiaodiaaUsGet
import Derived.Test.YtfilbbiiiaodiaaPairs
import Derived.Test.YtfilbbiiiaodiaaKit
namespace Go.Proofs.Ytfilbbiiiaodiaa
open Go.RowKit

theorem cut64 (x : Int) : ∃ k : Nat, k < 64 ∧ wrap64 ((IntKind.u64.wrap x).tmod 64) = (k : Int) := by
  obtain ⟨k, hk, e⟩ := cut_mod x 63 (by decide)
  exact ⟨k, by omega, e⟩
theorem cut5 (x : Int) : ∃ k : Nat, k < 5 ∧ wrap64 ((IntKind.u64.wrap x).tmod 5) = (k : Int) := by
  obtain ⟨k, hk, e⟩ := cut_mod x 4 (by decide)
  exact ⟨k, by omega, e⟩
def lives (F : List Int) : List Value := (List.range 5).map fun s => .int .i64 (F.getD (s * 3) 0)
theorem lives_get (F : List Int) (s : Nat) (hs : s < 5) : (lives F).toArray[s]? = some (.int .i64 (F.getD (s * 3) 0)) := by
  simp [lives, List.getElem?_range hs]
theorem lives_set (F : List Int) (hF : F.length = 15) (s : Nat) (hs : s < 5) (v : Int) : (lives F).set s (.int .i64 v) = lives (F.set (s * 3) v) := by
  apply List.ext_getElem (by simp [lives])
  intro i h1 h2
  have hi : i < 5 := by simpa [lives] using h2
  simp only [lives, List.getElem_set, List.getElem_map, List.getElem_range, List.getD_eq_getElem?_getD, List.getElem?_set]
  by_cases e : s = i
  · subst e
    have : s * 3 < F.length := by omega
    simp [this]
  · have e3 : ¬ s * 3 = i * 3 := by omega
    simp [e, e3]
def zer5 : List Int := List.replicate (3 * 5) 0
structure SRelS (w : World) (bt g bl : Nat) (size : Int) (F : List Int) (wr : World) : Prop where
  tb : Tb wr bt g TB IN 5 size (-1) F
  lv : ∀ s, s < 5 → 0 ≤ F.getD (s * 3) 0 ∧ F.getD (s * 3) 0 ≤ size
  lb : Blo wr bl 49 (lives F).toArray
  below : Below w.heap.size w wr
  apart : bl ≠ g ∧ bl ≠ bt
theorem sumL_le5 {F : List Int} {size : Int} (h : ∀ s, s < 5 → 0 ≤ F.getD (s * 3) 0 ∧ F.getD (s * 3) 0 ≤ size) (hs : 1 ≤ size ∧ size ≤ 64) : ∀ k, k ≤ 5 → 0 ≤ sumL F k ∧ sumL F k ≤ 64 * (k : Int)
  | 0, _ => ⟨Int.le_refl _, by show (0 : Int) ≤ _; simp⟩
  | k + 1, hk => by
    have ih := sumL_le5 h hs k (by omega)
    have hk := h k (by omega)
    show 0 ≤ sumL F k + _ ∧ sumL F k + _ ≤ _
    omega
def MRel (w : World) (bt g bl : Nat) (size : Int) (F : List Int) (c i : Value) (wr : World) : Prop :=
  ∃ q : Nat, i = .int .i64 q ∧ q ≤ 5 ∧ c = .int .i64 (sumL F q) ∧ SRelS w bt g bl size F wr
def LRel (w : World) (bt g bl : Nat) (size : Int) (i : Value) (wr : World) : Prop :=
  ∃ (k : Nat) (F : List Int), i = .int .i64 k ∧ k ≤ 9223372036854775807 ∧ SRelS w bt g bl size F wr
set_option maxRecDepth 100000 in
set_option maxHeartbeats 4000000 in
theorem usageSums_any (a : Int) (adr : Option Addr) (len cap : Nat) (zs : List Int) (w : World) (hp : Pairs w adr len zs) :
    Calls Try.prog 5 #[.int .i64 a, .slice adr len cap] w fun e w' => e = .returned (.bool true) ∧ Below w.heap.size w w' := by
  obtain ⟨m, hm, hme⟩ := cut64 a
  have HAw := Lib.hid (awake_any w)
  have HNew := Lib.hid (fun W => new_any 5 ((m : Int) + 1) W (by decide) (by decide) (by omega) (by omega))
  have hs1 : 1 ≤ (m : Int) + 1 := by omega
  have hs2 : (m : Int) + 1 ≤ 64 := by omega
  have HP := Lib.hid hp
  have hlen := hp.1
  clear hp
  go_enter Try.func5, Try.ntmps5
  go_wp2_with fail
  refine HAw.out.mono ?_
  rintro e w1 ⟨rfl, hb1⟩
  have HB1 := Lib.hid hb1
  clear hb1 HAw
  go_wp2_with fail
  clear hme
  generalize (m : Int) + 1 = size at *
  refine (HNew.out _).mono ?_
  rintro e w2 ⟨bt, g, rfl, ht, hbt, hbg, hb⟩
  have HT := Lib.hid (ht.later (sup_us w2 (.cells #[.int .i64 0, .int .i64 0, .int .i64 0, .int .i64 0, .int .i64 0] 49)))
  have HL := Lib.hid (blo_laid w2 49 #[.int .i64 0, .int .i64 0, .int .i64 0, .int .i64 0, .int .i64 0])
  have HB2 : Hid (Below w.heap.size w (w2.alloc (.cells #[.int .i64 0, .int .i64 0, .int .i64 0, .int .i64 0, .int .i64 0] 49))) := (HB1.out.trans (hb.mono HB1.out.size)).alloc (Nat.le_trans HB1.out.size hb.size) _
  have hap : w2.heap.size ≠ g ∧ w2.heap.size ≠ bt := ⟨by have := ht.segs.lt; omega, by have := ht.top.lt; omega⟩
  have hbt' : w.heap.size ≤ bt := Nat.le_trans HB1.out.size hbt
  have hbg' : w.heap.size ≤ g := Nat.le_trans HB1.out.size hbg
  have hbl' : w.heap.size ≤ w2.heap.size := Nat.le_trans HB1.out.size hb.size
  clear ht hb HNew hbt hbg
  go_wp2_with fail
  generalize (w2.alloc (.cells #[.int .i64 0, .int .i64 0, .int .i64 0, .int .i64 0, .int .i64 0] 49)) = w3 at *
  generalize w2.heap.size = bl at *
  go_loopw [8] (fun i wr => LRel w bt g bl size i wr) (fun i _ => len - (intOf i).toNat)
  case atStart => exact ⟨0, List.replicate (3 * 5) 0, rfl, by decide, ⟨HT.out, fun s hs => by rw [List.getD_eq_getElem?_getD, List.getElem?_replicate]; split <;> (simp; omega), HL.out, HB2.out, hap⟩⟩
  case round =>
    obtain ⟨k, F, rfl, hk, hS⟩ := hrel
    have HS := Lib.hid hS
    clear hS
    by_cases hlt : k < len ∧ k < 100
    · obtain ⟨h1, h2⟩ := hlt
      obtain ⟨b, o, rfl, hc⟩ := HP.out.2.2 (by omega)
      have hx := cell_later HS.out.below (hc k h1).1
      have hy := cell_later HS.out.below (hc k h1).2
      have hvb := HP.out.2.1 (k * 2 + 1)
      generalize zs.getD (k * 2) 0 = x at *
      generalize zs.getD (k * 2 + 1) 0 = v at *
      obtain ⟨s, hs, hse⟩ := cut5 x
      have i1 : (0 : Int) ≤ (k : Int) := by omega
      have i2 : (k : Int) < (len : Int) := by omega
      clear hc
      go_wp2_with fail
      go_quiet (fail)
      rw [hse]
      have HQ : Hid (SRelS w bt g bl size F (wr.drewN nq)) := ⟨⟨HS.out.tb.top, HS.out.tb.segs, HS.out.tb.len, HS.out.tb.apart⟩, HS.out.lv, HS.out.lb, us_drewN HS.out.below nq, HS.out.apart⟩
      clear hse hx hy HS
      generalize wr.drewN nq = wq at *
      have hL := HQ.out.lb.cell s
      rw [lives_get F s hs] at hL
      have hLb := HQ.out.lv s hs
      have fL := HQ.out.lb.frozen s
      have hLe : Hid (F.getD (s * 3) 0 = F.getD (s * 3) 0) := rfl
      obtain ⟨L, hLL⟩ : ∃ L, F.getD (s * 3) 0 = L := ⟨_, rfl⟩
      rw [hLL] at hL hLb
      have HLL := Lib.hid hLL
      clear hLL hLe
      have u1 : IntKind.i64.wrap (-L) = -L := IntWalk.i64_in _ (by omega)
      have u2 : IntKind.i64.wrap (size - L) = size - L := IntWalk.i64_in _ (by omega)
      have j1 : (0 : Int) ≤ (s : Int) := by omega
      have j2 : (s : Int) < 5 := by omega
      by_cases hfit : -L ≤ v ∧ v ≤ size - L
      · obtain ⟨v1, v2⟩ := hfit
        have u3 : IntKind.i64.wrap (L + v) = L + v := IntWalk.i64_in _ (by omega)
        go_wp2_with fail
        refine (add_yes (B := w.heap.size) v L HQ.out.tb hs (by decide) HLL.out hLb ⟨hs1, hs2⟩ ⟨v1, v2⟩ HQ.out.below.size hbg').mono ?_
        rintro e w7 ⟨rfl, ht, hb, hf⟩
        have HT7 := Lib.hid ht
        have hB7 : Below w.heap.size w w7 := HQ.out.below.trans hb
        have hlb := hf _ _ _ HQ.out.apart.1 HQ.out.lb
        have d0 := hlb.cell s
        have f7 := hlb.frozen s
        rw [lives_get F s hs, HLL.out] at d0
        have hlb2 := hlb.put s (.int .i64 (L + v))
        rw [List.setIfInBounds_toArray, lives_set F (by rw [HQ.out.tb.len]) s hs] at hlb2
        have hlv : ∀ q, q < 5 → 0 ≤ (F.set (s * 3) (L + v)).getD (q * 3) 0 ∧ (F.set (s * 3) (L + v)).getD (q * 3) 0 ≤ size := fun q hq => by
          rw [List.getD_eq_getElem?_getD, List.getElem?_set]
          by_cases e : s * 3 = q * 3
          · rw [if_pos e, if_pos (by rw [HQ.out.tb.len]; omega)]
            simp
            omega
          · rw [if_neg e, ← List.getD_eq_getElem?_getD]
            exact HQ.out.lv q hq
        have HN : Hid (SRelS w bt g bl size (F.set (s * 3) (L + v)) (w7.setCell ⟨bl, s, none⟩ (.int .i64 (L + v)))) :=
          ⟨⟨ht.top.far (fun e => HQ.out.apart.2 e.symm) _, ht.segs.far (fun e => HQ.out.apart.1 e.symm) _, ht.len, ht.apart⟩, hlv, hlb2, hB7.setCell (p := ⟨bl, s, none⟩) hbl' _, HQ.out.apart⟩
        clear ht hb hf hlb hlb2 hlv hL fL
        go_wp2_with fail
        go_roundw
        case rel => exact ⟨k + 1, _, by simp, by omega, HN.out⟩
        case measure => simp [intOf]; omega
      · have hA := Lib.hid (add_no (B := wq.heap.size) v L HQ.out.tb hs (by decide) HLL.out hLb ⟨hs1, hs2⟩ hfit (Nat.le_refl _))
        rcases (show v < -L ∨ (-L ≤ v ∧ size - L < v) by omega) with v1 | ⟨v1, v2⟩
        all_goals
          clear hfit
          go_wp2_with fail
          refine hA.out.mono ?_
          rintro e w7 ⟨rfl, ht, hb⟩
          have HN : Hid (SRelS w bt g bl size F w7) := ⟨ht, HQ.out.lv, HQ.out.lb.later hb, HQ.out.below.trans (hb.mono HQ.out.below.size), HQ.out.apart⟩
          clear ht hb hL fL
          go_wp2_with fail
          go_roundw
          case rel => exact ⟨k + 1, F, by simp, by omega, HN.out⟩
          case measure => simp [intOf]; omega
    · rcases (show len ≤ k ∨ (k < len ∧ 100 ≤ k) by omega) with h1 | ⟨h1, h2⟩
      all_goals
        clear hlt
        go_wp2_with fail
        have hsum := sumL_le5 HS.out.lv ⟨hs1, hs2⟩
        have HSum := Lib.hid hsum
        obtain ⟨wo, rfl⟩ : ∃ wo : World, wo = wr := ⟨_, rfl⟩
        clear hsum
        go_loopw [13, 96] (fun c i wr => MRel w bt g bl size F c i wr) (fun _ i _ => 5 - (intOf i).toNat)
        case atStart => exact ⟨0, rfl, by decide, rfl, HS.out⟩
        case round =>
          obtain ⟨q, rfl, hq, rfl, hS⟩ := hrel
          have HR := Lib.hid hS
          clear hS
          have hsq := HSum.out q hq
          by_cases hlq : q < 5
          · have hLb := HR.out.lv q hlq
            have hsn := HSum.out (q + 1) (by omega)
            have HNs : Hid (sumL F (q + 1) = sumL F q + F.getD (q * 3) 0) := rfl
            rw [HNs.out] at hsn
            obtain ⟨L, hLq⟩ : ∃ L, F.getD (q * 3) 0 = L := ⟨_, rfl⟩
            obtain ⟨S, hSq⟩ : ∃ S, F.getD (q * 3 + 1) 0 = S := ⟨_, rfl⟩
            obtain ⟨A, hAq⟩ : ∃ A, F.getD (q * 3 + 2) 0 = A := ⟨_, rfl⟩
            have HGet := Lib.hid (get_any L S A HR.out.tb hlq (by decide) hLq hSq hAq)
            have hlg := lives_get F q hlq
            rw [hLq] at hLb hsn HNs hlg
            have HLg := Lib.hid hlg
            clear hLq hSq hAq hlg
            go_wp2_with fail
            refine HGet.out.mono ?_
            rintro e w8 ⟨rfl, hb8⟩
            have HB8 : Hid (Below w.heap.size w (w8.alloc (.cells #[.int .i64 L, .int .i64 S, .int .i64 A] IN))) := (HR.out.below.trans (hb8.mono HR.out.below.size)).alloc (Nat.le_trans HR.out.below.size hb8.size) _
            have HR8 : Hid (SRelS w bt g bl size F (w8.alloc (.cells #[.int .i64 L, .int .i64 S, .int .i64 A] IN))) :=
              ⟨(HR.out.tb.later hb8).later (sup_us w8 _), HR.out.lv, (HR.out.lb.later hb8).later (sup_us w8 _), HB8.out, HR.out.apart⟩
            have HX8 := Lib.hid (blo_laid w8 IN #[.int .i64 L, .int .i64 S, .int .i64 A])
            have c8 : (w8.alloc (.cells #[.int .i64 L, .int .i64 S, .int .i64 A] IN)).cell? ⟨w8.heap.size, 0, none⟩ = some (.int .i64 L) := (HX8.out.cell 0).trans rfl
            have l8 : (w8.alloc (.cells #[.int .i64 L, .int .i64 S, .int .i64 A] IN)).cell? ⟨bl, q, none⟩ = some (.int .i64 L) := (HR8.out.lb.cell q).trans HLg.out
            have j1 : (0 : Int) ≤ (q : Int) := by omega
            have j2 : (q : Int) < 5 := by omega
            clear hb8
            go_wp2_with fail
            generalize (w8.alloc (.cells #[.int .i64 L, .int .i64 S, .int .i64 A] IN)) = w9 at *
            generalize w8.heap.size = g9 at *
            have hself : (L != L) = false := by simp
            go_quiet (fail)
            have HQ : Hid (SRelS w bt g bl size F (w9.drewN nq)) := ⟨⟨HR8.out.tb.top, HR8.out.tb.segs, HR8.out.tb.len, HR8.out.tb.apart⟩, HR8.out.lv, HR8.out.lb, us_drewN HR8.out.below nq, HR8.out.apart⟩
            have l9 : (w9.drewN nq).cell? ⟨bl, q, none⟩ = some (.int .i64 L) := l8
            clear c8 l8 HR8 HX8 HB8 hself
            generalize w9.drewN nq = wz at *
            go_wp2_with fail
            go_roundw
            case rel => exact ⟨q + 1, by simp, by omega, by rw [HNs.out], HQ.out⟩
            case measure => simp [intOf]; omega
          · obtain rfl : q = 5 := by omega
            clear hlq
            have hF : ∀ i, 0 ≤ F.getD (i * 3) 0 ∧ F.getD (i * 3) 0 ≤ 64 := fun i => by
              by_cases h5 : i < 5
              · have := HR.out.lv i h5
                omega
              · rw [List.getD_eq_getElem?_getD, List.getElem?_eq_none (by rw [HR.out.tb.len]; omega)]
                simp
            have HTo := Lib.hid (total_any HR.out.tb (by decide) hF (fun k hk => by have := HSum.out k hk; omega))
            clear hF
            go_wp2_with fail
            refine HTo.out.mono ?_
            rintro e w9 ⟨rfl, hb9⟩
            have HB9 : Hid (Below w.heap.size w w9) := HR.out.below.trans (hb9.mono HR.out.below.size)
            clear hb9
            go_wp2_with fail
            go_ret
            exact ⟨by first | rfl | simp, HB9.out⟩
theorem usageSums_walk (a : Int) (adr : Option Addr) (len cap : Nat) (zs : List Int) (w : World) (_ : (Lit.int .i64 a).wf = true) (hp : Pairs w adr len zs) :
    Calls Try.prog 5 #[.int .i64 a, .slice adr len cap] w fun e w' => e = .returned (.bool true) ∧ Below w.heap.size w w' := usageSums_any a adr len cap zs w hp
end Go.Proofs.Ytfilbbiiiaodiaa
