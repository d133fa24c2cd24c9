/-
  The document's pack: fits.
-/
import Derived.Test.YtonlhkhjdnaojaaPdItems
namespace Go.Proofs.Ytonlhkhjdnaojaa
open Go.RowKit

theorem take_snocO {α : Type} (l : List α) (k : Nat) (x : α) (h : l[k]? = some x) : l.take (k + 1) = l.take k ++ [x] := by
  rw [List.take_add_one, h]; rfl
theorem bs_last (l : List It) (x : It) : (bs (l ++ [x])).last = x.f := by rw [bs_snoc, bstep_last]
theorem bs_take (L : List It) (k : Nat) (x : It) (h : L[k]? = some x) : bs (L.take (k + 1)) = bstep (bs (L.take k)) x := by rw [take_snocO L k x h, bs_snoc]
theorem bs_wd_le (l : List It) : (bs l).wd ≤ 10 + 6 * l.length := by
  refine snoc_ind (p := fun l => (bs l).wd ≤ 10 + 6 * l.length) (Nat.le_refl _) (fun l x h => ?_) l
  rw [bs_snoc, List.length_append, List.length_singleton]
  unfold bstep
  split
  · show (bs l).wd + 1 ≤ _; omega
  · split
    · show (bs l).wd + 2 ≤ _; omega
    · show (bs l).wd + 6 ≤ _; omega
theorem bs_sm_le (l : List It) : (bs l).sm ≤ l.length := by
  refine snoc_ind (p := fun l => (bs l).sm ≤ l.length) (Nat.le_refl _) (fun l x h => ?_) l
  rw [bs_snoc, List.length_append, List.length_singleton]
  unfold bstep
  split
  · show (bs l).sm ≤ _; omega
  · split
    · show (bs l).sm + 1 ≤ _; omega
    · show 1 ≤ _; omega
def fitsL (L : List It) (left : Int) : Bool := decide ((bs L).sm ≤ 30) && (decide ((2 + L.length : Int) ≤ left) && decide ((bs L).wd ≤ 88))
structure FtR (L : List It) (n k : Nat) (wd sm : Value) : Prop where
  kn : k ≤ n
  wd : wd = .int .i64 ((bs (L.take k)).wd : Nat)
  sm : sm = .int .i64 ((bs (L.take k)).sm : Nat)
set_option maxRecDepth 100000 in
set_option maxHeartbeats 4000000 in
theorem rfits_any (w : World) (L : List It) (a : Option Addr) (n c : Nat) (left : Int) (hI : ItR w a L) (hn : n = L.length) (hn3 : n ≤ 1000) (hsm : ∀ k, k < n → (bs (L.take k)).sm ≤ 30) :
    Calls Try.prog 21 #[.slice a n c, .int .i64 left] w fun e w' => e = .returned (.bool (fitsL L left)) ∧ Below w.heap.size w w' := by
  have HI := Lib.hid hI
  have HN := Lib.hid hn
  have HSm := Lib.hid hsm
  clear hI hn hsm
  go_enter Try.func21, Try.ntmps21
  go_wp2_with fail
  go_loopw [5, 6, 10] (fun wd sm t wr => ∃ k : Nat, t = .int .i64 k ∧ FtR L n k wd sm ∧ (bs (L.take k)).sm ≤ 30 ∧ Below w.heap.size w wr) (fun _ _ t _ => n - (intOf t).toNat)
  case atStart => exact ⟨0, rfl, ⟨Nat.zero_le _, rfl, rfl⟩, (show (bs []).sm ≤ 30 from by decide), Below.refl _ _⟩
  case round =>
    obtain ⟨k, rfl, ⟨hk, rfl, rfl⟩, h30, hB⟩ := hrel
    have HB := Lib.hid hB
    clear hB
    by_cases hlt : k < n
    · have hkl : k < L.length := by rw [← HN.out]; exact hlt
      obtain ⟨x, hx⟩ : ∃ x, L[k]? = some x := ⟨L[k], List.getElem?_eq_getElem hkl⟩
      obtain ⟨b, o, rfl, c1, c2⟩ := HI.out k x hx
      have hbt := bs_take L k x hx
      have hwl := bs_wd_le (L.take k)
      have hsl := bs_sm_le (L.take k)
      rw [List.length_take, Nat.min_eq_left (by omega)] at hwl hsl
      have hlast : (k = 0 ∧ (bs (L.take k)).last = 0) ∨ (∃ y, 0 < k ∧ L[k - 1]? = some y ∧ (bs (L.take k)).last = y.f) := by
        rcases Nat.eq_zero_or_pos k with h0 | h0
        · left; subst h0; exact ⟨rfl, rfl⟩
        · right
          obtain ⟨y, hy⟩ : ∃ y, L[k - 1]? = some y := ⟨L[k - 1]'(by omega), List.getElem?_eq_getElem (by omega)⟩
          refine ⟨y, h0, hy, ?_⟩
          have := take_snocO L (k - 1) y hy
          rw [show k - 1 + 1 = k by omega] at this
          rw [this, bs_last]
      have hfl : k + 1 = n → fitsL L left = (decide ((bs (L.take (k + 1))).sm ≤ 30) && (decide ((2 + L.length : Int) ≤ left) && decide ((bs (L.take (k + 1))).wd ≤ 88))) := fun e => by
        rw [show L.take (k + 1) = L from by rw [e]; exact List.take_of_length_le (by have := HN.out; omega)]
        rfl
      have hs2 := fun h => HSm.out (k + 1) h
      obtain ⟨W, hW⟩ : ∃ W, (bs (L.take k)).wd = W := ⟨_, rfl⟩
      obtain ⟨S, hS⟩ : ∃ S, (bs (L.take k)).sm = S := ⟨_, rfl⟩
      rw [hW] at hwl
      rw [hS] at hsl h30
      simp only [hW, hS]
      have c1 := cell_later HB.out c1
      have k0 : (0 : Int) ≤ (k : Int) := by omega
      have k1 : (k : Int) < (n : Int) := by omega
      by_cases hx0 : x.f = 0
      · have j1 : ((x.f : Int) - 1) < 0 := by omega
        have hbs : bs (L.take (k + 1)) = ⟨zAdd (bs (L.take k)).z 0 x.n, (bs (L.take k)).n + 1, 0, W + 1, S⟩ := by
          rw [hbt]; unfold bstep; rw [if_pos hx0, hW, hS]
        have HW1 : Hid ((bs (L.take (k + 1))).wd = W + 1) := by show _ = _; rw [hbs]
        have HS1 : Hid ((bs (L.take (k + 1))).sm = S) := by show _ = _; rw [hbs]
        clear hkl hx c2 hbt hlast hfl hs2 hW hS hbs
        go_wp2_with fail
        go_roundw
        case rel => exact ⟨k + 1, by simp, ⟨by omega, by rw [HW1.out]; simp, by rw [HS1.out]⟩, by rw [HS1.out]; exact h30, HB.out⟩
        case measure => simp [intOf]; omega
      · have j1 : ¬ ((x.f : Int) - 1) < 0 := by omega
        rcases hlast with ⟨rfl, hl0⟩ | ⟨y, hk0, hy, hly⟩
        · have hnl : ¬ (bs (L.take 0)).last = x.f := by rw [hl0]; exact fun e => hx0 e.symm
          have hbs : bs (L.take (0 + 1)) = ⟨zAdd (zNew (bs (L.take 0)).z x.f) ((bs (L.take 0)).z.nf + 1) x.n, (bs (L.take 0)).n + 1, x.f, W + 6, 1⟩ := by
            rw [hbt]; unfold bstep; rw [if_neg hx0, if_neg hnl, hW]
          have HW1 : Hid ((bs (L.take (0 + 1))).wd = W + 6) := by show _ = _; rw [hbs]
          have HS1 : Hid ((bs (L.take (0 + 1))).sm = 1) := by show _ = _; rw [hbs]
          simp at c1
          clear hkl hx c2 hbt hfl hs2 hW hS hbs hnl
          go_wp2_with fail
          refine wp_region_kept (by kernel_rfl) (by kernel_rfl) ?_
          repeat (go_big_quiet_step (fail))
          refine wpQuiet_nil ?_
          rintro W2 ⟨wx, rfl⟩
          have HB2 := Lib.hid (HB.out.trans (wx.below.mono HB.out.size))
          clear c1
          go_wp2_with fail
          go_roundw
          case rel => exact ⟨0 + 1, by simp, ⟨by omega, by rw [HW1.out]; simp <;> omega, by rw [HS1.out]; rfl⟩, by rw [HS1.out]; decide, HB2.out⟩
          case measure => simp [intOf]; omega
        · obtain ⟨b2, o2, e2, p1, -⟩ := HI.out (k - 1) y hy
          cases e2
          have p1 := cell_later HB.out p1
          obtain ⟨q, rfl⟩ : ∃ q, k = q + 1 := ⟨k - 1, by omega⟩
          rw [Nat.add_sub_cancel] at p1
          have g1 : ∀ z : Kept wr, z.at_.cell? ⟨b, o + (q + 1) * 2, none⟩ = some (.int .i64 ((x.f : Int) - 1)) := fun z => cell_later z.below c1
          have g2 : ∀ z : Kept wr, z.at_.cell? ⟨b, o + q * 2, none⟩ = some (.int .i64 ((y.f : Int) - 1)) := fun z => cell_later z.below p1
          have e0 : ((q : Int) + 1 == 0) = false := beq_false_of_ne (by omega)
          have e2 : (q : Int) + 1 - 1 = (q : Int) := by omega
          have q0 : (0 : Int) ≤ (q : Int) := by omega
          have q1 : (q : Int) < (n : Int) := by omega
          by_cases hyx : y.f = x.f
          · have e1 : (((x.f : Int) - 1) != ((y.f : Int) - 1)) = false := by rw [hyx]; simp
            have hbs : bs (L.take (q + 1 + 1)) = ⟨zAdd (bs (L.take (q + 1))).z (bs (L.take (q + 1))).z.nf x.n, (bs (L.take (q + 1))).n + 1, x.f, W + 2, S + 1⟩ := by
              rw [hbt]; unfold bstep; rw [if_neg hx0, if_pos (hly.trans hyx), hW, hS]
            have hw1 : (bs (L.take (q + 1 + 1))).wd = W + 2 := by rw [hbs]
            have hs1 : (bs (L.take (q + 1 + 1))).sm = S + 1 := by rw [hbs]
            rw [hs1] at hs2
            rw [hs1, hw1] at hfl
            have HW1 := Lib.hid hw1
            have HS1 := Lib.hid hs1
            by_cases h31 : S + 1 ≤ 30
            · have j3 : ¬ (30 : Int) < (S : Int) + 1 := by omega
              clear hkl hx c2 hbt hfl hs2 hW hS hbs hy hly p1 hw1 hs1
              go_wp2_with fail
              refine wp_region_kept (by kernel_rfl) (by kernel_rfl) ?_
              repeat (first | go_big_quiet_step (fail) | simp only [e0] | simp only [e2])
              refine wpQuiet_nil ?_
              rintro W2 ⟨wx, rfl⟩
              have HB2 := Lib.hid (HB.out.trans (wx.below.mono HB.out.size))
              clear c1 g1 g2
              go_wp2_with fail
              go_roundw
              case rel => exact ⟨q + 1 + 1, by simp, ⟨by omega, by rw [HW1.out]; simp, by rw [HS1.out]; simp⟩, by rw [HS1.out]; exact h31, HB2.out⟩
              case measure => simp [intOf]; omega
            · have j3 : (30 : Int) < (S : Int) + 1 := by omega
              have hkn : q + 1 + 1 = n := by
                rcases Nat.lt_or_ge (q + 1 + 1) n with h | h
                · exact absurd (hs2 h) h31
                · omega
              have HV : Hid (fitsL L left = false) := by
                show _ = _
                rw [hfl hkn, decide_eq_false h31]; rfl
              clear hkl hx c2 hbt hfl hs2 hW hS hbs hy hly p1 hw1 hs1 hkn
              go_wp2_with fail
              refine wp_region_kept (by kernel_rfl) (by kernel_rfl) ?_
              repeat (first | go_big_quiet_step (fail) | simp only [e0] | simp only [e2])
              refine wpQuiet_nil ?_
              rintro W2 ⟨wx, rfl⟩
              have HB2 := Lib.hid (HB.out.trans (wx.below.mono HB.out.size))
              clear c1 g1 g2
              go_wp2
              go_ret
              exact ⟨by rw [HV.out]; rfl, HB2.out⟩
          · have e1 : (((x.f : Int) - 1) != ((y.f : Int) - 1)) = true := by
              simp only [bne_iff_ne, ne_eq]
              intro h
              exact hyx (by omega)
            have hnl : ¬ (bs (L.take (q + 1))).last = x.f := by rw [hly]; exact hyx
            have hbs : bs (L.take (q + 1 + 1)) = ⟨zAdd (zNew (bs (L.take (q + 1))).z x.f) ((bs (L.take (q + 1))).z.nf + 1) x.n, (bs (L.take (q + 1))).n + 1, x.f, W + 6, 1⟩ := by
              rw [hbt]; unfold bstep; rw [if_neg hx0, if_neg hnl, hW]
            have HW1 : Hid ((bs (L.take (q + 1 + 1))).wd = W + 6) := by show _ = _; rw [hbs]
            have HS1 : Hid ((bs (L.take (q + 1 + 1))).sm = 1) := by show _ = _; rw [hbs]
            clear hkl hx c2 hbt hfl hs2 hW hS hbs hy hly p1 hnl
            go_wp2_with fail
            refine wp_region_kept (by kernel_rfl) (by kernel_rfl) ?_
            repeat (first | go_big_quiet_step (fail) | simp only [e0] | simp only [e2])
            refine wpQuiet_nil ?_
            rintro W2 ⟨wx, rfl⟩
            have HB2 := Lib.hid (HB.out.trans (wx.below.mono HB.out.size))
            clear c1 g1 g2
            go_wp2_with fail
            go_roundw
            case rel => exact ⟨q + 1 + 1, by simp, ⟨by omega, by rw [HW1.out]; simp <;> omega, by rw [HS1.out]; rfl⟩, by rw [HS1.out]; decide, HB2.out⟩
            case measure => simp [intOf]; omega
    · have hke : k = n := by omega
      have hkn : L.take k = L := by rw [List.take_of_length_le]; have := HN.out; omega
      rw [hkn] at h30
      have hn2 : L.length = n := HN.out.symm
      have HV : Hid (fitsL L left = (decide ((2 + n : Int) ≤ left) && decide ((bs L).wd ≤ 88))) := by
        show _ = _
        unfold fitsL
        rw [decide_eq_true h30, hn2]; rfl
      have hwl := bs_wd_le L
      simp only [hkn]
      generalize (bs L).wd = W at *
      have k9 : ¬ (k : Int) < (n : Int) := by omega
      clear hkn h30
      by_cases g1 : (2 + n : Int) ≤ left
      · by_cases g2 : (W : Int) ≤ 88
        · have hv : decide (W ≤ 88) = true := decide_eq_true (by omega)
          rw [decide_eq_true g1, hv] at HV
          clear hv
          go_wp2
          go_ret
          exact ⟨by rw [HV.out]; simp <;> omega, HB.out⟩
        · have hv : decide (W ≤ 88) = false := decide_eq_false (by omega)
          rw [decide_eq_true g1, hv] at HV
          clear hv
          go_wp2
          go_ret
          exact ⟨by rw [HV.out]; simp <;> omega, HB.out⟩
      · rw [decide_eq_false g1] at HV
        go_wp2
        go_ret
        exact ⟨by rw [HV.out]; simp <;> omega, HB.out⟩
end Go.Proofs.Ytonlhkhjdnaojaa
