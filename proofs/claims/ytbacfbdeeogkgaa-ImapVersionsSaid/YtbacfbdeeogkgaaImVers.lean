/-
  The walk of ImapVersions: between two Allocs of one inode there is a Free of it, and its version is greater the second time.
-/
import Derived.Test.YtbacfbdeeogkgaaImVerMem
import Derived.Deep.RegionHeld3
import Derived.Deep.CutRange
namespace Go.Proofs.Ytbacfbdeeogkgaa
open Go.RowKit Go.Maps

theorem cut30 (x : Int) : ∃ k : Nat, k < 30 ∧ wrap64 ((IntKind.u64.wrap x).tmod 30) = (k : Int) := by
  obtain ⟨k, hk, e⟩ := cut_mod x 29 (by decide)
  exact ⟨k, by omega, e⟩
theorem cut4096 (x : Int) : ∃ k : Nat, k < 4096 ∧ IntKind.i64.wrap ((IntKind.u64.wrap x).tmod 4096) = (k : Int) := by
  have h0 : 0 ≤ IntKind.u64.wrap x := by rw [IntKind.wrap_u64]; omega
  rw [Int.tmod_eq_emod_of_nonneg h0]
  generalize IntKind.u64.wrap x = y at *
  exact ⟨(y % 4096).toNat, by omega, by rw [IntWalk.i64_in _ (by omega)]; omega⟩
theorem cut_var (x : Int) (n : Nat) (h0 : 0 < n) (hn : n < 4611686018427387904) : ∃ k : Nat, k < n ∧ wrap64 ((IntKind.u64.wrap x).tmod (n : Int)) = (k : Int) := by
  obtain ⟨k, hk, e⟩ := cut_mod x (n - 1) (by omega)
  refine ⟨k, by omega, ?_⟩
  rw [← e]
  congr 2
  omega
theorem first_free (B : Nat → Bool) : ∀ n : Nat, (∃ p, 1 ≤ p ∧ p < n ∧ B p = false ∧ ∀ j, 1 ≤ j → j < p → B j = true) ∨ ∀ j, 1 ≤ j → j < n → B j = true
  | 0 => .inr fun j _ hj => by omega
  | n + 1 => by
    rcases first_free B n with ⟨p, h1, h2, h3, h4⟩ | h
    · exact .inl ⟨p, h1, by omega, h3, h4⟩
    · by_cases hn : 1 ≤ n
      · cases hb : B n with
        | false => exact .inl ⟨n, hn, by omega, hb, h⟩
        | true =>
          refine .inr fun j h1 hj => ?_
          by_cases e : j = n
          · subst e; exact hb
          · exact h j h1 (by omega)
      · exact .inr fun j h1 hj => by omega
def CutR (w : World) (bm gs gd n : Nat) (s7 s8 : Value) (wx : World) : Prop :=
  ∃ bg bw, s7 = .slice (some ⟨bg, 0, none⟩) (n + 1) (n + 1) ∧ s8 = .slice (some ⟨bw, 0, none⟩) (n + 1) (n + 1) ∧ w.heap.size ≤ bg ∧ w.heap.size ≤ bw ∧ VM w bm gs gd n bg bw 0 (fun _ => 0) (fun _ => 0) (fun _ => false) (fun _ => false) (fun _ => 0) wx
theorem cut_one {w w2 : World} {bm gs gd n : Nat} (h : Im w2 bm gs gd n 0 (fun _ => 0) (fun _ => 0) (fun _ => false)) (hb : Below w.heap.size w w2) :
    VM w bm gs gd n w2.heap.size (w2.heap.size + 1) 0 (fun _ => 0) (fun _ => 0) (fun _ => false) (fun _ => false) (fun _ => 0) ((w2.alloc (.cells (List.replicate (n + 1) (.bool false)).toArray 4)).alloc (.cells (List.replicate (n + 1) (.int .i64 0)).toArray 3)).drew := by
  have hb2 : Below w2.heap.size w2 ((w2.alloc (.cells (List.replicate (n + 1) (.bool false)).toArray 4)).alloc (.cells (List.replicate (n + 1) (.int .i64 0)).toArray 3)).drew := (((Below.refl _ _).alloc (Nat.le_refl _) _).alloc (by simp) _).drew
  refine ⟨h.later hb2, ⟨_, ((blo_laid w2 4 _).alloc _).drew, fun j hj => rep_get (n + 1) _ j (by omega)⟩, ⟨_, ?_, fun j hj => rep_get (n + 1) _ j (by omega)⟩, hb.trans (hb2.mono hb.size)⟩
  have := blo_laid (w2.alloc (.cells (List.replicate (n + 1) (.bool false)).toArray 4)) 3 (List.replicate (n + 1) (.int .i64 0)).toArray
  have e : (w2.alloc (.cells (List.replicate (n + 1) (.bool false)).toArray 4)).heap.size = w2.heap.size + 1 := by simp
  rw [e] at this
  exact this.drew
theorem cut_two {w w2 : World} {bm gs gd n : Nat} (h : Im w2 bm gs gd n 0 (fun _ => 0) (fun _ => 0) (fun _ => false)) (hb : Below w.heap.size w w2) :
    VM w bm gs gd n (w2.heap.size + 1) w2.heap.size 0 (fun _ => 0) (fun _ => 0) (fun _ => false) (fun _ => false) (fun _ => 0) ((w2.alloc (.cells (List.replicate (n + 1) (.int .i64 0)).toArray 3)).alloc (.cells (List.replicate (n + 1) (.bool false)).toArray 4)).drew := by
  have hb2 : Below w2.heap.size w2 ((w2.alloc (.cells (List.replicate (n + 1) (.int .i64 0)).toArray 3)).alloc (.cells (List.replicate (n + 1) (.bool false)).toArray 4)).drew := (((Below.refl _ _).alloc (Nat.le_refl _) _).alloc (by simp) _).drew
  refine ⟨h.later hb2, ⟨_, ?_, fun j hj => rep_get (n + 1) _ j (by omega)⟩, ⟨_, ((blo_laid w2 3 _).alloc _).drew, fun j hj => rep_get (n + 1) _ j (by omega)⟩, hb.trans (hb2.mono hb.size)⟩
  have := blo_laid (w2.alloc (.cells (List.replicate (n + 1) (.int .i64 0)).toArray 3)) 4 (List.replicate (n + 1) (.bool false)).toArray
  have e : (w2.alloc (.cells (List.replicate (n + 1) (.int .i64 0)).toArray 3)).heap.size = w2.heap.size + 1 := by simp
  rw [e] at this
  exact this.drew
def SetV (w W : World) (bm gs gd n bg bw N : Nat) (V : Nat → Int) (B g : Nat → Bool) (u : Nat → Int) (s : Nat) (e : Ending) (w' : World) : Prop :=
  ∃ (c : Int) (N' : Nat) (A' : Nat → Int), e = .returned (.int .i64 c) ∧ (c == 0) = g (s + 1) ∧ N' ≤ N + 1 ∧ VM w bm gs gd n bg bw N' A' V B g u w' ∧ Fr1 gs W w'
theorem set_ver {w W : World} {bm gs gd n bg bw N k s : Nat} {A V : Nat → Int} {B g : Nat → Bool} {u : Nat → Int} (a : Int) (h : VM w bm gs gd n bg bw N A V B g u W) (hV : VP n k V B g u) (hs : s < n) (hn : n ≤ 200) (h1 : w.heap.size ≤ gs) (h2 : w.heap.size ≤ gd) (hN : N ≤ 1000000) (ha : 0 ≤ a ∧ a < 4096) :
    Calls Try.prog 14 #[.pointer (some ⟨bm, 0, none⟩), .int .i64 ((s : Int) + 1), .int .i64 a] W (SetV w W bm gs gd n bg bw N V B g u s) := by
  by_cases h0 : s = 0
  · subst h0
    refine (set_one a h.im hn).mono ?_
    rintro e w' ⟨rfl, rfl⟩
    exact ⟨22, N, A, rfl, by rw [hV.g1]; rfl, by omega, h, fun _ _ _ _ hx => hx⟩
  · have hgb := hV.gb s (by omega) hs
    cases hb : B s with
    | false =>
      refine (set_no a h.im hs (by omega) hn ha hb).mono ?_
      rintro e w' ⟨rfl, rfl⟩
      exact ⟨2, N, A, rfl, by rw [hgb, hb]; rfl, by omega, h, fun _ _ _ _ hx => hx⟩
    | true =>
      refine (set_yes (C := w.heap.size) a h.im hs (by omega) hn h1 h2 hN ha hb).mono ?_
      rintro e w' ⟨rfl, ⟨N', hN', hI⟩, hbl, hf⟩
      exact ⟨0, N', _, rfl, by rw [hgb, hb]; rfl, hN', h.call hI hbl hf, hf⟩
def FreeV (w W : World) (bm gs gd n bg bw k N : Nat) (g : Nat → Bool) (u : Nat → Int) (s : Nat) (e : Ending) (w' : World) : Prop :=
  ∃ (c : Int) (N' : Nat) (A' V' : Nat → Int) (B' : Nat → Bool), e = .returned (.int .i64 c) ∧ (c == 0) = g (s + 1) ∧ N' ≤ N + 1 ∧ VM w bm gs gd n bg bw N' A' V' B' g u w' ∧ VP n (k + 1) V' B' (upd g (s + 1) false) u ∧ Fr1 gs W w'
theorem free_ver {w W : World} {bm gs gd n bg bw N k s : Nat} {A V : Nat → Int} {B g : Nat → Bool} {u : Nat → Int} (h : VM w bm gs gd n bg bw N A V B g u W) (hV : VP n k V B g u) (hs : s < n) (hn : n ≤ 200) (h1 : w.heap.size ≤ gs) (h2 : w.heap.size ≤ gd) (hN : N ≤ 1000000) (hk : k ≤ 100) :
    Calls Try.prog 15 #[.pointer (some ⟨bm, 0, none⟩), .int .i64 ((s : Int) + 1)] W (FreeV w W bm gs gd n bg bw k N g u s) := by
  have same : g (s + 1) = false → upd g (s + 1) false = g := fun e => by rw [← e]; exact upd_self g (s + 1)
  by_cases h0 : s = 0
  · subst h0
    refine (free_one h.im hn).mono ?_
    rintro e w' ⟨rfl, rfl⟩
    exact ⟨22, N, A, V, B, rfl, by rw [hV.g1]; rfl, by omega, h, by rw [same hV.g1]; exact hV.more, fun _ _ _ _ hx => hx⟩
  · have hgb := hV.gb s (by omega) hs
    cases hb : B s with
    | false =>
      refine (free_no h.im hs (by omega) hn hb).mono ?_
      rintro e w' ⟨rfl, rfl⟩
      exact ⟨2, N, A, V, B, rfl, by rw [hgb, hb]; rfl, by omega, h, by rw [same (by rw [hgb, hb])]; exact hV.more, fun _ _ _ _ hx => hx⟩
    | true =>
      have hu := hV.uv s (by omega) hs
      refine (free_yes (C := w.heap.size) h.im hs (by omega) hn h1 h2 hN hb ⟨hu.1, by omega⟩).mono ?_
      rintro e w' ⟨rfl, ⟨N', hN', hI⟩, hbl, hf⟩
      exact ⟨0, N', _, _, _, rfl, by rw [hgb, hb]; rfl, hN', h.call hI hbl hf, hV.free hk s (by omega) hs hb, hf⟩
def VL0 (w : World) (bm gs gd n bg bw : Nat) (t : Value) (wr : World) : Prop :=
  ∃ (k : Nat) (u : Nat → Int), k ≤ n + 1 ∧ t = .int .i64 k ∧ VM w bm gs gd n bg bw 0 (fun _ => 0) (fun _ => 0) (fun _ => false) (fun _ => false) u wr ∧ ∀ j, j < k → u j = -1
def VL1 (w : World) (bm gs gd n bg bw : Nat) (t : Value) (wr : World) : Prop :=
  ∃ (k N : Nat) (A V : Nat → Int) (B g : Nat → Bool) (u : Nat → Int), t = .int .i64 k ∧ k ≤ 100 ∧ N ≤ k ∧ VM w bm gs gd n bg bw N A V B g u wr ∧ VP n k V B g u
set_option maxRecDepth 100000 in
set_option maxHeartbeats 4000000 in
theorem imapVersions_any (a : Int) (adr : Option Addr) (len cap : Nat) (zs : List Int) (w : World) (hp : Quads w adr len zs) :
    Calls Try.prog 4 #[.int .i64 a, .slice adr len cap] w fun e w' => e = .returned (.bool true) ∧ Below w.heap.size w w' := by
  obtain ⟨m, hm, hme⟩ := cut30 a
  have HAw := Lib.hid (awake_any w)
  have HNew := Lib.hid (fun W => newI_any (m + 4) W (by omega) (by omega))
  have hn1 : 4 ≤ m + 4 := by omega
  have hn2 : m + 4 ≤ 33 := by omega
  have e2 : Hid ((m : Int) + 4 = ((m + 4 : Nat) : Int)) := by show _ = _; omega
  have HP := Lib.hid hp
  have hlen := hp.1
  clear hp
  go_enter Try.func4, Try.ntmps4
  go_wp2_with fail
  refine HAw.out.mono ?_
  rintro e w1 ⟨rfl, hb1⟩
  have HB1 := Lib.hid hb1
  clear hb1 HAw
  go_wp2_with fail
  rw [e2.out]
  try rw [hme]
  clear hme e2
  generalize m + 4 = n at *
  refine (HNew.out _).mono ?_
  rintro e w2 ⟨bm, gs, gd, rfl, hI, ⟨l1, l2, l3⟩, hb⟩
  have HI2 := Lib.hid hI
  have HB2 := Lib.hid (HB1.out.trans (hb.mono HB1.out.size))
  have l2' : w.heap.size ≤ gs := Nat.le_trans HB1.out.size l2
  have l3' : w.heap.size ≤ gd := Nat.le_trans HB1.out.size l3
  clear hI hb HNew l1 l2 l3
  have hmb := fun W : World => run_make_z (P := Try.prog) 39 4 (.bool false) 1 Try.underlying39 info_bool rfl (by decide) W ((n : Int) + 1) (n + 1) (by omega) (by omega)
  have hmi := fun W : World => run_make_z (P := Try.prog) 40 3 (.int .i64 0) 8 Try.underlying40 info_int rfl (by decide) W ((n : Int) + 1) (n + 1) (by omega) (by omega)
  go_wp2_with fail
  have hbs := HB2.out.size
  go_cut [7, 8] from 34 to 39 (fun s7 s8 wx => CutR w bm gs gd n s7 s8 wx)
  case first =>
    go_region
    · go_wp2_with fail
      go_meet
      exact ⟨_, _, rfl, rfl, hbs, by omega, by simpa using cut_one HI2.out HB2.out⟩
    · go_wp2_with fail
      go_meet
      exact ⟨_, _, rfl, rfl, by omega, hbs, by simpa using cut_two HI2.out HB2.out⟩
  case rest =>
    obtain ⟨bg, bw, rfl, rfl, lg, lw, hVM⟩ := hcut
    have HM0 := Lib.hid hVM
    clear hVM hmb hmi HI2 HB2 hbs
    go_wp2_with fail
    go_loopw [42] (fun t wr => VL0 w bm gs gd n bg bw t wr) (fun t _ => n + 1 - (intOf t).toNat)
    case atStart => exact ⟨0, _, Nat.zero_le _, rfl, HM0.out, fun j hj => by omega⟩
    case round =>
      clear HM0
      obtain ⟨k, u, hk, rfl, hM, hu⟩ := hrel
      have HM := Lib.hid hM
      have HU := Lib.hid hu
      clear hM hu
      by_cases hlt : k < n + 1
      · obtain ⟨c0, f0⟩ := HM.out.cellW k (by omega)
        have HN := Lib.hid (HM.out.setW lw k (-1) (by omega))
        have i1 : (0 : Int) ≤ (k : Int) := by omega
        have i2 : (k : Int) < (n : Int) + 1 := by omega
        clear HM
        go_wp2_with fail
        go_roundw
        case rel => exact ⟨k + 1, _, by omega, by simp, HN.out, fun j hj => by
          by_cases e : j = k
          · subst e; rw [upd_at]
          · rw [upd_ne _ _ _ e]; exact HU.out j (by omega)⟩
        case measure => simp [intOf]; omega
      · have HU2 : Hid (∀ j, j ≤ n → u j = -1) := fun j hj => HU.out j (by omega)
        have i2 : ¬ (k : Int) < (n : Int) + 1 := by omega
        clear hlt
        have HS0 : Hid (VL1 w bm gs gd n bg bw (.int .i64 0) wr) := ⟨0, 0, _, _, _, _, u, rfl, by decide, Nat.le_refl _, HM.out, ⟨rfl, fun _ _ _ => rfl, fun j a b => ⟨Int.le_refl _, Int.le_refl _, (fun q => absurd q (by decide)), (fun _ => by rw [HU2.out (j + 1) (by omega)]; decide)⟩⟩⟩
        clear HM HU HU2 hk
        go_wp2_with fail
        clear i2
        obtain ⟨wo, rfl⟩ : ∃ wo : World, wo = wr := ⟨_, rfl⟩
        go_loopw [10] (fun t wr => VL1 w bm gs gd n bg bw t wr) (fun t _ => 100 - (intOf t).toNat)
        case atStart => exact HS0.out
        case round =>
          clear HS0
          obtain ⟨k, N, A, V, B, g, u, rfl, hk, hN, hM, hP⟩ := hrel
          have HM := Lib.hid hM
          have HV := Lib.hid hP
          clear hM hP
          by_cases hlt : k < len ∧ k < 100
          · obtain ⟨h1, h2⟩ := hlt
            obtain ⟨b, o, rfl, hc⟩ := HP.out.2.2 (by omega)
            have hx := cell_later HM.out.below (hc k h1).1
            have hy := cell_later HM.out.below (hc k h1).2.1
            have hz := cell_later HM.out.below (hc k h1).2.2.1
            have hv := cell_later HM.out.below (hc k h1).2.2.2
            generalize zs.getD (k * 4) 0 = K at *
            generalize zs.getD (k * 4 + 1) 0 = x at *
            generalize zs.getD (k * 4 + 2) 0 = y at *
            generalize zs.getD (k * 4 + 3) 0 = v at *
            obtain ⟨s, hs, hse⟩ := cut_var x n (by omega) (by omega)
            obtain ⟨z, hz4, hze⟩ := cut4096 v
            have i1 : (0 : Int) ≤ (k : Int) := by omega
            have i2 : (k : Int) < (len : Int) := by omega
            have hn0 : ((n : Int) == 0) = false := by rw [beq_eq_false_iff_ne]; omega
            have hnw : IntKind.u64.wrap (n : Int) = (n : Int) := by rw [IntKind.wrap_u64]; omega
            have HM1 := Lib.hid (HM.out.later (sup_im wr (.cells #[.int .i64 K, .int .i64 ((s : Int) + 1), .int .i64 y, .int .i64 v] 42)))
            have HOp := Lib.hid (blo_laid wr 42 #[.int .i64 K, .int .i64 ((s : Int) + 1), .int .i64 y, .int .i64 v])
            clear hc HM
            by_cases hK1 : K = 1
            · subst hK1
              rcases first_free B n with ⟨p, hp1, hpn, hbp, hpre⟩ | hall
              · have HA := Lib.hid (alloc_yes (C := w.heap.size) (i := p) HM1.out.im hpn hp1 (by omega) l2' (by rw [HV.out.can hk p hp1 hpn, hbp]; rfl) fun j a b => full_not (hpre j a b))
                have hgp := HV.out.gb p hp1 hpn
                rw [hbp] at hgp
                have hup := ((HV.out.uv p hp1 hpn).2.2.2 hbp)
                have HPre : Hid (∀ j, 1 ≤ j → j < p → g (j + 1) = true) := fun j a b => by rw [HV.out.gb j a (by omega)]; exact hpre j a b
                have HV2 := Lib.hid (HV.out.alloc p hp1)
                have p1 : (1 : Int) ≤ (p : Int) := by omega
                have p2 : (p : Int) < (n : Int) := by omega
                obtain ⟨vp, hvp⟩ : ∃ vp, V p = vp := ⟨_, rfl⟩
                have HVp := Lib.hid hvp
                rw [hvp] at hup
                clear hpre hbp hvp
                go_wp2_with fail
                refine HA.out.mono ?_
                rintro e w5 ⟨rfl, hI, hb, hf⟩
                rw [HVp.out]
                have hM5 := HM1.out.call hI hb hf
                obtain ⟨cg, fg⟩ := hM5.cellG (p + 1) (by omega)
                obtain ⟨cw, fw⟩ := hM5.cellW (p + 1) (by omega)
                rw [hgp] at cg
                have HM5 := Lib.hid hM5
                obtain ⟨up, hupe⟩ : ∃ up, u (p + 1) = up := ⟨_, rfl⟩
                rw [hupe] at cw hup
                have hup2 : ¬ vp ≤ up := by omega
                clear hI hb hf hM5 HA HM1 hgp hupe hx hy hz hv hse hze
                go_wp2_with fail
                obtain ⟨wo2, rfl⟩ : ∃ wo2 : World, wo2 = wr := ⟨_, rfl⟩
                go_loop [15] (fun t => ∃ j : Nat, 1 ≤ j ∧ j ≤ p ∧ t = .int .i64 ((j : Int) + 1)) (fun t => p + 1 - (intOf t).toNat)
                case atStart => exact ⟨1, Nat.le_refl _, hp1, rfl⟩
                case round =>
                  obtain ⟨j, hj1, hj2, rfl⟩ := hrel
                  have q1 : (1 : Int) ≤ (j : Int) := by omega
                  by_cases hlj : j < p
                  · obtain ⟨cj, _⟩ := HM5.out.cellG (j + 1) (by omega)
                    rw [HPre.out j hj1 hlj] at cj
                    have q2 : (j : Int) < (n : Int) := by omega
                    go_wp2_with fail
                    go_round
                    case rel => exact ⟨j + 1, by omega, by omega, by simp⟩
                    case measure => simp [intOf]; omega
                  · obtain rfl : j = p := by omega
                    clear hlj
                    have HM6 := Lib.hid ((HM5.out.setG lg (j + 1) true (by omega)).setW lw (j + 1) vp (by omega))
                    have hgw : bg ≠ bw := by
                      obtain ⟨_, z1, _⟩ := HM5.out.gv
                      obtain ⟨_, z2, _⟩ := HM5.out.ws
                      exact z1.apart z2 (by decide)
                    have hv2 := HV2.out
                    rw [HVp.out] at hv2
                    have HV3 := Lib.hid hv2
                    clear hv2
                    go_wp2_with fail
                    go_roundw
                    case rel => exact ⟨k + 1, N, _, _, _, _, _, by simp, by omega, by omega, HM6.out, HV3.out⟩
                    case measure => simp [intOf]; omega
              · have HA := Lib.hid (alloc_no HM1.out.im (by omega) (by omega) fun j a b => full_not (hall j a b))
                have HR0 : Hid ((lstI (canB V B) n).length = 0) := by
                  show _ = _
                  rw [lst_none _ n fun j a b => full_not (hall j a b)]
                  rfl
                have HR := Lib.hid (room_any HM1.out.im (by omega) (by omega))
                clear hall
                go_wp2_with fail
                refine HA.out.mono ?_
                rintro e w5 ⟨rfl, rfl⟩
                go_wp2_with fail
                refine HR.out.mono ?_
                rintro e w5 ⟨rfl, hb⟩
                rw [HR0.out]
                have HM5 := Lib.hid (HM1.out.later hb)
                clear hb HR HA HM1 HR0
                go_wp2_with fail
                go_roundw
                case rel => exact ⟨k + 1, N, _, _, _, _, _, by simp, by omega, by omega, HM5.out, HV.out.more⟩
                case measure => simp [intOf]; omega
            · by_cases hK2 : K = 2
              · subst hK2
                have hself : ∀ q : Bool, (q != q) = false := fun q => by simp
                have j1 : (0 : Int) ≤ (s : Int) := by omega
                have j2 : (s : Int) < (n : Int) := by omega
                clear hK1
                go_wp2_with fail
                generalize (wr.alloc (.cells #[.int .i64 2, .int .i64 ((s : Int) + 1), .int .i64 y, .int .i64 v] 42)) = wq at *
                generalize wr.heap.size = bo at *
                have HC := Lib.hid (fun W (hW : Below wq.heap.size wq W) => set_ver (s := s) (z : Int) (HM1.out.later hW) HV.out hs (by omega) l2' l3' (by omega) ⟨by omega, by omega⟩)
                have HKP : Hid (∀ W, VM w bm gs gd n bg bw N A V B g u W ∨ True → Blo W bo 42 #[.int .i64 2, .int .i64 ((s : Int) + 1), .int .i64 y, .int .i64 v] → True) := fun _ _ _ => trivial
                have HS1 : Hid (wq.drew.cell? ⟨bo, 1, none⟩ = some (.int .i64 ((s : Int) + 1)) ∧ wq.drew.cell? ⟨bo, 3, none⟩ = some (.int .i64 v) ∧ wq.drew.cell? ⟨bg, s + 1, none⟩ = some (.bool (g (s + 1)))) :=
                  ⟨HOp.out.cell 1, HOp.out.cell 3, (HM1.out.cellG (s + 1) (by omega)).1⟩
                have hgs : bo ≠ gs := by
                  obtain ⟨_, ⟨cs, z2, _⟩, _, _⟩ := HM1.out.im
                  exact HOp.out.apart z2 (by decide)
                have hts : ((s : Int) + 1).toNat = s + 1 := by omega
                have hs0 : (0 : Int) ≤ (s : Int) + 1 := by omega
                have hs1 : (s : Int) + 1 < (n : Int) + 1 := by omega
                clear hx hy hz hv hse HKP hn0 hnw
                go_region_held3 (fun W => W.cell? ⟨bo, 1, none⟩ = some (.int .i64 ((s : Int) + 1)) ∧ W.cell? ⟨bo, 3, none⟩ = some (.int .i64 v) ∧ W.cell? ⟨bg, s + 1, none⟩ = some (.bool (g (s + 1)))) (first | exact HS5.out | exact HS1.out | fail)
                  ((go_at_call 14; (with_reducible refine (HC.out _ ((Below.refl _ _).drew)).mono ?_); rintro e w5 ⟨c5, N5, A5, rfl, hc5, hN5, hM5, hf5⟩; have HM5 := Lib.hid hM5; have HS5 : Hid (w5.cell? ⟨bo, 1, none⟩ = some (.int .i64 ((s : Int) + 1)) ∧ w5.cell? ⟨bo, 3, none⟩ = some (.int .i64 v) ∧ w5.cell? ⟨bg, s + 1, none⟩ = some (.bool (g (s + 1)))) := ⟨(hf5 _ _ _ hgs HOp.out).cell 1, (hf5 _ _ _ hgs HOp.out).cell 3, (hM5.cellG (s + 1) (by omega)).1⟩; have HC5 := Lib.hid hc5; clear hM5 hf5 hc5))
                have HG := Lib.hid HC5.out
                clear hts hs0 hs1 j1 j2 HS5 HS1 HC5
                generalize g (s + 1) = G5 at *
                have hq5 : (!((c5 == 0) == G5)) = false := by rw [HG.out]; cases G5 <;> rfl
                have HQ5 := Lib.hid hq5
                clear HG hq5
                go_wp2_with fail
                · exfalso
                  have hbad : (!((c5 == 0) == G5)) = true := by assumption
                  rw [HQ5.out] at hbad
                  exact absurd hbad (by decide)
                · go_roundw
                  case rel => exact ⟨k + 1, N5, _, _, _, _, _, by simp, by omega, by omega, HM5.out, HV.out.more⟩
                  case measure => simp [intOf]; omega
              · by_cases hK3 : K = 3
                · subst hK3
                  have hself : ∀ q : Bool, (q != q) = false := fun q => by simp
                  have j1 : (0 : Int) ≤ (s : Int) := by omega
                  have j2 : (s : Int) < (n : Int) := by omega
                  clear hK1 hK2
                  go_wp2_with fail
                  generalize (wr.alloc (.cells #[.int .i64 3, .int .i64 ((s : Int) + 1), .int .i64 y, .int .i64 v] 42)) = wq at *
                  generalize wr.heap.size = bo at *
                  have HC := Lib.hid (fun W (hW : Below wq.heap.size wq W) => free_ver (s := s) (HM1.out.later hW) HV.out hs (by omega) l2' l3' (by omega) hk)
                  have HS1 : Hid (wq.drew.cell? ⟨bo, 1, none⟩ = some (.int .i64 ((s : Int) + 1)) ∧ wq.drew.cell? ⟨bg, s + 1, none⟩ = some (.bool (g (s + 1)))) :=
                    ⟨HOp.out.cell 1, (HM1.out.cellG (s + 1) (by omega)).1⟩
                  have hgs : bo ≠ gs := by
                    obtain ⟨_, ⟨cs, z2, _⟩, _, _⟩ := HM1.out.im
                    exact HOp.out.apart z2 (by decide)
                  have hts : ((s : Int) + 1).toNat = s + 1 := by omega
                  have hs0 : (0 : Int) ≤ (s : Int) + 1 := by omega
                  have hs1 : (s : Int) + 1 < (n : Int) + 1 := by omega
                  clear hx hy hz hv hse hn0 hnw hze
                  go_region_held3 (fun W => W.cell? ⟨bo, 1, none⟩ = some (.int .i64 ((s : Int) + 1)) ∧ W.cell? ⟨bg, s + 1, none⟩ = some (.bool (g (s + 1)))) (first | exact HS5.out | exact HS1.out | fail)
                    ((go_at_call 15; (with_reducible refine (HC.out _ ((Below.refl _ _).drew)).mono ?_); rintro e w5 ⟨c5, N5, A5, V5, B5, rfl, hc5, hN5, hM5, hP5, hf5⟩; have HM5 := Lib.hid hM5; have HP5 := Lib.hid hP5; have HOp5 := Lib.hid (hf5 _ _ _ hgs HOp.out); have HS5 : Hid (w5.cell? ⟨bo, 1, none⟩ = some (.int .i64 ((s : Int) + 1)) ∧ w5.cell? ⟨bg, s + 1, none⟩ = some (.bool (g (s + 1)))) := ⟨(hf5 _ _ _ hgs HOp.out).cell 1, (hM5.cellG (s + 1) (by omega)).1⟩; have HC5 := Lib.hid hc5; clear hM5 hf5 hc5 hP5))
                  have x1 := HS5.out.1
                  have x2 := HS5.out.2
                  have f2 := (HM5.out.cellG (s + 1) (by omega)).2
                  have HM6 := Lib.hid (HM5.out.setG lg (s + 1) false (by omega))
                  have HG := Lib.hid HC5.out
                  clear hts hs0 hs1 HC5 HS5 HS1
                  generalize g (s + 1) = G5 at *
                  have hq5 : (!((c5 == 0) == G5)) = false := by rw [HG.out]; cases G5 <;> rfl
                  have HQ5 := Lib.hid hq5
                  clear HG hq5
                  go_wp2_with fail
                  · exfalso
                    have hbad : (!((c5 == 0) == G5)) = true := by assumption
                    rw [HQ5.out] at hbad
                    exact absurd hbad (by decide)
                  · go_roundw
                    case rel => exact ⟨k + 1, N5, _, _, _, _, _, by simp, by omega, by omega, HM6.out, HP5.out⟩
                    case measure => simp [intOf]; omega
                · have n1 : (K == 1) = false := by rw [beq_eq_false_iff_ne]; exact hK1
                  have n2 : (K == 2) = false := by rw [beq_eq_false_iff_ne]; exact hK2
                  have n3 : (K == 3) = false := by rw [beq_eq_false_iff_ne]; exact hK3
                  clear hK1 hK2 hK3
                  go_wp2_with fail
                  go_roundw
                  case rel => exact ⟨k + 1, N, _, _, _, _, _, by simp, by omega, by omega, HM1.out, HV.out.more⟩
                  case measure => simp [intOf]; omega
          · rcases (show len ≤ k ∨ (k < len ∧ 100 ≤ k) by omega) with h1 | ⟨h1, h2⟩
            all_goals
              clear hlt
              go_wp2
              go_ret
              exact ⟨rfl, HM.out.below⟩
theorem imapVersions_walk (a : Int) (adr : Option Addr) (len cap : Nat) (zs : List Int) (w : World) (_ : (Lit.int .i64 a).wf = true) (hp : Quads w adr len zs) :
    Calls Try.prog 4 #[.int .i64 a, .slice adr len cap] w fun e w' => e = .returned (.bool true) ∧ Below w.heap.size w w' := imapVersions_any a adr len cap zs w hp
end Go.Proofs.Ytbacfbdeeogkgaa
