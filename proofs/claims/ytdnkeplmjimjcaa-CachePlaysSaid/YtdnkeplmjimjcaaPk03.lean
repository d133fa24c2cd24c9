/-
  ChUp · ChHeap: these texts in one.
-/
import Derived.Test.YtdnkeplmjimjcaaPk02
/-
  The heap: up.
-/
namespace Go.Proofs.Ytdnkeplmjimjcaa
open Go.RowKit
section
variable {w w' : World} {base m n cap gr i j C bc bm b : Nat} {h : Nat → Nat} {S : Nat → Bf} {room uses : Int} {v : Value} {a : Int}
def UpI (w : World) (bc bm base gr cap : Nat) (room uses : Int) (m n : Nat) (h0 : Nat → Nat) (S : Nat → Bf) (v : Value) (wr : World) : Prop :=
  ∃ (h : Nat → Nat) (k : Nat), v = .int .i64 ((k : Nat) : Int) ∧ k < n ∧ Hu n (us S h) k ∧ DU w bc bm base gr cap room uses m n h0 h S wr
def UpO (w : World) (bc bm base gr cap : Nat) (room uses : Int) (m n : Nat) (h0 : Nat → Nat) (S : Nat → Bf) (w' : World) : Prop :=
  ∃ h : Nat → Nat, Hq n (us S h) ∧ DU w bc bm base gr cap room uses m n h0 h S w'
set_option maxRecDepth 100000 in
set_option maxHeartbeats 8000000 in
theorem hup_any (hH : HS w bc bm base gr cap room uses m h S) (hi : i < n) (hn : n ≤ m) (hm : m ≤ 4096) (hx : Hu n (us S h) i) :
    Calls Try.prog 64 #[.iface 92 (.pointer (some ⟨bc, 2, none⟩)), .int .i64 i] w fun e w' => e = .returned (.tuple #[]) ∧ UpO w bc bm base gr cap room uses m n h S w' := by
  have HS0 : Hid (UpI w bc bm base gr cap room uses m n h S (.int .i64 ((i : Nat) : Int)) w) := ⟨h, i, rfl, hi, hx, DU.start hH⟩
  clear hH hx hi
  go_enter Try.func64, Try.ntmps64
  go_wp2_with fail
  go_loopw [1] (fun v wr => UpI w bc bm base gr cap room uses m n h S v wr) (fun v _ => (intOf v).toNat)
  case atStart => exact HS0.out
  case round =>
    clear HS0
    obtain ⟨h1, k, rfl, hk, hX, hD⟩ := hrel
    have HD := Lib.hid hD
    have HX := Lib.hid hX
    have hls : (method 239 92 (.pointer (some ⟨bc, 2, none⟩)) "Less").run Try.prog wr = .ok (88, .slice (some ⟨gr, 0, none⟩) m cap) wr := (gm_less _ _).trans (gload hD.hs.cb.cell.2.2.1)
    clear hD hX
    have k0 : (0 : Int) ≤ (k : Int) := by omega
    have k1 : (k : Int) ≤ 4096 := by omega
    obtain ⟨p, hp⟩ : ∃ p, (k - 1) / 2 = p := ⟨_, rfl⟩
    have hq : ((k : Int) - 1).tdiv 2 = ((p : Nat) : Int) := by
      by_cases e : k = 0
      · subst e
        have : p = 0 := by omega
        subst this
        decide
      · rw [Int.tdiv_eq_ediv_of_nonneg (by omega)]
        omega
    by_cases hk0 : k = 0
    · subst hk0
      obtain rfl : p = 0 := by omega
      have HEnd : Hid (UpO w bc bm base gr cap room uses m n h S wr) := ⟨h1, HX.out.q (fun q => by omega), HD.out⟩
      clear HD HX hp
      go_wp2_with fail
      go_end0
      exact ⟨rfl, HEnd.out⟩
    · have he : (((p : Nat) : Int) == ((k : Nat) : Int)) = false := by rw [beq_eq_false_iff_ne]; omega
      have p0 : (0 : Int) ≤ (p : Int) := by omega
      have p1 : (p : Int) ≤ 4096 := by omega
      have he2 : (p == k) = false := by rw [beq_eq_false_iff_ne]; omega
      have he3 : ¬ p = k := by omega
      have HP : Hid ((k - 1) / 2 = p ∧ 0 < k ∧ p < k ∧ p ≠ k) := ⟨hp, by omega, by omega, by omega⟩
      clear hp hk0
      by_cases hl : us S h1 k < us S h1 p
      · have HL := Lib.hid hl
        clear hl
        go_wp2_with fail
        refine (hless_at (i := k) (j := p) HD.out.hs (by omega) (by have := HP.out; omega) hm rfl rfl (decide_eq_true HL.out)).mono ?_
        rintro e wu ⟨rfl, -, hb⟩
        have HDu := Lib.hid (HD.out.later hb)
        have hsu : (method 239 92 (.pointer (some ⟨bc, 2, none⟩)) "Swap").run Try.prog wu = .ok (89, .slice (some ⟨gr, 0, none⟩) m cap) wu := (gm_swap _ _).trans (gload HDu.out.hs.cb.cell.2.2.1)
        clear hb HD hls
        go_wp2_with fail
        refine (hswap_at (i := p) (j := k) HDu.out.hs (by have := HP.out; omega) (by omega) hm HP.out.2.2.2 rfl rfl).mono ?_
        rintro e wv ⟨rfl, hH, ho⟩
        have HNext : Hid (UpI w bc bm base gr cap room uses m n h S (.int .i64 ((p : Nat) : Int)) wv) := ⟨sw h1 p k, p, rfl, by have := HP.out; omega, by
          rw [us_sw, ← HP.out.1]
          exact HX.out.up HP.out.2.1 hk (by rw [HP.out.1]; have := HL.out; omega), HDu.out.swap hH ho (by have := HP.out; omega) hk hn⟩
        clear hH ho HDu HL
        go_wp2_with fail
        go_roundw
        case rel => exact HNext.out
        case measure => simp [intOf]; have := HP.out; omega
      · have HEnd : Hid (∀ W, DU w bc bm base gr cap room uses m n h h1 S W → UpO w bc bm base gr cap room uses m n h S W) := fun W hD => ⟨h1, HX.out.q (fun _ => by rw [HP.out.1]; omega), hD⟩
        have HL := Lib.hid hl
        clear hl
        go_wp2_with fail
        refine (hless_at (i := k) (j := p) HD.out.hs (by omega) (by have := HP.out; omega) hm rfl rfl (by have := HL.out; rw [decide_eq_false_iff_not]; omega)).mono ?_
        rintro e wu ⟨rfl, -, hb⟩
        have HEn := Lib.hid (HEnd.out _ (HD.out.later hb))
        clear hb HD HL HEnd
        go_wp2_with fail
        go_end0
        exact ⟨rfl, HEn.out⟩
end
end Go.Proofs.Ytdnkeplmjimjcaa
/-
  The heap: Push, Fix, Remove, Pop.
-/
namespace Go.Proofs.Ytdnkeplmjimjcaa
open Go.RowKit

/-- What Push may change. -/
def XH (bc b : Nat) (v : Value) (m : Nat) (h : Nat → Nat) (g : Nat) : Prop := g = bc ∨ g = b ∨ XG v m h g
/-- All but the one at place i. -/
def RmG (m i n : Nat) (h h' : Nat → Nat) : Prop := (∀ k, k < n → ∃ j, j < m ∧ j ≠ i ∧ h' k = h j) ∧ (∀ j, j < m → j ≠ i → ∃ k, k < n ∧ h' k = h j)
section
variable {w w' : World} {base m n cap gr i j C bc bm b : Nat} {h h' : Nat → Nat} {S : Nat → Bf} {room uses : Int} {v : Value} {a : Int}
theorem rm_of (hi : i < m) (hmn : n + 1 = m) (hp : PmG m (sw h i n) h') (hn : h' n = h i) (hinj0 : ∀ {i j : Nat}, i < m → j < m → h i = h j → i = j) (hinj : ∀ {i j : Nat}, i < m → j < m → h' i = h' j → i = j) : RmG m i n h h' := by
  refine ⟨fun k hk => ?_, fun j hj hji => ?_⟩
  · obtain ⟨j, hj, e⟩ := hp.1 k (by omega)
    by_cases e1 : j = n
    · subst e1
      rw [sw_r] at e
      have := hinj (show k < m by omega) (show j < m by omega) (e.trans hn.symm)
      omega
    · by_cases e2 : j = i
      · subst e2
        rw [sw_l] at e
        exact ⟨n, by omega, fun q => e1 q.symm, e⟩
      · rw [sw_ne h e2 e1] at e
        exact ⟨j, hj, e2, e⟩
  · obtain ⟨q, hq, e⟩ : ∃ q, q < m ∧ q ≠ n ∧ sw h i n q = h j := by
      by_cases e1 : j = n
      · subst e1
        exact ⟨i, hi, fun q => hji q.symm, sw_l h i j⟩
      · exact ⟨j, hj, e1, sw_ne h hji e1⟩
    obtain ⟨k, hk, e2⟩ := hp.2 q hq
    refine ⟨k, ?_, e2.trans e.2⟩
    by_cases e3 : k = n
    · subst e3
      exact absurd (hinj0 hi hj (hn.symm.trans (e2.trans e.2))).symm hji
    · omega
theorem HS.inj (hH : HS w bc bm base gr cap room uses m h S) {i j : Nat} (hi : i < m) (hj : j < m) (e : h i = h j) : i = j := hH.gs.inj hi hj e
theorem us_congr (hh : ∀ j, j < m → h j = h' j) {j : Nat} (hj : j < m) : us S h j = us S h' j := by unfold us; rw [hh j hj]
set_option maxRecDepth 100000 in
set_option maxHeartbeats 8000000 in
theorem hpush_any (hC : CB w bc bm room uses v) (hG : GS w base v m h S) (hq : Hq m (us S h)) (hB : BufO w b (S b) a) (hfr : ∀ i, i < m → h i ≠ b) (hm : m < 4096) (hbase : base ≤ w.heap.size) (hbb : base ≤ bc) :
    Calls Try.prog 49 #[.iface 92 (.pointer (some ⟨bc, 2, none⟩)), .iface PB (.pointer (some ⟨b, 0, none⟩))] w fun e w' => e = .returned (.tuple #[]) ∧ ∃ gr cap h', HS w' bc bm base gr cap room uses (m + 1) h' S ∧ Hq (m + 1) (us S h') ∧ PmG (m + 1) (upn h m b) h' ∧ Out (XH bc b v m h) w w' ∧ (v.ownBlock = some gr ∨ w.heap.size ≤ gr) := by
  have hpu := gm_push ⟨bc, 2, none⟩ w
  have HPu := Lib.hid (gpush_any hC hG hB hfr (by omega) hbase hbb)
  have HQ := Lib.hid hq
  have hm1 : (m : Int) ≤ 4095 := by omega
  clear hC hG hq hB hfr
  go_enter Try.func49, Try.ntmps49
  go_wp2_with fail
  refine HPu.out.mono ?_
  rintro e w1 ⟨rfl, a', cap', hC1, hG1, ho1, hat⟩
  obtain ⟨gr, cap, hv⟩ := hG1.form (by omega)
  rw [hv] at hC1 hG1 hat
  have HH1 : Hid (HS w1 bc bm base gr cap room uses (m + 1) (upn h m b) S) := ⟨hC1, hG1⟩
  have HO1 := Lib.hid ho1
  have HAt : Hid (v.ownBlock = some gr ∨ w.heap.size ≤ gr) := by
    rcases hat with e | ⟨g, e, hg⟩
    · exact .inl e.symm
    · cases e; exact .inr hg
  have hln : (method 239 92 (.pointer (some ⟨bc, 2, none⟩)) "Len").run Try.prog w1 = .ok (52, .slice (some ⟨gr, 0, none⟩) (m + 1) cap) w1 := (gm_len _ _).trans (gload hC1.cell.2.2.1)
  clear hv hC1 hG1 ho1 hat HPu hpu
  go_wp2_with fail
  refine (glen_any _ _ _ _).mono ?_
  rintro e w2 ⟨rfl, rfl⟩
  have HU : Hid (Hu (m + 1) (us S (upn h m b)) m) := HQ.out.last (fun j hj => us_congr (fun k hk => upn_ne h b (by omega)) hj)
  have HUp := Lib.hid (hup_any HH1.out (show m < m + 1 by omega) (Nat.le_refl _) (by omega) HU.out)
  clear hln
  go_wp2_with fail
  refine HUp.out.mono ?_
  rintro e w3 ⟨rfl, h', hq', hD⟩
  have HE : Hid (∃ gr cap h', HS w3 bc bm base gr cap room uses (m + 1) h' S ∧ Hq (m + 1) (us S h') ∧ PmG (m + 1) (upn h m b) h' ∧ Out (XH bc b v m h) w w3 ∧ (v.ownBlock = some gr ∨ w.heap.size ≤ gr)) := by
    refine ⟨gr, cap, h', hD.hs, hq', hD.pm, ?_, HAt.out⟩
    refine (HO1.out.mono (fun i _ hx => ?_)).trans hD.out (fun i hi hx => ?_)
    · rcases hx with e | e | e
      · exact .inl e
      · exact .inr (.inl e)
      · exact .inr (.inr (.inl e))
    · rcases hx with e | ⟨k, hk, e⟩
      · obtain rfl : gr = i := by simpa [Value.ownBlock] using e
        rcases HAt.out with q | q
        · exact .inr (.inr (.inl q))
        · omega
      · by_cases e2 : k = m
        · subst e2
          rw [upn_at] at e
          exact .inr (.inl e.symm)
        · rw [upn_ne h b e2] at e
          exact .inr (.inr (.inr ⟨k, by omega, e⟩))
  clear HUp HU hq' hD HAt HO1 HH1 HQ
  go_wp2_with fail
  go_end0
  exact ⟨rfl, HE.out⟩
set_option maxRecDepth 100000 in
set_option maxHeartbeats 8000000 in
theorem hfix_any (hH : HS w bc bm base gr cap room uses m h S) (hi : i < m) (hm : m ≤ 4096) (hx : Hx m (us S h) i) :
    Calls Try.prog 50 #[.iface 92 (.pointer (some ⟨bc, 2, none⟩)), .int .i64 i] w fun e w' => e = .returned (.tuple #[]) ∧ UpO w bc bm base gr cap room uses m m h S w' := by
  have hln : (method 239 92 (.pointer (some ⟨bc, 2, none⟩)) "Len").run Try.prog w = .ok (52, .slice (some ⟨gr, 0, none⟩) m cap) w := (gm_len _ _).trans (gload hH.cb.cell.2.2.1)
  have HDn := Lib.hid (hdown_any hH hi (Nat.le_refl _) hm hx)
  clear hH hx
  go_enter Try.func50, Try.ntmps50
  go_wp2_with fail
  refine (glen_any _ _ _ _).mono ?_
  rintro e w2 ⟨rfl, rfl⟩
  clear hln
  go_wp2_with fail
  refine HDn.out.mono ?_
  rintro e w3 ⟨h1, k, rfl, hik, hk0, hkq, hu, hD⟩
  clear HDn
  by_cases hmv : i < k
  · rw [decide_eq_true hmv]
    have HE : Hid (UpO w bc bm base gr cap room uses m m h S w3) := ⟨h1, hkq hmv, hD⟩
    clear hik hk0 hkq hu hD hmv
    go_wp2_with fail
    go_end0
    exact ⟨rfl, HE.out⟩
  · rw [decide_eq_false hmv]
    obtain rfl : i = k := by omega
    have HUp := Lib.hid (hup_any hD.hs hi (Nat.le_refl _) hm hu)
    have HD := Lib.hid hD
    clear hik hk0 hkq hu hD hmv
    go_wp2_with fail
    refine HUp.out.mono ?_
    rintro e w4 ⟨rfl, h', hq', hD'⟩
    have HE : Hid (UpO w bc bm base gr cap room uses m m h S w4) := ⟨h', hq', ⟨hD'.hs, HD.out.pm.trans hD'.pm, fun q hq => (hD'.high q hq).trans (HD.out.high q hq), HD.out.out.trans hD'.out (fun g _ hg => HD.out.pm.xg hg)⟩⟩
    clear HUp HD hq' hD'
    go_wp2_with fail
    go_end0
    exact ⟨rfl, HE.out⟩
/-- What Remove and Pop leave. -/
def RmO (w : World) (bc bm base gr cap : Nat) (room uses : Int) (m n i : Nat) (h : Nat → Nat) (S : Nat → Bf) (e : Ending) (w' : World) : Prop :=
  e = .returned (.iface PB (.pointer (some ⟨h i, 0, none⟩))) ∧ ∃ h', HS w' bc bm base gr cap room uses n h' S ∧ Hq n (us S h') ∧ RmG m i n h h' ∧ BufO w' (h i) (S (h i)) (-1) ∧ Out (XB bc (.slice (some ⟨gr, 0, none⟩) m cap) m h) w w'
/-- The last part of Remove and of Pop. -/
theorem rm_pop {wp : World} {h1 : Nat → Nat} (hH : HS w bc bm base gr cap room uses m h S) (hi : i < m) (hmn : n + 1 = m) (hm : m ≤ 4096) (hs : HS wp bc bm base gr cap room uses m h1 S) (pm : PmG m (sw h i n) h1) (high : h1 n = sw h i n n) (hX : Out (XG (.slice (some ⟨gr, 0, none⟩) m cap) m h) w wp) (hq : Hq n (us S h1)) :
    Calls Try.prog 90 #[.pointer (some ⟨bc, 2, none⟩)] wp (RmO w bc bm base gr cap room uses m n i h S) := by
  have hp := gpop_any hs.cb hs.gs hmn hm
  have hn1 : h1 n = h i := high.trans (sw_r h i n)
  have hpm : PmG m h h1 := (PmG.sw hi (by omega)).trans pm
  rw [hn1] at hp
  refine hp.mono fun e w' ⟨e1, e2, e3, e4, e5⟩ => ⟨e1, h1, ⟨e2, e3⟩, hq, ?_, e4, ?_⟩
  · exact rm_of hi hmn pm hn1 (fun a b c => hH.inj a b c) (fun a b c => hs.inj a b c)
  · refine (hX.mono (fun _ _ q => .inr q)).trans e5 (fun g _ hg => ?_)
    rcases hg with q | q
    · exact .inl q
    · exact .inr (hpm.xg q)
theorem Hx.agree {v v' : Nat → Int} (hx : Hx m v i) (hn : n ≤ m) (hv : ∀ j, j ≠ i → j < n → v' j = v j) (hi : i < n) : Hx n v' i := by
  refine ⟨fun j j0 j1 e1 e2 => ?_, fun j j0 j1 e1 e2 => ?_⟩
  · rw [hv j e1 j1, hv _ e2 (by omega)]
    exact hx.1 j j0 (by omega) e1 e2
  · rw [hv j (by omega) j1, hv _ (by omega) (by omega)]
    exact hx.2 j j0 (by omega) e1 e2
theorem Hx.last {v : Nat → Int} (hx : Hx (i + 1) v i) : Hq i v := fun j j0 j1 => hx.1 j j0 (by omega) (by omega) (by omega)
set_option maxRecDepth 100000 in
set_option maxHeartbeats 8000000 in
theorem hrem_any (hH : HS w bc bm base gr cap room uses m h S) (hq : Hx m (us S h) i) (hi : i < m) (hmn : n + 1 = m) (hm : m ≤ 4096) :
    Calls Try.prog 51 #[.iface 92 (.pointer (some ⟨bc, 2, none⟩)), .int .i64 i] w (RmO w bc bm base gr cap room uses m n i h S) := by
  have hln : (method 239 92 (.pointer (some ⟨bc, 2, none⟩)) "Len").run Try.prog w = .ok (52, .slice (some ⟨gr, 0, none⟩) m cap) w := (gm_len _ _).trans (gload hH.cb.cell.2.2.1)
  have HH := Lib.hid hH
  have HQ := Lib.hid hq
  have e1 : (m : Int) - 1 = (n : Int) := by omega
  clear hH hq
  by_cases hni : i = n
  · subst hni
    have q0 : (((i : Nat) : Int) != ((i : Nat) : Int)) = false := by simp
    have HPop := Lib.hid (rm_pop (i := i) (n := i) (h1 := h) HH.out hi hmn hm HH.out (by rw [sw_self]; exact PmG.refl) (by rw [sw_self]) (Out.refl _ _) (by have q := HQ.out; rw [← hmn] at q; exact q.last))
    have hpo := gm_pop ⟨bc, 2, none⟩ w
    go_enter Try.func51, Try.ntmps51
    go_wp2_with fail
    refine (glen_any _ _ _ _).mono ?_
    rintro e w2 ⟨rfl, rfl⟩
    clear hln
    go_wp2_with fail
    refine HPop.out.mono ?_
    rintro e w3 ⟨rfl, hE⟩
    have HE := Lib.hid hE
    clear hE HPop hpo
    go_wp2_with fail
    go_ret
    exact ⟨rfl, HE.out⟩
  · have q0 : (((n : Nat) : Int) != ((i : Nat) : Int)) = true := by rw [bne_iff_ne]; omega
    have hsw : (method 239 92 (.pointer (some ⟨bc, 2, none⟩)) "Swap").run Try.prog w = .ok (89, .slice (some ⟨gr, 0, none⟩) m cap) w := (gm_swap _ _).trans (gload HH.out.cb.cell.2.2.1)
    have hin : i < n := by omega
    have HNi : Hid (i < n ∧ ¬ i = n) := ⟨hin, hni⟩
    have n1 : (n : Int) ≤ 4095 := by omega
    clear hni hin
    go_enter Try.func51, Try.ntmps51
    go_wp2_with fail
    refine (glen_any _ _ _ _).mono ?_
    rintro e w2 ⟨rfl, rfl⟩
    clear hln
    go_wp2_with fail
    refine (hswap_at (i := i) (j := n) HH.out hi (by omega) hm HNi.out.2 rfl rfl).mono ?_
    rintro e w3 ⟨rfl, hH3, ho3⟩
    have hx : Hx n (us S (sw h i n)) i := HQ.out.agree (show n ≤ m by omega) (fun j hj hjn => by rw [us_sw, sw_ne _ hj (by omega)]) HNi.out.1
    have HDn := Lib.hid (hdown_any (n := n) hH3 hi (by omega) hm hx)
    have HO3 := Lib.hid ho3
    clear hH3 ho3 hx hsw
    go_wp2_with fail
    refine HDn.out.mono ?_
    rintro e w4 ⟨h1, k, rfl, hik, hk0, hkq, hu, hD⟩
    clear HDn
    have hpo := gm_pop ⟨bc, 2, none⟩ w4
    by_cases hmv : i < k
    · rw [decide_eq_true hmv]
      have HPop := Lib.hid (rm_pop (i := i) (n := n) (h1 := h1) HH.out hi hmn hm hD.hs hD.pm (hD.high n (Nat.le_refl _)) (HO3.out.trans hD.out (fun g _ hg => (PmG.sw hi (by omega)).xg hg)) (hkq hmv))
      clear hik hk0 hkq hu hD hmv HO3 HH HQ HNi
      go_wp2_with fail
      refine HPop.out.mono ?_
      rintro e w5 ⟨rfl, hE⟩
      have HE := Lib.hid hE
      clear hE HPop hpo
      go_wp2_with fail
      go_ret
      exact ⟨rfl, HE.out⟩
    · rw [decide_eq_false hmv]
      obtain rfl : i = k := by omega
      have HUp := Lib.hid (hup_any (n := n) hD.hs HNi.out.1 (by omega) hm hu)
      have HD := Lib.hid hD
      clear hik hk0 hkq hu hD hmv hpo
      go_wp2_with fail
      refine HUp.out.mono ?_
      rintro e w5 ⟨rfl, h', hq', hD'⟩
      have hpo := gm_pop ⟨bc, 2, none⟩ w5
      have HPop := Lib.hid (rm_pop (i := i) (n := n) (h1 := h') HH.out hi hmn hm hD'.hs (HD.out.pm.trans hD'.pm) ((hD'.high n (Nat.le_refl _)).trans (HD.out.high n (Nat.le_refl _))) ((HO3.out.trans HD.out.out (fun g _ hg => (PmG.sw hi (by omega)).xg hg)).trans hD'.out (fun g _ hg => ((PmG.sw hi (show n < m by omega)).trans HD.out.pm).xg hg)) hq')
      clear HUp HD hq' hD' HO3 HH HQ HNi
      go_wp2_with fail
      refine HPop.out.mono ?_
      rintro e w6 ⟨rfl, hE⟩
      have HE := Lib.hid hE
      clear hE HPop hpo
      go_wp2_with fail
      go_ret
      exact ⟨rfl, HE.out⟩
set_option maxRecDepth 100000 in
set_option maxHeartbeats 8000000 in
theorem hpop_any (hH : HS w bc bm base gr cap room uses m h S) (hq : Hq m (us S h)) (hmn : n + 1 = m) (hm : m ≤ 4096) :
    Calls Try.prog 53 #[.iface 92 (.pointer (some ⟨bc, 2, none⟩))] w (RmO w bc bm base gr cap room uses m n 0 h S) := by
  have hln : (method 239 92 (.pointer (some ⟨bc, 2, none⟩)) "Len").run Try.prog w = .ok (52, .slice (some ⟨gr, 0, none⟩) m cap) w := (gm_len _ _).trans (gload hH.cb.cell.2.2.1)
  have hsw : (method 239 92 (.pointer (some ⟨bc, 2, none⟩)) "Swap").run Try.prog w = .ok (89, .slice (some ⟨gr, 0, none⟩) m cap) w := (gm_swap _ _).trans (gload hH.cb.cell.2.2.1)
  have HH := Lib.hid hH
  have HQ := Lib.hid hq
  have e1 : (m : Int) - 1 = (n : Int) := by omega
  have n1 : (n : Int) ≤ 4095 := by omega
  have HSw : Hid (Calls Try.prog 89 #[.slice (some ⟨gr, 0, none⟩) m cap, .int .i64 0, .int .i64 n] w fun e w' => e = .returned (.tuple #[]) ∧ HS w' bc bm base gr cap room uses m (sw h 0 n) S ∧ Out (XG (.slice (some ⟨gr, 0, none⟩) m cap) m h) w w') := by
    by_cases hn0 : n = 0
    · subst hn0
      rw [sw_self]
      exact (gswap_self (i := 0) hH.gs (by omega) hm).mono fun e w' ⟨a1, a2, a3⟩ => ⟨a1, ⟨hH.cb.out a3 (cb_free hH.cb hH.gs), a2⟩, a3⟩
    · exact hswap_at (i := 0) (j := n) hH (by omega) (by omega) hm (fun e => hn0 e.symm) rfl rfl
  have HM : Hid (0 < m ∧ n < m ∧ n ≤ m) := ⟨by omega, by omega, by omega⟩
  clear hH hq
  go_enter Try.func53, Try.ntmps53
  go_wp2_with fail
  refine (glen_any _ _ _ _).mono ?_
  rintro e w2 ⟨rfl, rfl⟩
  clear hln
  go_wp2_with fail
  refine HSw.out.mono ?_
  rintro e w3 ⟨rfl, hH3, ho3⟩
  have hx : Hx n (us S (sw h 0 n)) 0 := (HQ.out.mono HM.out.2.2).x (fun j hj hjn => by rw [us_sw, sw_ne _ hj (by omega)])
  have HDn := Lib.hid (hdown_any (n := n) hH3 HM.out.1 HM.out.2.2 hm hx)
  have HO3 := Lib.hid ho3
  clear hH3 ho3 hx hsw HSw
  go_wp2_with fail
  refine HDn.out.mono ?_
  rintro e w4 ⟨h1, k, rfl, hik, hk0, hkq, hu, hD⟩
  have hpo := gm_pop ⟨bc, 2, none⟩ w4
  have HQ1 : Hq n (us S h1) := by
    by_cases q : 0 < k
    · exact hkq q
    · obtain rfl : k = 0 := by omega
      exact hu.q (fun e => absurd e (by omega))
  have HPop := Lib.hid (rm_pop (i := 0) (n := n) (h1 := h1) HH.out HM.out.1 hmn hm hD.hs hD.pm (hD.high n (Nat.le_refl _)) (HO3.out.trans hD.out (fun g _ hg => (PmG.sw HM.out.1 HM.out.2.1).xg hg)) HQ1)
  clear HDn hik hk0 hkq hu hD HO3 HH HQ HM HQ1
  go_wp2_with fail
  refine HPop.out.mono ?_
  rintro e w5 ⟨rfl, hE⟩
  have HE := Lib.hid hE
  clear hE HPop hpo
  go_wp2_with fail
  go_ret
  exact ⟨rfl, HE.out⟩
end
end Go.Proofs.Ytdnkeplmjimjcaa
