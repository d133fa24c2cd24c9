/-
  The heap: down, up.
-/
import Derived.Test.YtdnkeplmjimjcaaPk01
namespace Go.Proofs.Ytdnkeplmjimjcaa
open Go.RowKit

abbrev HIF := 109
abbrev GPT := 92
abbrev GOT := 67
theorem gm_len (a : Addr) (w : World) : (method 239 92 (.pointer (some a)) "Len").run Try.prog w = (do let v ← loadVar 67 a; pure (52, v) : Sem (FuncId × Value)).run Try.prog w := by
  kernel_rfl
theorem gm_less (a : Addr) (w : World) : (method 239 92 (.pointer (some a)) "Less").run Try.prog w = (do let v ← loadVar 67 a; pure (88, v) : Sem (FuncId × Value)).run Try.prog w := by
  kernel_rfl
theorem gm_swap (a : Addr) (w : World) : (method 239 92 (.pointer (some a)) "Swap").run Try.prog w = (do let v ← loadVar 67 a; pure (89, v) : Sem (FuncId × Value)).run Try.prog w := by
  kernel_rfl
theorem gm_pop (a : Addr) (w : World) : (method 239 92 (.pointer (some a)) "Pop").run Try.prog w = .ok (90, .pointer (some a)) w := by
  kernel_rfl
theorem gm_push (a : Addr) (w : World) : (method 239 92 (.pointer (some a)) "Push").run Try.prog w = .ok (91, .pointer (some a)) w := by
  kernel_rfl
theorem gload {w : World} {a : Addr} {s : Value} (hc : w.cell? a = some s) {f : FuncId} : (do let v ← loadVar 67 a; pure (f, v) : Sem (FuncId × Value)).run Try.prog w = .ok (f, s) w := by
  simp [go_sem, hc]
/-- How late who stands at a place was used. -/
def us (S : Nat → Bf) (h : Nat → Nat) : Nat → Int := fun k => (S (h k)).used
theorem us_sw (S : Nat → Bf) (h : Nat → Nat) (i j : Nat) : us S (sw h i j) = sw (us S h) i j := by
  funext k
  unfold us
  exact sw_comp (fun b => (S b).used) h i j k
section
variable {w w' : World} {base m n cap gr i j C bc bm b : Nat} {h : Nat → Nat} {S : Nat → Bf} {room uses : Int} {v : Value} {a : Int}
theorem cb_free (hC : CB w bc bm room uses v) (hG : GS w base v m h S) : ¬ XG v m h bc := by
  rintro (e | ⟨i, hi, e⟩)
  · exact blo_own hG.row hC (by decide) e
  · exact (hG.buf i hi).apart hC (by decide) e
/-- A heap in memory, with its cache's block. -/
structure HS (w : World) (bc bm base gr cap : Nat) (room uses : Int) (m : Nat) (h : Nat → Nat) (S : Nat → Bf) : Prop where
  cb : CB w bc bm room uses (.slice (some ⟨gr, 0, none⟩) m cap)
  gs : GS w base (.slice (some ⟨gr, 0, none⟩) m cap) m h S
theorem HS.later (hH : HS w bc bm base gr cap room uses m h S) (hb : Below w.heap.size w w') : HS w' bc bm base gr cap room uses m h S := ⟨hH.cb.later hb, hH.gs.later hb⟩
theorem hless_at (hH : HS w bc bm base gr cap room uses m h S) (hi : i < m) (hj : j < m) (hm : m ≤ 4096) {x y : Int} (hx : x = i) (hy : y = j) {q : Bool} (hv : decide (us S h i < us S h j) = q) :
    Calls Try.prog 88 #[.slice (some ⟨gr, 0, none⟩) m cap, .int .i64 x, .int .i64 y] w fun e w' => e = .returned (.bool q) ∧ HS w' bc bm base gr cap room uses m h S ∧ Below w.heap.size w w' := by
  subst hx hy hv
  exact (gless_any hH.gs hi hj hm).mono fun e w' ⟨h1, h2⟩ => ⟨h1, hH.later h2, h2⟩
theorem hswap_at (hH : HS w bc bm base gr cap room uses m h S) (hi : i < m) (hj : j < m) (hm : m ≤ 4096) (hne : i ≠ j) {x y : Int} (hx : x = i) (hy : y = j) :
    Calls Try.prog 89 #[.slice (some ⟨gr, 0, none⟩) m cap, .int .i64 x, .int .i64 y] w fun e w' => e = .returned (.tuple #[]) ∧ HS w' bc bm base gr cap room uses m (sw h i j) S ∧ Out (XG (.slice (some ⟨gr, 0, none⟩) m cap) m h) w w' := by
  subst hx hy
  exact (gswap_any hH.gs hi hj hm hne).mono fun e w' ⟨h1, h2, h3⟩ => ⟨h1, ⟨hH.cb.out h3 (cb_free hH.cb hH.gs), h2⟩, h3⟩
/-- What a walk down, or up, keeps. -/
structure DU (w : World) (bc bm base gr cap : Nat) (room uses : Int) (m n : Nat) (h0 h : Nat → Nat) (S : Nat → Bf) (wr : World) : Prop where
  hs : HS wr bc bm base gr cap room uses m h S
  pm : PmG m h0 h
  high : ∀ k, n ≤ k → h k = h0 k
  out : Out (XG (.slice (some ⟨gr, 0, none⟩) m cap) m h0) w wr
theorem DU.start (hH : HS w bc bm base gr cap room uses m h S) : DU w bc bm base gr cap room uses m n h h S w := ⟨hH, PmG.refl, fun _ _ => rfl, Out.refl _ _⟩
theorem DU.later {h0 : Nat → Nat} {wr : World} (hD : DU w bc bm base gr cap room uses m n h0 h S wr) (hb : Below wr.heap.size wr w') : DU w bc bm base gr cap room uses m n h0 h S w' :=
  ⟨hD.hs.later hb, hD.pm, hD.high, hD.out.trans (Out.of_below hb : Out (XG (.slice (some ⟨gr, 0, none⟩) m cap) m h0) wr w') (fun _ _ e => e)⟩
theorem DU.swap {h0 : Nat → Nat} {wr : World} (hD : DU w bc bm base gr cap room uses m n h0 h S wr) (hH : HS w' bc bm base gr cap room uses m (sw h i j) S) (ho : Out (XG (.slice (some ⟨gr, 0, none⟩) m cap) m h) wr w') (hi : i < n) (hj : j < n) (hn : n ≤ m) : DU w bc bm base gr cap room uses m n h0 (sw h i j) S w' :=
  ⟨hH, hD.pm.trans (PmG.sw (by omega) (by omega)), fun k hk => by rw [sw_ne h (by omega) (by omega)]; exact hD.high k hk, hD.out.trans ho (fun g _ hg => hD.pm.xg hg)⟩
def DnI (w : World) (bc bm base gr cap : Nat) (room uses : Int) (m n : Nat) (h0 : Nat → Nat) (S : Nat → Bf) (i0 : Nat) (v : Value) (wr : World) : Prop :=
  ∃ (h : Nat → Nat) (k : Nat), v = .int .i64 ((k : Nat) : Int) ∧ i0 ≤ k ∧ k < m ∧ (k = i0 → h = h0) ∧ (i0 < k → us S h ((k - 1) / 2) ≤ us S h k) ∧ Hx n (us S h) k ∧ DU w bc bm base gr cap room uses m n h0 h S wr
def DnO (w : World) (bc bm base gr cap : Nat) (room uses : Int) (m n : Nat) (h0 : Nat → Nat) (S : Nat → Bf) (i0 : Nat) (e : Ending) (w' : World) : Prop :=
  ∃ (h : Nat → Nat) (k : Nat), e = .returned (.bool (decide (i0 < k))) ∧ i0 ≤ k ∧ (k = i0 → h = h0) ∧ (i0 < k → Hq n (us S h)) ∧ Hu n (us S h) k ∧ DU w bc bm base gr cap room uses m n h0 h S w'
theorem dn_end {h0 : Nat → Nat} {i0 k : Nat} {wr : World} (h1 : i0 ≤ k) (h2 : k = i0 → h = h0) (h3 : i0 < k → us S h ((k - 1) / 2) ≤ us S h k) (h4 : Hx n (us S h) k) (hc : ∀ j, 0 < j → j < n → (j - 1) / 2 = k → us S h k ≤ us S h j) (hD : DU w bc bm base gr cap room uses m n h0 h S wr) :
    DnO w bc bm base gr cap room uses m n h0 S i0 (.returned (.bool (decide (i0 < k)))) wr :=
  ⟨h, k, rfl, h1, h2, fun q => (h4.u hc).q (fun _ => h3 q), h4.u hc, hD⟩
theorem dn_step {h0 : Nat → Nat} {i0 k c : Nat} {wr : World} (h1 : i0 ≤ k) (h4 : Hx n (us S h) k) (hck : (c - 1) / 2 = k) (hc0 : 0 < c) (hcn : c < n) (hn : n ≤ m) (hl : us S h c < us S h k) (hmin : ∀ j, 0 < j → j < n → (j - 1) / 2 = k → us S h c ≤ us S h j) (hD : DU w bc bm base gr cap room uses m n h0 (sw h k c) S wr) :
    DnI w bc bm base gr cap room uses m n h0 S i0 (.int .i64 ((c : Nat) : Int)) wr := by
  refine ⟨sw h k c, c, rfl, by omega, by omega, fun e => by omega, fun _ => ?_, ?_, hD⟩
  · rw [us_sw, hck, sw_l, sw_r]; omega
  · rw [us_sw]; exact h4.down hck hc0 hcn (by omega) hmin
set_option maxRecDepth 100000 in
set_option maxHeartbeats 8000000 in
theorem hdown_any (hH : HS w bc bm base gr cap room uses m h S) (hi : i < m) (hn : n ≤ m) (hm : m ≤ 4096) (hx : Hx n (us S h) i) :
    Calls Try.prog 65 #[.iface 92 (.pointer (some ⟨bc, 2, none⟩)), .int .i64 i, .int .i64 n] w (DnO w bc bm base gr cap room uses m n h S i) := by
  have HS0 : Hid (DnI w bc bm base gr cap room uses m n h S i (.int .i64 ((i : Nat) : Int)) w) := ⟨h, i, rfl, Nat.le_refl _, hi, fun _ => rfl, fun q => by omega, hx, DU.start hH⟩
  clear hH hx
  go_enter Try.func65, Try.ntmps65
  go_wp2_with fail
  go_loopw [7] (fun v wr => DnI w bc bm base gr cap room uses m n h S i v wr) (fun v _ => m - (intOf v).toNat)
  case atStart => exact HS0.out
  case round =>
    clear HS0
    obtain ⟨h1, k, rfl, hik, hk, hk0, hkp, hX, hD⟩ := hrel
    have HD := Lib.hid hD
    have HX := Lib.hid hX
    have HK0 := Lib.hid hk0
    have HKP := Lib.hid hkp
    have hls : (method 239 92 (.pointer (some ⟨bc, 2, none⟩)) "Less").run Try.prog wr = .ok (88, .slice (some ⟨gr, 0, none⟩) m cap) wr := (gm_less _ _).trans (gload hD.hs.cb.cell.2.2.1)
    clear hD hX hk0 hkp
    have k0 : (0 : Int) ≤ (k : Int) := by omega
    have k1 : (k : Int) ≤ 4096 := by omega
    by_cases hlt : 2 * k + 1 < n
    · have t1 : ¬ (n : Int) ≤ 2 * (k : Int) + 1 := by omega
      -- which child is the lesser one
      obtain ⟨c, hcc, hcn, hcl, hmin⟩ : ∃ c, (c = 2 * k + 1 ∨ c = 2 * k + 1 + 1) ∧ c < n ∧ (c = 2 * k + 1 + 1 ↔ (2 * k + 1 + 1 < n ∧ us S h1 (2 * k + 1 + 1) < us S h1 (2 * k + 1))) ∧ ∀ j, 0 < j → j < n → (j - 1) / 2 = k → us S h1 c ≤ us S h1 j := by
        by_cases q : 2 * k + 1 + 1 < n ∧ us S h1 (2 * k + 1 + 1) < us S h1 (2 * k + 1)
        · refine ⟨2 * k + 1 + 1, .inr rfl, q.1, ⟨fun _ => q, fun _ => rfl⟩, fun j j0 j1 j2 => ?_⟩
          rcases (show j = 2 * k + 1 ∨ j = 2 * k + 1 + 1 by omega) with rfl | rfl
          · omega
          · exact Int.le_refl _
        · refine ⟨2 * k + 1, .inl rfl, hlt, ⟨fun e => by omega, fun e => absurd e q⟩, fun j j0 j1 j2 => ?_⟩
          rcases (show j = 2 * k + 1 ∨ j = 2 * k + 1 + 1 by omega) with rfl | rfl
          · exact Int.le_refl _
          · have : ¬ us S h1 (2 * k + 1 + 1) < us S h1 (2 * k + 1) := fun e => q ⟨j1, e⟩
            omega
      have HMin := Lib.hid hmin
      clear hmin
      have hcase : (2 * (k : Int) + 1 + 1 < (n : Int) ∧ 2 * k + 1 + 1 < n ∧ us S h1 (2 * k + 1 + 1) < us S h1 (2 * k + 1) ∧ c = 2 * k + 1 + 1) ∨ (2 * (k : Int) + 1 + 1 < (n : Int) ∧ 2 * k + 1 + 1 < n ∧ ¬ us S h1 (2 * k + 1 + 1) < us S h1 (2 * k + 1) ∧ c = 2 * k + 1) ∨ (¬ 2 * (k : Int) + 1 + 1 < (n : Int) ∧ c = 2 * k + 1) := by
        by_cases q1 : 2 * k + 1 + 1 < n
        · by_cases q2 : us S h1 (2 * k + 1 + 1) < us S h1 (2 * k + 1)
          · exact .inl ⟨by omega, q1, q2, hcl.2 ⟨q1, q2⟩⟩
          · refine .inr (.inl ⟨by omega, q1, q2, ?_⟩)
            rcases hcc with e | e
            · exact e
            · exact absurd (hcl.1 e).2 q2
        · refine .inr (.inr ⟨by omega, ?_⟩)
          rcases hcc with e | e
          · exact e
          · exact absurd (hcl.1 e).1 q1
      have HN4 : Hid ((c - 1) / 2 = k ∧ 0 < c ∧ c < m ∧ k ≠ c ∧ i ≤ k ∧ c < n) := ⟨by omega, by omega, by omega, by omega, hik, hcn⟩
      clear hcl hcc hik hcn
      rcases hcase with ⟨t2, q1, q2, ec⟩ | ⟨t2, q1, q2, ec⟩ | ⟨t2, ec⟩
      · have HX1 : Hid (2 * (k : Int) + 1 + 1 = ((c : Nat) : Int)) := by show _ = _; omega
        clear ec
        have HQ2 := Lib.hid q2
        clear q2
        go_wp2_with fail
        refine (hless_at (i := 2 * k + 1 + 1) (j := 2 * k + 1) (x := 2 * (k : Int) + 1 + 1) (y := 2 * (k : Int) + 1) HD.out.hs (by omega) (by omega) hm (by omega) (by omega) (decide_eq_true HQ2.out)).mono ?_
        rintro e wx ⟨rfl, -, hb⟩
        have HDx := Lib.hid (HD.out.later hb)
        have hlx : (method 239 92 (.pointer (some ⟨bc, 2, none⟩)) "Less").run Try.prog wx = .ok (88, .slice (some ⟨gr, 0, none⟩) m cap) wx := (gm_less _ _).trans (gload HDx.out.hs.cb.cell.2.2.1)
        clear hb q1 HQ2 HD hls
        by_cases hl : us S h1 c < us S h1 k
        · have HL := Lib.hid hl
          clear hl
          go_wp2_with fail
          refine (hless_at (i := c) (j := k) HDx.out.hs HN4.out.2.2.1 hk hm HX1.out rfl (decide_eq_true HL.out)).mono ?_
          rintro e wu ⟨rfl, -, hb⟩
          have HDu := Lib.hid (HDx.out.later hb)
          have hsu : (method 239 92 (.pointer (some ⟨bc, 2, none⟩)) "Swap").run Try.prog wu = .ok (89, .slice (some ⟨gr, 0, none⟩) m cap) wu := (gm_swap _ _).trans (gload HDu.out.hs.cb.cell.2.2.1)
          clear hb HDx
          go_wp2_with fail
          refine (hswap_at (i := k) (j := c) HDu.out.hs hk HN4.out.2.2.1 hm HN4.out.2.2.2.1 rfl HX1.out).mono ?_
          rintro e wv ⟨rfl, hH, ho⟩
          have HNext := Lib.hid (dn_step HN4.out.2.2.2.2.1 HX.out HN4.out.1 HN4.out.2.1 HN4.out.2.2.2.2.2 hn HL.out HMin.out (HDu.out.swap hH ho (by have := HN4.out; omega) HN4.out.2.2.2.2.2 hn))
          clear hH ho HDu HL
          go_wp2_with fail
          go_roundw
          case rel => rw [HX1.out]; exact HNext.out
          case measure => rw [HX1.out]; simp [intOf]; have := HN4.out; omega
        · have HEnd : ∀ W, DU w bc bm base gr cap room uses m n h h1 S W → DnO w bc bm base gr cap room uses m n h S i (.returned (.bool (decide (i < k)))) W := fun W hD => dn_end HN4.out.2.2.2.2.1 HK0.out HKP.out HX.out (fun j j0 j1 j2 => by have := HMin.out j j0 j1 j2; omega) hD
          have HEn := Lib.hid HEnd
          have HL := Lib.hid hl
          clear HEnd hl
          go_wp2_with fail
          refine (hless_at (i := c) (j := k) HDx.out.hs HN4.out.2.2.1 hk hm HX1.out rfl (by have := HL.out; rw [decide_eq_false_iff_not]; omega)).mono ?_
          rintro e wu ⟨rfl, -, hb⟩
          have HDu := Lib.hid (HEn.out _ (HDx.out.later hb))
          clear hb HDx HL HEn
          go_wp2_with fail
          go_ret
          simpa using HDu.out
      · have HX1 : Hid (2 * (k : Int) + 1 = ((c : Nat) : Int)) := by show _ = _; omega
        clear ec
        have HQ2 := Lib.hid q2
        clear q2
        go_wp2_with fail
        refine (hless_at (i := 2 * k + 1 + 1) (j := 2 * k + 1) (x := 2 * (k : Int) + 1 + 1) (y := 2 * (k : Int) + 1) HD.out.hs (by omega) (by omega) hm (by omega) (by omega) (by have := HQ2.out; rw [decide_eq_false_iff_not]; omega)).mono ?_
        rintro e wx ⟨rfl, -, hb⟩
        have HDx := Lib.hid (HD.out.later hb)
        have hlx : (method 239 92 (.pointer (some ⟨bc, 2, none⟩)) "Less").run Try.prog wx = .ok (88, .slice (some ⟨gr, 0, none⟩) m cap) wx := (gm_less _ _).trans (gload HDx.out.hs.cb.cell.2.2.1)
        clear hb q1 HQ2 HD hls
        by_cases hl : us S h1 c < us S h1 k
        · have HL := Lib.hid hl
          clear hl
          go_wp2_with fail
          refine (hless_at (i := c) (j := k) HDx.out.hs HN4.out.2.2.1 hk hm HX1.out rfl (decide_eq_true HL.out)).mono ?_
          rintro e wu ⟨rfl, -, hb⟩
          have HDu := Lib.hid (HDx.out.later hb)
          have hsu : (method 239 92 (.pointer (some ⟨bc, 2, none⟩)) "Swap").run Try.prog wu = .ok (89, .slice (some ⟨gr, 0, none⟩) m cap) wu := (gm_swap _ _).trans (gload HDu.out.hs.cb.cell.2.2.1)
          clear hb HDx
          go_wp2_with fail
          refine (hswap_at (i := k) (j := c) HDu.out.hs hk HN4.out.2.2.1 hm HN4.out.2.2.2.1 rfl HX1.out).mono ?_
          rintro e wv ⟨rfl, hH, ho⟩
          have HNext := Lib.hid (dn_step HN4.out.2.2.2.2.1 HX.out HN4.out.1 HN4.out.2.1 HN4.out.2.2.2.2.2 hn HL.out HMin.out (HDu.out.swap hH ho (by have := HN4.out; omega) HN4.out.2.2.2.2.2 hn))
          clear hH ho HDu HL
          go_wp2_with fail
          go_roundw
          case rel => rw [HX1.out]; exact HNext.out
          case measure => rw [HX1.out]; simp [intOf]; have := HN4.out; omega
        · have HEnd : ∀ W, DU w bc bm base gr cap room uses m n h h1 S W → DnO w bc bm base gr cap room uses m n h S i (.returned (.bool (decide (i < k)))) W := fun W hD => dn_end HN4.out.2.2.2.2.1 HK0.out HKP.out HX.out (fun j j0 j1 j2 => by have := HMin.out j j0 j1 j2; omega) hD
          have HEn := Lib.hid HEnd
          have HL := Lib.hid hl
          clear HEnd hl
          go_wp2_with fail
          refine (hless_at (i := c) (j := k) HDx.out.hs HN4.out.2.2.1 hk hm HX1.out rfl (by have := HL.out; rw [decide_eq_false_iff_not]; omega)).mono ?_
          rintro e wu ⟨rfl, -, hb⟩
          have HDu := Lib.hid (HEn.out _ (HDx.out.later hb))
          clear hb HDx HL HEn
          go_wp2_with fail
          go_ret
          simpa using HDu.out
      · have HX1 : Hid (2 * (k : Int) + 1 = ((c : Nat) : Int)) := by show _ = _; omega
        clear ec
        obtain ⟨wx, rfl⟩ : ∃ wx, wx = wr := ⟨_, rfl⟩
        have HDx := HD
        clear HD
        by_cases hl : us S h1 c < us S h1 k
        · have HL := Lib.hid hl
          clear hl
          go_wp2_with fail
          refine (hless_at (i := c) (j := k) HDx.out.hs HN4.out.2.2.1 hk hm HX1.out rfl (decide_eq_true HL.out)).mono ?_
          rintro e wu ⟨rfl, -, hb⟩
          have HDu := Lib.hid (HDx.out.later hb)
          have hsu : (method 239 92 (.pointer (some ⟨bc, 2, none⟩)) "Swap").run Try.prog wu = .ok (89, .slice (some ⟨gr, 0, none⟩) m cap) wu := (gm_swap _ _).trans (gload HDu.out.hs.cb.cell.2.2.1)
          clear hb HDx
          go_wp2_with fail
          refine (hswap_at (i := k) (j := c) HDu.out.hs hk HN4.out.2.2.1 hm HN4.out.2.2.2.1 rfl HX1.out).mono ?_
          rintro e wv ⟨rfl, hH, ho⟩
          have HNext := Lib.hid (dn_step HN4.out.2.2.2.2.1 HX.out HN4.out.1 HN4.out.2.1 HN4.out.2.2.2.2.2 hn HL.out HMin.out (HDu.out.swap hH ho (by have := HN4.out; omega) HN4.out.2.2.2.2.2 hn))
          clear hH ho HDu HL
          go_wp2_with fail
          go_roundw
          case rel => rw [HX1.out]; exact HNext.out
          case measure => rw [HX1.out]; simp [intOf]; have := HN4.out; omega
        · have HEnd : ∀ W, DU w bc bm base gr cap room uses m n h h1 S W → DnO w bc bm base gr cap room uses m n h S i (.returned (.bool (decide (i < k)))) W := fun W hD => dn_end HN4.out.2.2.2.2.1 HK0.out HKP.out HX.out (fun j j0 j1 j2 => by have := HMin.out j j0 j1 j2; omega) hD
          have HEn := Lib.hid HEnd
          have HL := Lib.hid hl
          clear HEnd hl
          go_wp2_with fail
          refine (hless_at (i := c) (j := k) HDx.out.hs HN4.out.2.2.1 hk hm HX1.out rfl (by have := HL.out; rw [decide_eq_false_iff_not]; omega)).mono ?_
          rintro e wu ⟨rfl, -, hb⟩
          have HDu := Lib.hid (HEn.out _ (HDx.out.later hb))
          clear hb HDx HL HEn
          go_wp2_with fail
          go_ret
          simpa using HDu.out
    · have t1 : (n : Int) ≤ 2 * (k : Int) + 1 := by omega
      have HEnd : Hid (DnO w bc bm base gr cap room uses m n h S i (.returned (.bool (decide (i < k)))) wr) := dn_end hik HK0.out HKP.out HX.out (fun j j0 j1 j2 => by omega) HD.out
      go_wp2_with fail
      go_ret
      simpa using HEnd.out
end
end Go.Proofs.Ytdnkeplmjimjcaa
