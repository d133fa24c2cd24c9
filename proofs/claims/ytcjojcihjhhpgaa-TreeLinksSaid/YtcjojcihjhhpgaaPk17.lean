/-
  TrLkM · TrLkL: these texts in one.
-/
import Derived.Test.YtcjojcihjhhpgaaPk14
import Derived.Test.YtcjojcihjhhpgaaPk13
/-
  TreeLinks in numbers.
-/
namespace Go.Proofs.Ytcjojcihjhhpgaa
open Go.RowKit

/-- Inode 3 has the names of the law that P tells, and the name more if b. -/
structure Nms (f : ByteArray → Option Nat) (P : Nat → Prop) (b : Prop) : Prop where
  y : ∀ j, j < 100 → P j → f (nmI j) = some 3
  n : ∀ j, j < 100 → ¬ P j → f (nmI j) = none
  my : b → f nmM = some 3
  mn : ¬ b → f nmM = none
  o : ∀ s j, f s = some j → (∃ i, i < 100 ∧ P i ∧ s = nmI i) ∨ (b ∧ s = nmM)
structure LS (T : Tr) (z : Int) (P : Nat → Prop) (b : Prop) : Prop where
  ex : ∃ k L f, RT T 5 k L f ∧ k 3 = 1 ∧ L 3 = z ∧ Nms f P b
def ptX : ByteArray := ⟨#[47, 120]⟩
def nmX : ByteArray := ⟨#[120]⟩
theorem ptX_one : P1 ptX nmX := ⟨by decide +kernel, by decide +kernel, by decide +kernel⟩
theorem nmI_nx (i : Nat) : nmI i ≠ nmX := fun e => by
  have := congrArg ByteArray.size e
  exact absurd this (by decide : (2 : Nat) ≠ 1)
section
variable {f : ByteArray → Option Nat} {P Q : Nat → Prop} {b c : Prop} {T : Tr} {z : Int} {i m g : Nat}
theorem Nms.same (h : Nms f P b) (hP : ∀ j, j < 100 → (P j ↔ Q j)) (hb : b ↔ c) : Nms f Q c :=
  ⟨fun j hj q => h.y j hj ((hP j hj).2 q), fun j hj q => h.n j hj (fun e => q ((hP j hj).1 e)), fun q => h.my (hb.2 q), fun q => h.mn (fun e => q (hb.1 e)), fun s j q => (h.o s j q).imp (fun ⟨i, a1, a2, a3⟩ => ⟨i, a1, (hP i a1).1 a2, a3⟩) (fun e => ⟨hb.1 e.1, e.2⟩)⟩
theorem Nms.put (h : Nms f P b) (hi : i < 100) : Nms (updS f (nmI i) (some 3)) (fun j => j = i ∨ P j) b := by
  refine ⟨fun j hj q => ?_, fun j hj q => ?_, fun q => ?_, fun q => ?_, fun s j q => ?_⟩
  · by_cases e : j = i
    · subst e; rw [updS_at]
    · rw [updS_ne _ _ (fun x => e (nmI_inj hj hi x))]
      exact h.y j hj (q.resolve_left e)
  · rw [updS_ne _ _ (fun x => q (.inl (nmI_inj hj hi x)))]
    exact h.n j hj (fun e => q (.inr e))
  · rw [updS_ne _ _ (Ne.symm (nmI_ne i))]; exact h.my q
  · rw [updS_ne _ _ (Ne.symm (nmI_ne i))]; exact h.mn q
  · by_cases e : s = nmI i
    · exact .inl ⟨i, hi, .inl rfl, e⟩
    · rw [updS_ne _ _ e] at q
      exact (h.o s j q).imp (fun ⟨i, a1, a2, a3⟩ => ⟨i, a1, .inr a2, a3⟩) id
theorem Nms.cut (h : Nms f P b) (hi : i < 100) : Nms (updS f (nmI i) none) (fun j => j ≠ i ∧ P j) b := by
  refine ⟨fun j hj q => ?_, fun j hj q => ?_, fun q => ?_, fun q => ?_, fun s j q => ?_⟩
  · rw [updS_ne _ _ (fun x => q.1 (nmI_inj hj hi x))]
    exact h.y j hj q.2
  · by_cases e : j = i
    · subst e; rw [updS_at]
    · rw [updS_ne _ _ (fun x => e (nmI_inj hj hi x))]
      exact h.n j hj (fun x => q ⟨e, x⟩)
  · rw [updS_ne _ _ (Ne.symm (nmI_ne i))]; exact h.my q
  · rw [updS_ne _ _ (Ne.symm (nmI_ne i))]; exact h.mn q
  · by_cases e : s = nmI i
    · subst e; rw [updS_at] at q; cases q
    · rw [updS_ne _ _ e] at q
      exact (h.o s j q).imp (fun ⟨k, a1, a2, a3⟩ => ⟨k, a1, ⟨fun e2 => e (by rw [a3, e2]), a2⟩, a3⟩) id
theorem Nms.more (h : Nms f P b) : Nms (updS f nmM (some 3)) P True := by
  refine ⟨fun j hj q => ?_, fun j hj q => ?_, fun _ => updS_at _ _ _, fun q => absurd trivial q, fun s j q => ?_⟩
  · rw [updS_ne _ _ (nmI_ne j)]; exact h.y j hj q
  · rw [updS_ne _ _ (nmI_ne j)]; exact h.n j hj q
  · by_cases e : s = nmM
    · exact .inr ⟨trivial, e⟩
    · rw [updS_ne _ _ e] at q
      exact (h.o s j q).imp id (fun x => absurd x.2 e)
theorem LS.same (h : LS T z P b) (hP : ∀ j, j < 100 → (P j ↔ Q j)) : LS T z Q b := by
  obtain ⟨k, L, f, h1, h2, h3, h4⟩ := h.ex
  exact ⟨k, L, f, h1, h2, h3, h4.same hP Iff.rfl⟩
theorem links_start : ∃ T', createK (tree0 5) (ptI 0) = (T', 3, 0) ∧ LS T' 1 (fun j => j < 1) False := by
  obtain ⟨T', h1, h2⟩ := (RT.new (n := 5)).create (ptI_one (i := 0) (by decide)) rfl (i := 3) (by decide)
  refine ⟨T', h1, _, _, _, h2, rfl, rfl, ?_⟩
  have h0 : Nms (fun _ => none) (fun _ => False) False := ⟨fun _ _ q => q.elim, fun _ _ _ => rfl, fun q => q.elim, fun _ => rfl, fun _ _ q => by cases q⟩
  exact (h0.put (i := 0) (by decide)).same (fun j _ => by simp) Iff.rfl
theorem LS.link (h : LS T z P b) (hi : i < 100) (hP : P i) (hm : m < 100) (hQ : ¬ P m) (hz : z ≠ 100) : ∃ T', linkK T (ptI i) (ptI m) = (T', 0) ∧ LS T' (z + 1) (fun j => j = m ∨ P j) b := by
  obtain ⟨k, L, f, h1, h2, h3, h4⟩ := h.ex
  obtain ⟨T', a1, a2⟩ := h1.link (ptI_one hi) (ptI_one hm) (h4.y i hi hP) h2 (h4.n m hm hQ) (by rw [h3]; exact hz)
  exact ⟨T', a1, _, _, _, a2, h2, by rw [updN_at, h3], h4.put hm⟩
theorem LS.linkM (h : LS T z P False) (hi : i < 100) (hP : P i) (hz : z ≠ 100) : ∃ T', linkK T (ptI i) ptM = (T', 0) ∧ LS T' (z + 1) P True := by
  obtain ⟨k, L, f, h1, h2, h3, h4⟩ := h.ex
  obtain ⟨T', a1, a2⟩ := h1.link (ptI_one hi) ptM_one (h4.y i hi hP) h2 (h4.mn (fun e => e)) (by rw [h3]; exact hz)
  exact ⟨T', a1, _, _, _, a2, h2, by rw [updN_at, h3], h4.more⟩
theorem LS.full (h : LS T 100 P False) (hi : i < 100) (hP : P i) : linkK T (ptI i) ptM = (T, 31) := by
  obtain ⟨k, L, f, h1, h2, h3, h4⟩ := h.ex
  exact h1.link_full (ptI_one hi) ptM_one (h4.y i hi hP) h2 (h4.mn (fun e => e)) h3
theorem LS.un (h : LS T z P b) (hi : i < 100) (hP : P i) (hz : z ≠ 1) : ∃ T', unlinkK T (ptI i) = (T', 0) ∧ LS T' (z - 1) (fun j => j ≠ i ∧ P j) b := by
  obtain ⟨k, L, f, h1, h2, h3, h4⟩ := h.ex
  obtain ⟨T', a1, a2⟩ := h1.unlink (ptI_one hi) (h4.y i hi hP) h2
  rw [if_neg (by rw [h3]; exact hz)] at a2
  exact ⟨T', a1, _, _, _, a2, h2, by rw [updN_at, h3], h4.cut hi⟩
theorem LS.no (h : LS T z P b) (hi : i < 100) (hP : ¬ P i) : unlinkK T (ptI i) = (T, 2) := by
  obtain ⟨k, L, f, h1, h2, h3, h4⟩ := h.ex
  exact h1.unlink_none (ptI_one hi) (h4.n i hi hP)
theorem links_end (h : LS T 1 (fun _ => False) True) : statK T ptM = (statA T 3, 0) ∧ T.Lk 3 = 1 ∧ ∃ T1 T2, unlinkK T ptM = (T1, 0) ∧ createK T1 ptX = (T2, 3, 0) ∧ ∀ L, WalkL T2 L → L = [ptX] := by
  obtain ⟨k, L, f, h1, h2, h3, h4⟩ := h.ex
  have hM := h4.my trivial
  obtain ⟨T1, a1, b1⟩ := h1.unlink ptM_one hM h2
  rw [if_pos h3] at b1
  have hf : ∀ s, updS f nmM none s = none := fun s => by
    by_cases e : s = nmM
    · subst e; rw [updS_at]
    · rw [updS_ne _ _ e]
      cases q : f s with
      | none => rfl
      | some j =>
        rcases h4.o s j q with ⟨i, -, x, -⟩ | ⟨-, x⟩
        · exact x.elim
        · exact absurd x e
  obtain ⟨T2, a2, b2⟩ := b1.create (i := 3) ptX_one (hf nmX) (leastF_of (by decide) (by decide) (updN_at _ _ _) fun j h2 hj => by
    have e : j = 2 := by omega
    subst e
    rw [updN_ne _ _ (by decide), h1.r]
    decide)
  refine ⟨h1.stat ptM_one hM, (h1.L 3 (by rw [h2]; decide)).trans h3, T1, T2, a1, a2, fun L hL => ?_⟩
  have hE : ∀ s, T2.E 2 s = if s = nmX then some 3 else none := fun s => by
    rw [b2.ent]
    by_cases e : s = nmX
    · subst e; rw [updS_at, if_pos rfl]
    · rw [updS_ne _ _ e, if_neg e]; exact hf s
  have hfl : Flat T2 [nmX] := by
    refine ⟨by simp, fun s => ?_, fun s j hj => ?_⟩
    · rw [hE]
      by_cases e : s = nmX
      · subst e; simp
      · rw [if_neg e]; simp [e]
    · rw [hE] at hj
      split at hj
      · cases hj
        rw [b2.K, updN_at]
        decide
      · cases hj
  rw [hfl.walk hL]
  have e : [nmX].map (fun s => slA ++ s) = [ptX] := by decide +kernel
  rw [e]
  exact srtB_id (by decide +kernel)
end
end Go.Proofs.Ytcjojcihjhhpgaa
/-
  The statement TreeLinks.
-/
namespace Go.Proofs.Ytcjojcihjhhpgaa
open Go.RowKit

def LkR1 (w : World) (bt : Nat) (v : Value) (wr : World) : Prop := ∃ (m cnt : Nat) (T : Tr), v = .int .i64 (m : Int) ∧ 1 ≤ m ∧ m ≤ 100 ∧ cnt ≤ m + 1 ∧ Lx w wr cnt T bt (fun _ => False) ∧ LS T m (fun j => j < m) False
def LkR2 (w : World) (bt g : Nat) (v : Value) (wr : World) : Prop := ∃ (i cnt : Nat) (T : Tr) (z : Int), v = .int .i64 (i : Int) ∧ i ≤ 100 ∧ cnt ≤ 200 + i ∧ z + i + (if i ≤ g then 1 else 0) = 101 ∧ Lx w wr cnt T bt (fun _ => False) ∧ LS T z (fun j => i ≤ j ∧ j ≠ g) True
set_option maxRecDepth 100000 in
set_option maxHeartbeats 1000000 in
theorem treeLinks_walk (a : Int) (w : World) (_ : (Lit.int .i64 a).wf = true) :
    Calls Try.prog 6 #[.int .i64 a] w fun e w' => e = .returned (.bool true) ∧ Below w.heap.size w w' := by
  obtain ⟨g, hg, hge⟩ := cut_mod a 99 (by decide)
  have hge : wrap64 ((IntKind.u64.wrap a).tmod 100) = (g : Int) := hge
  go_enter Try.func6, Try.ntmps6
  go_wp2_with fail
  refine (awake_any w).mono ?_
  rintro e w1 ⟨rfl, hb1⟩
  have HB1 := Lib.hid hb1
  clear hb1
  go_wp2_with fail
  refine (new_lx HB1.out (n := 5) (by decide) (by decide)).mono ?_
  rintro e w2 ⟨bt, rfl, h2, -⟩
  have H2 := Lib.hid h2
  clear h2
  go_wp2_with fail
  refine (name_links 0 (by decide) w2).mono ?_
  rintro e w3 ⟨rfl, hb3⟩
  obtain ⟨T0, a0, b0⟩ := links_start
  have HC := Lib.hid ((H2.out.quiet hb3).create (by decide) a0)
  have HL := Lib.hid b0
  clear hb3 a0 b0
  go_wp2_with fail
  refine HC.out.mono ?_
  rintro e w4 ⟨rfl, h4, -⟩
  have HS4 : Hid (LkR1 w bt (.int .i64 1) w4) := ⟨1, 0 + 1, T0, rfl, by decide, by decide, by decide, h4, HL.out⟩
  clear h4 HC HL
  go_wp2_with fail
  go_loopw [7] (fun v wr => LkR1 w bt v wr) (fun v _ => 100 - (intOf v).toNat)
  case atStart => exact HS4.out
  case round =>
    clear HS4 H2
    obtain ⟨m, cnt, T, rfl, h1, hm, hc, hx, hl⟩ := hrel
    have HX := Lib.hid hx
    have HL := Lib.hid hl
    have HQ : Hid (cnt ≤ m + 1 ∧ 1 ≤ m) := ⟨hc, h1⟩
    clear hx hl hc
    by_cases hlt : m < 100
    · have m1 : (m : Int) < 100 := by omega
      have m0 : (1 : Int) ≤ (m : Int) := by omega
      obtain ⟨q, hq⟩ : ∃ q : Nat, m = q + 1 := ⟨m - 1, by omega⟩
      have hq1 : (m : Int) - 1 = (q : Int) := by omega
      obtain ⟨T', e1, e2⟩ := HL.out.link (i := q) (m := m) (by omega) (by omega) hlt (by omega) (by omega)
      have HK := Lib.hid e1
      have HL2 : Hid (LS T' ((m + 1 : Nat) : Int) (fun j => j < m + 1) False) := by
        show LS T' ((m + 1 : Nat) : Int) (fun j => j < m + 1) False
        have := e2.same (Q := fun j => j < m + 1) (fun j _ => by omega)
        rw [show ((m + 1 : Nat) : Int) = (m : Int) + 1 by omega]
        exact this
      clear e1 e2
      have hq9 : q < 100 := by omega
      clear hq
      go_wp2_with fail
      refine (name_links q hq9 wr).mono ?_
      rintro e w5 ⟨rfl, hb5⟩
      have HX5 := Lib.hid (HX.out.quiet hb5)
      clear hb5 HX
      go_wp2_with fail
      refine (name_links m hlt w5).mono ?_
      rintro e w6 ⟨rfl, hb6⟩
      have HX6 := Lib.hid (HX5.out.quiet hb6)
      clear hb6 HX5
      go_wp2_with fail
      refine (HX6.out.link (by have := HQ.out; omega) HK.out).mono ?_
      rintro e w7 ⟨rfl, hx7, -⟩
      have HX7 := Lib.hid hx7
      clear hx7 HX6
      go_wp2_with fail
      exact ⟨⟨m + 1, cnt + 1, T', by go_num, by omega, by omega, by have := HQ.out; omega, HX7.out, HL2.out⟩, by simp [intOf]; omega⟩
    · obtain rfl : m = 100 := by omega
      obtain ⟨g1, hg1⟩ : ∃ g1 : Nat, g1 = (g + 1) % 100 := ⟨_, rfl⟩
      have hg1e : ((g : Int) + 1) % 100 = (g1 : Int) := by omega
      have g0 : (0 : Int) ≤ (g : Int) := by omega
      have g9 : (g : Int) < 100 := by omega
      have HG : Hid (g < 100 ∧ g1 < 100 ∧ g1 ≠ g) := ⟨by omega, by omega, by omega⟩
      have eFull := HL.out.full (i := 5) (by decide) (by decide)
      obtain ⟨T1, a1, b1⟩ := HL.out.un HG.out.1 HG.out.1 (by decide)
      obtain ⟨T2, a2, b2⟩ := b1.linkM HG.out.2.1 ⟨HG.out.2.2, HG.out.2.1⟩ (by decide)
      have HA := Lib.hid (And.intro eFull (And.intro a1 a2))
      have HL2 : Hid (LS T2 100 (fun j => 0 ≤ j ∧ j ≠ g) True) := b2.same (fun j hj => by omega)
      clear eFull a1 a2 b1 b2 hg1 hlt HL
      go_wp2_with fail
      rw [hge]
      refine (name_links 5 (by decide) wr).mono ?_
      rintro e w5 ⟨rfl, hb5⟩
      have HX5 := Lib.hid (HX.out.quiet hb5)
      clear hb5 HX hge
      go_wp2_with fail
      refine (HX5.out.link (s := ⟨#[47, 109, 111, 114, 101]⟩) (by have := HQ.out; omega) HA.out.1).mono ?_
      rintro e w6 ⟨rfl, hx6, -⟩
      have HX6 := Lib.hid hx6
      clear hx6 HX5
      go_wp2_with fail
      refine (name_links g HG.out.1 w6).mono ?_
      rintro e w7 ⟨rfl, hb7⟩
      have HX7 := Lib.hid (HX6.out.quiet hb7)
      clear hb7 HX6
      go_wp2_with fail
      refine (HX7.out.unlink HA.out.2.1).mono ?_
      rintro e w8 ⟨rfl, hx8, -⟩
      have HX8 := Lib.hid hx8
      clear hx8 HX7
      go_wp2_with fail
      refine (name_links g1 HG.out.2.1 w8).mono ?_
      rintro e w9 ⟨rfl, hb9⟩
      have HX9 := Lib.hid (HX8.out.quiet hb9)
      clear hb9 HX8
      go_wp2_with fail
      refine (HX9.out.link (s := ⟨#[47, 109, 111, 114, 101]⟩) (by have := HQ.out; omega) HA.out.2.2).mono ?_
      rintro e w10 ⟨rfl, hx10, -⟩
      have HS5 : Hid (LkR2 w bt g (.int .i64 0) w10) := ⟨0, _, T2, 100, rfl, by omega, by have := HQ.out; omega, by simp, hx10, HL2.out⟩
      clear hx10 HX9 HL2 HA HQ hg1e
      go_wp2_with fail
      go_loopw [8] (fun v wr => LkR2 w bt g v wr) (fun v _ => 100 - (intOf v).toNat)
      case atStart => exact HS5.out
      case round =>
        clear HS5
        obtain ⟨i, cnt, T, z, rfl, hi, hc, hz, hx, hl⟩ := hrel
        have HX := Lib.hid hx
        have HL := Lib.hid hl
        have HQ : Hid (cnt ≤ 200 + i ∧ z + i + (if i ≤ g then 1 else 0) = 101) := ⟨hc, hz⟩
        clear hx hl hc hz
        by_cases hlt : i < 100
        · have i1 : (i : Int) < 100 := by omega
          have i0 : (0 : Int) ≤ (i : Int) := by omega
          by_cases hig : i = g
          · subst hig
            have hno := Lib.hid (HL.out.no hlt (fun q => q.2 rfl))
            have HL2 : Hid (LS T z (fun j => i + 1 ≤ j ∧ j ≠ i) True) := HL.out.same (fun j hj => by omega)
            have HZ : Hid (z + ((i + 1 : Nat) : Int) + (if i + 1 ≤ i then 1 else 0) = 101) := by
              show _ = _
              have := HQ.out.2
              rw [if_pos (Nat.le_refl _)] at this
              rw [if_neg (by omega)]
              omega
            go_wp2_with fail
            refine (name_links i hlt wr).mono ?_
            rintro e w5 ⟨rfl, hb5⟩
            have HX5 := Lib.hid (HX.out.quiet hb5)
            clear hb5 HX
            go_wp2_with fail
            refine (HX5.out.unlink hno.out).mono ?_
            rintro e w6 ⟨rfl, hx6, -⟩
            have HX6 := Lib.hid hx6
            clear hx6 HX5
            go_wp2_with fail
            exact ⟨⟨i + 1, cnt + 1, T, z, by go_num, by omega, by have := HQ.out; omega, HZ.out, HX6.out, HL2.out⟩, by simp [intOf]; omega⟩
          · have hne : ((i : Int) == (g : Int)) = false := beq_eq_false_iff_ne.2 (by omega)
            have hne2 : ((i : Int) != (g : Int)) = true := bne_iff_ne.2 (by omega)
            have hz1 : z ≠ 1 := by
              have := HQ.out.2
              split at this <;> omega
            obtain ⟨T', a1, b1⟩ := HL.out.un hlt ⟨Nat.le_refl _, hig⟩ hz1
            have HA := Lib.hid a1
            have HL2 : Hid (LS T' (z - 1) (fun j => i + 1 ≤ j ∧ j ≠ g) True) := b1.same (fun j hj => by omega)
            have HZ : Hid (z - 1 + ((i + 1 : Nat) : Int) + (if i + 1 ≤ g then 1 else 0) = 101) := by
              show _ = _
              have := HQ.out.2
              by_cases e : i ≤ g
              · rw [if_pos e] at this
                rw [if_pos (by omega)]
                omega
              · rw [if_neg e] at this
                rw [if_neg (by omega)]
                omega
            clear a1 b1
            go_wp2_with fail
            refine (name_links i hlt wr).mono ?_
            rintro e w5 ⟨rfl, hb5⟩
            have HX5 := Lib.hid (HX.out.quiet hb5)
            clear hb5 HX
            go_wp2_with fail
            refine (HX5.out.unlink HA.out).mono ?_
            rintro e w6 ⟨rfl, hx6, -⟩
            have HX6 := Lib.hid hx6
            clear hx6 HX5
            go_wp2_with fail
            exact ⟨⟨i + 1, cnt + 1, T', z - 1, by go_num, by omega, by have := HQ.out; omega, HZ.out, HX6.out, HL2.out⟩, by simp [intOf]; omega⟩
        · obtain rfl : i = 100 := by omega
          obtain rfl : z = 1 := by
            have := HQ.out.2
            rw [if_neg (by omega)] at this
            omega
          obtain ⟨e1, e2, T1, T2, e3, e4, e5⟩ := links_end (HL.out.same (fun j hj => by constructor <;> (intro q; first | exact q.elim | omega)))
          have HE := Lib.hid (And.intro e3 (And.intro e4 e5))
          have hst := HX.out.stat (s := ⟨#[47, 109, 111, 114, 101]⟩)
          have e1 : statK T ⟨#[47, 109, 111, 114, 101]⟩ = (statA T 3, 0) := e1
          rw [e1] at hst
          unfold statA at hst
          rw [e2] at hst
          generalize (((if T.K 3 = 1 then T.D 3 else []).length : Nat) : Int) = sz at hst
          have HSt := Lib.hid hst
          clear e1 e2 e3 e4 e5 hst
          go_wp2_with fail
          refine HSt.out.mono ?_
          rintro e w5 ⟨rfl, hb5⟩
          have HX5 := Lib.hid (HX.out.quiet hb5)
          clear hb5 HX HSt
          go_wp2_with fail
          refine ((HX5.out.quiet (sup_pct w5 _)).unlink (s := ⟨#[47, 109, 111, 114, 101]⟩) HE.out.1).mono ?_
          rintro e w6 ⟨rfl, hx6, -⟩
          have HX6 := Lib.hid hx6
          clear hx6 HX5
          go_wp2_with fail
          refine (HX6.out.create (s := ⟨#[47, 120]⟩) (by have := HQ.out; omega) HE.out.2.1).mono ?_
          rintro e w7 ⟨rfl, hx7, -⟩
          have HX7 := Lib.hid hx7
          clear hx7 HX6
          go_wp2_with fail
          refine HX7.out.walk.mono ?_
          rintro e w8 ⟨v, L, rfl, hL, ho, hb⟩
          obtain rfl := HE.out.2.2 L hL
          obtain ⟨a8, c8, rfl, -⟩ := own_slice ho
          have hS8 : Strs w8 a8 [⟨#[47, 120]⟩] := Strs.own ho
          obtain ⟨w9, hw9⟩ : ∃ w9, w8.alloc (.cells #[.string ⟨#[47, 120]⟩] STT) = w9 := ⟨_, rfl⟩
          have hb9 : Below w8.heap.size w8 w9 := by rw [← hw9]; exact sup_pct w8 _
          have hS9 : Strs w9 (some ⟨w8.heap.size, 0, none⟩) [⟨#[47, 120]⟩] := by rw [← hw9]; exact Strs.laid w8 _ _ _ rfl
          have HT := Lib.hid (texts_any _ _ a8 (some ⟨w8.heap.size, 0, none⟩) 1 1 c8 1 w9 rfl rfl (by decide) (hS8.below hb9) hS9)
          have HB := Lib.hid (HX7.out.b.trans ((hb.trans (hb9.mono hb.size)).mono HX7.out.b.size))
          clear hL ho hS8 hS9 hb hb9 HE
          go_wp2_with fail
          refine HT.out.mono ?_
          rintro e w10 ⟨rfl, hb10⟩
          have HB10 := Lib.hid (HB.out.trans (hb10.mono HB.out.size))
          clear hb10
          go_wp2_with fail
          go_ret
          exact ⟨rfl, HB10.out⟩
end Go.Proofs.Ytcjojcihjhhpgaa
