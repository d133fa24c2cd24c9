/-
  The walks of a table's Take at whatever table; of Release, Use at whatever number.
-/
import Derived.Test.YtfilbbiiiaodiaaUsTake
namespace Go.Proofs.Ytfilbbiiiaodiaa
open Go.RowKit

section
variable {w : World} {bt g n seg B : Nat} {size hand : Int} {F : List Int}
set_option maxHeartbeats 1000000 in
/-- Take where the k-th segment behind the hand is the first that is clean. -/
theorem take_at (k : Nat) (h : Tb w bt g TB IN n size hand F) (hn : n ≤ 512) (hB : B ≤ g) (hB' : B ≤ bt) (hh : -1 ≤ hand ∧ hand ≤ 1000) (hk : k < n) (hq : (hand + 1 + (k : Int)) % (n : Int) = (seg : Int)) (hs : seg < n) (h0 : F.getD (seg * 3 + 1) 0 = 0)
    (hpre : ∀ j, j < k → ∀ q : Nat, (hand + 1 + (j : Int)) % (n : Int) = (q : Int) → F.getD (q * 3 + 1) 0 ≠ 0) :
    Calls Try.prog 14 #[.pointer (some ⟨bt, 0, none⟩)] w (TOut B w bt g n size F seg) := by
  have H := Lib.hid h
  have HPre := Lib.hid hpre
  have HS := Lib.hid (seize_any (seg := seg) h hs hn hB hB')
  have HQ := Lib.hid hq
  have H0 := Lib.hid h0
  have t0 := h.top.cell 0
  have t2 := h.top.cell 2
  simp at t0 t2
  have i3 : 0 < (n : Int) := by omega
  clear h h0 hpre hq
  go_enter Try.func14, Try.ntmps14
  go_wp2_with fail
  go_loopw [13] (fun i wr => ∃ j : Nat, j ≤ k ∧ i = .int .i64 j ∧ wr = w) (fun i _ => n - (intOf i).toNat)
  case atStart => exact ⟨0, by omega, rfl, rfl⟩
  case round =>
    obtain ⟨j, hj, rfl, rfl⟩ := hrel
    by_cases hlt : j < k
    · obtain ⟨q, hqj⟩ : ∃ q : Nat, (hand + 1 + (j : Int)) % (n : Int) = (q : Int) := ⟨((hand + 1 + (j : Int)) % (n : Int)).toNat, by have := Int.emod_nonneg (hand + 1 + (j : Int)) (show (n : Int) ≠ 0 by omega); omega⟩
      have hqn : q < n := by have := Int.emod_lt_of_pos (hand + 1 + (j : Int)) i3; omega
      have c1 := H.out.cell (q * 3 + 1) (by omega)
      have hx : (F.getD (q * 3 + 1) 0 == 0) = false := by simpa using HPre.out j hlt q hqj
      have i1 : (0 : Int) ≤ (q : Int) := by omega
      have i2 : (q : Int) < (n : Int) := by omega
      have i4 : j < n := by omega
      generalize F.getD (q * 3 + 1) 0 = x at *
      go_wp2_with fail
      go_roundw
      case rel => exact ⟨j + 1, by omega, by simp, trivial⟩
      case measure => simp [intOf]; omega
    · obtain rfl : j = k := by omega
      have c1 := H.out.cell (seg * 3 + 1) (by omega)
      rw [H0.out] at c1
      have hqq := HQ.out
      have i1 : (0 : Int) ≤ (seg : Int) := by omega
      have i2 : (seg : Int) < (n : Int) := by omega
      clear hlt hj
      go_wp2_with fail
      refine HS.out.mono ?_
      rintro e w' ⟨rfl, ht, hb⟩
      have HT := Lib.hid ht
      have HB := Lib.hid hb
      clear ht hb HS
      go_wp2
      go_ret2
      exact ⟨rfl, HT.out, HB.out⟩
/-- Any number: the first that fits, or none. -/
theorem first_or (p : Nat → Prop) : ∀ n : Nat, (∃ k, k < n ∧ p k ∧ ∀ j, j < k → ¬ p j) ∨ ∀ j, j < n → ¬ p j
  | 0 => .inr fun j hj => by omega
  | n + 1 => by
    rcases first_or p n with ⟨k, hk, h1, h2⟩ | h
    · exact .inl ⟨k, by omega, h1, h2⟩
    · rcases Classical.em (p n) with h1 | h1
      · exact .inl ⟨n, by omega, h1, h⟩
      · exact .inr fun j hj => by
          rcases Nat.lt_or_ge j n with h2 | h2
          · exact h j h2
          · obtain rfl : j = n := by omega
            exact h1
/-- The segment that Take gives, if there is one. -/
def nth (n : Nat) (hand : Int) (k : Nat) : Nat := ((hand + 1 + (k : Int)) % (n : Int)).toNat
theorem nth_lt (n : Nat) (hand : Int) (k : Nat) (h : 0 < n) : nth n hand k < n ∧ (hand + 1 + (k : Int)) % (n : Int) = (nth n hand k : Int) := by
  have h1 := Int.emod_nonneg (hand + 1 + (k : Int)) (show (n : Int) ≠ 0 by omega)
  have h2 := Int.emod_lt_of_pos (hand + 1 + (k : Int)) (show (0 : Int) < n by omega)
  unfold nth
  omega
def TakeIs (F : List Int) (n : Nat) (hand : Int) (r : Option Nat) : Prop :=
  (∃ k, k < n ∧ r = some (nth n hand k) ∧ F.getD (nth n hand k * 3 + 1) 0 = 0 ∧ ∀ j, j < k → F.getD (nth n hand j * 3 + 1) 0 ≠ 0) ∨ (r = none ∧ ∀ j, j < n → F.getD (nth n hand j * 3 + 1) 0 ≠ 0)
theorem takeIs_ex (F : List Int) (n : Nat) (hand : Int) : ∃ r, TakeIs F n hand r := by
  rcases first_or (fun k => F.getD (nth n hand k * 3 + 1) 0 = 0) n with ⟨k, h1, h2, h3⟩ | h
  · exact ⟨some (nth n hand k), .inl ⟨k, h1, rfl, h2, h3⟩⟩
  · exact ⟨none, .inr ⟨rfl, h⟩⟩
theorem takeIs_one {F : List Int} {n : Nat} {hand : Int} {r r' : Option Nat} (h : TakeIs F n hand r) (h' : TakeIs F n hand r') : r = r' := by
  rcases h with ⟨k, k1, rfl, k2, k3⟩ | ⟨rfl, k1⟩ <;> rcases h' with ⟨j, j1, rfl, j2, j3⟩ | ⟨rfl, j1⟩
  · rcases Nat.lt_trichotomy k j with h | h | h
    · exact absurd k2 (j3 k h)
    · subst h; rfl
    · exact absurd j2 (k3 j h)
  · exact absurd k2 (j1 k ‹k < n›)
  · exact absurd j2 (k1 j ‹j < n›)
  · rfl
set_option maxHeartbeats 400000 in
/-- 'with' at a number that is no segment's. -/
theorem with_out (x : Int) (act : Value) (h : Tb w bt g TB IN n size hand F) (hn : n ≤ 512) (hx : x < 0 ∨ (n : Int) ≤ x) :
    Calls Try.prog 34 #[.pointer (some ⟨bt, 0, none⟩), .int .i64 x, act] w fun e w' => e = .returned (.int .i64 22) ∧ w = w' := by
  have t0 := h.top.cell 0
  simp at t0
  clear h
  rcases hx with h1 | h1
  · go_enter Try.func34, Try.ntmps34
    go_wp2
    go_ret
    exact ⟨rfl, rfl⟩
  · have h2 : 0 ≤ x := by omega
    go_enter Try.func34, Try.ntmps34
    go_wp2
    go_ret
    exact ⟨rfl, rfl⟩
set_option maxHeartbeats 400000 in
theorem rel_out (x : Int) (h : Tb w bt g TB IN n size hand F) (hn : n ≤ 512) (hx : x < 0 ∨ (n : Int) ≤ x) :
    Calls Try.prog 17 #[.pointer (some ⟨bt, 0, none⟩), .int .i64 x] w fun e w' => e = .returned (.int .i64 22) ∧ w = w' := by
  have HC := Lib.hid (with_out x (.func (.func 37) #[] #[]) h hn hx)
  clear h hx
  go_enter Try.func17, Try.ntmps17
  go_wp2_with fail
  refine HC.out.mono ?_
  rintro e w' ⟨rfl, rfl⟩
  go_wp2
  go_ret
  exact ⟨rfl, rfl⟩
theorem rel_stale (h : Tb w bt g TB IN n size hand F) (hs : seg < n) (hn : n ≤ 512) (h0 : F.getD (seg * 3 + 1) 0 = 0) :
    Calls Try.prog 17 #[.pointer (some ⟨bt, 0, none⟩), .int .i64 seg] w fun e w' => e = .returned (.int .i64 103) ∧ w = w' :=
  rel_with _ 103 hs (with_rel _ 103 h hs hn (release_stale h hs h0))
set_option maxHeartbeats 400000 in
theorem release_live (h : Tb w bt g TB IN n size hand F) (hs : seg < n) (h0 : F.getD (seg * 3 + 1) 0 = 1) (hl : F.getD (seg * 3) 0 ≠ 0) :
    Calls Try.prog 37 #[.pointer (some ⟨g, seg * 3, none⟩)] w fun e w' => e = .returned (.int .i64 16) ∧ w = w' := by
  have c0 := h.cell (seg * 3) (by omega)
  have c1 := h.cell (seg * 3 + 1) (by omega)
  rw [h0] at c1
  have hx : (F.getD (seg * 3) 0 != 0) = true := by simpa using hl
  clear h h0 hl
  generalize F.getD (seg * 3) 0 = x at *
  go_enter Try.func37, Try.ntmps37
  go_wp2
  go_ret
  exact ⟨rfl, rfl⟩
theorem rel_live (h : Tb w bt g TB IN n size hand F) (hs : seg < n) (hn : n ≤ 512) (h0 : F.getD (seg * 3 + 1) 0 = 1) (hl : F.getD (seg * 3) 0 ≠ 0) :
    Calls Try.prog 17 #[.pointer (some ⟨bt, 0, none⟩), .int .i64 seg] w fun e w' => e = .returned (.int .i64 16) ∧ w = w' :=
  rel_with _ 16 hs (with_rel _ 16 h hs hn (release_live h hs h0 hl))
set_option maxHeartbeats 400000 in
theorem use_clean (h : Tb w bt g TB IN n size hand F) (hs : seg < n) (h0 : F.getD (seg * 3 + 1) 0 = 0) :
    Calls Try.prog 36 #[.pointer (some ⟨g, seg * 3, none⟩)] w fun e w' => e = .returned (.int .i64 0) ∧ w' = w.setCell ⟨g, seg * 3 + 1, none⟩ (.int .i64 1) := by
  have c1 := h.cell (seg * 3 + 1) (by omega)
  have f1 := h.segs.frozen (seg * 3 + 1)
  rw [h0] at c1
  clear h h0
  go_enter Try.func36, Try.ntmps36
  go_wp2
  go_ret
  exact ⟨rfl, rfl⟩
set_option maxHeartbeats 400000 in
theorem use_stale (h : Tb w bt g TB IN n size hand F) (hs : seg < n) (h0 : F.getD (seg * 3 + 1) 0 ≠ 0) :
    Calls Try.prog 36 #[.pointer (some ⟨g, seg * 3, none⟩)] w fun e w' => e = .returned (.int .i64 103) ∧ w = w' := by
  have c1 := h.cell (seg * 3 + 1) (by omega)
  have hx : (F.getD (seg * 3 + 1) 0 != 0) = true := by simpa using h0
  clear h h0
  generalize F.getD (seg * 3 + 1) 0 = x at *
  go_enter Try.func36, Try.ntmps36
  go_wp2
  go_ret
  exact ⟨rfl, rfl⟩
set_option maxHeartbeats 400000 in
theorem with_use (R : World → Prop) (c : Int) (h : Tb w bt g TB IN n size hand F) (hs : seg < n) (hn : n ≤ 512)
    (hc : Calls Try.prog 36 #[.pointer (some ⟨g, seg * 3, none⟩)] w fun e w' => e = .returned (.int .i64 c) ∧ R w') :
    Calls Try.prog 16 #[.pointer (some ⟨bt, 0, none⟩), .int .i64 seg] w fun e w' => e = .returned (.int .i64 c) ∧ R w' := by
  have HC := Lib.hid hc
  have t0 := h.top.cell 0
  simp at t0
  have i1 : (0 : Int) ≤ (seg : Int) := by omega
  have i2 : (seg : Int) < (n : Int) := by omega
  have HW : Hid (Calls Try.prog 34 #[.pointer (some ⟨bt, 0, none⟩), .int .i64 seg, .func (.func 36) #[] #[]] w fun e w' => e = .returned (.int .i64 c) ∧ R w') := by
    show Calls _ _ _ _ _
    clear h hc
    go_enter Try.func34, Try.ntmps34
    go_wp2_with fail
    refine HC.out.mono ?_
    rintro e w' ⟨rfl, hr⟩
    have HR := Lib.hid hr
    clear hr HC
    go_wp2
    go_ret
    exact ⟨rfl, HR.out⟩
  clear h hc t0
  go_enter Try.func16, Try.ntmps16
  go_wp2_with fail
  refine HW.out.mono ?_
  rintro e w' ⟨rfl, hr⟩
  have HR := Lib.hid hr
  clear hr HC HW
  go_wp2
  go_ret
  exact ⟨rfl, HR.out⟩
theorem use_yes (h : Tb w bt g TB IN n size hand F) (hs : seg < n) (hn : n ≤ 512) (h0 : F.getD (seg * 3 + 1) 0 = 0) (hB : B ≤ g) :
    Calls Try.prog 16 #[.pointer (some ⟨bt, 0, none⟩), .int .i64 seg] w fun e w' => e = .returned (.int .i64 0) ∧ (Tb w' bt g TB IN n size hand (F.set (seg * 3 + 1) 1) ∧ Below B w w' ∧ Fr2 bt g w w') :=
  with_use _ 0 h hs hn ((use_clean h hs h0).mono fun e w' ⟨he, hw⟩ => ⟨he, by
    subst hw
    exact ⟨h.put (seg * 3 + 1) 1, (Below.refl B w).setCell (p := ⟨g, seg * 3 + 1, none⟩) hB _, fun _ _ _ hb _ hx => hx.far (p := ⟨g, seg * 3 + 1, none⟩) hb _⟩⟩)
/-- Release of a segment that holds it: no block but the table's is another. -/
theorem rel_fr (h : Tb w bt g TB IN n size hand F) (hs : seg < n) (hn : n ≤ 512) (h0 : F.getD (seg * 3 + 1) 0 = 1) (hl : F.getD (seg * 3) 0 = 0) (hB : B ≤ g) :
    Calls Try.prog 17 #[.pointer (some ⟨bt, 0, none⟩), .int .i64 seg] w fun e w' => e = .returned (.int .i64 0) ∧ (Tb w' bt g TB IN n size hand (rel F seg) ∧ Below B w w' ∧ Fr2 bt g w w') :=
  (rel_with _ 0 hs (with_rel _ 0 h hs hn (release_done h hs h0 hl))).mono fun e w' ⟨he, hw⟩ => ⟨he, by
    subst hw
    exact ⟨(h.put (seg * 3 + 1) 0).put (seg * 3 + 2) 0, ((Below.refl B w).setCell (p := ⟨g, seg * 3 + 1, none⟩) hB _).setCell (p := ⟨g, seg * 3 + 2, none⟩) hB _, fun _ _ _ hb _ hx => (hx.far (p := ⟨g, seg * 3 + 1, none⟩) hb _).far (p := ⟨g, seg * 3 + 2, none⟩) hb _⟩⟩
theorem use_no (h : Tb w bt g TB IN n size hand F) (hs : seg < n) (hn : n ≤ 512) (h0 : F.getD (seg * 3 + 1) 0 ≠ 0) :
    Calls Try.prog 16 #[.pointer (some ⟨bt, 0, none⟩), .int .i64 seg] w fun e w' => e = .returned (.int .i64 103) ∧ w = w' :=
  with_use _ 103 h hs hn (use_stale h hs h0)
end
end Go.Proofs.Ytfilbbiiiaodiaa
