/-
  The walk of Wipe.
-/
import Derived.Test.YtmkhliabmodbdaaPtRefS
namespace Go.Proofs.Ytmkhliabmodbdaa
open Go.RowKit

def wpE (k : Nat) (d : Dm) : Dm × Int :=
  if k = 0 then (if (writeD d 1 zeroB).2 ≠ 0 then writeD d 1 zeroB else if (writeD (writeD d 1 zeroB).1 2 zeroB).2 ≠ 0 then writeD (writeD d 1 zeroB).1 2 zeroB else barrD (writeD (writeD d 1 zeroB).1 2 zeroB).1)
  else if k = 1 then (if (writeD d 2 zeroB).2 ≠ 0 then writeD d 2 zeroB else barrD (writeD d 2 zeroB).1)
  else barrD d
def wipeD (d : Dm) : Dm × Int := wpE 0 d
theorem wp_step {k : Nat} (d : Dm) (hk : k < 2) : wpE k d = if (writeD d ((k : Int) + 1) zeroB).2 ≠ 0 then writeD d ((k : Int) + 1) zeroB else wpE (k + 1) (writeD d ((k : Int) + 1) zeroB).1 := by
  match k, hk with
  | 0, _ => rfl
  | 1, _ => rfl
theorem writeD_more (d : Dm) (k : Int) (l : List Nat) (hl : 0 ≤ d.left) : 0 ≤ (writeD d k l).1.left ∧ (writeD d k l).1.steps ≤ d.steps + 1 ∧ (writeD d k l).1.Q.length ≤ d.Q.length + 1 := by
  unfold writeD
  split
  · exact ⟨hl, by show d.steps ≤ _; omega, by show d.Q.length ≤ _; omega⟩
  · split
    · exact ⟨hl, by show d.steps ≤ _; omega, by show d.Q.length ≤ _; omega⟩
    · rename_i h2
      exact ⟨putD_pos hl (bool_no h2), by show d.steps + 1 ≤ _; omega, by show (d.Q ++ [_]).length ≤ _; simp⟩
section
variable {C : Nat} {w : World} {L : Dl} {d : Dm}
def WpR (C : Nat) (w : World) (L : Dl) (d : Dm) (sv : Dm × Int) (t : Value) (wr : World) : Prop :=
  ∃ (k : Nat) (q : Value) (dk : Dm), k ≤ 2 ∧ t = .int .i64 ((k : Int) + 1) ∧ Dk C wr { L with qv := q } dk ∧ Out L.has w wr ∧ (∀ g, q.ownBlock = some g → L.qv.ownBlock = some g ∨ w.heap.size ≤ g) ∧ sv = wpE k dk ∧ (0 ≤ dk.left ∧ dk.steps ≤ d.steps + k ∧ dk.Q.length ≤ d.Q.length + k)
set_option maxRecDepth 100000 in
set_option maxHeartbeats 4000000 in
theorem wipe_any (h : Dk C w L d) (hn : 3 ≤ d.n) (hl : 0 ≤ d.left) (hs : d.steps + 3 ≤ 1000000) (hq : d.Q.length + 3 ≤ 1000000) : Calls Try.prog 15 #[.pointer (some ⟨L.bd, 0, none⟩)] w (CodeO C w L (wipeD d).1 (wipeD d).2) := by
  obtain ⟨sv, hsv⟩ : ∃ sv, wipeD d = sv := ⟨_, rfl⟩
  rw [hsv]
  have HSt : Hid (WpR C w L d sv (.int .i64 1) w) := ⟨0, L.qv, d, by decide, rfl, h, Out.refl _ _, fun g hg => .inl hg, hsv.symm, hl, by omega, by omega⟩
  have HD := Lib.hid h
  have hn0 : ¬ (d.n : Int) < 3 := by omega
  have hmk := run_make64
  clear h hsv
  go_enter Try.func15, Try.ntmps15
  go_wp2_with fail
  refine (size_any HD.out).mono ?_
  rintro e w1 ⟨rfl, rfl⟩
  go_wp2_with fail
  go_loopw [3] (fun t wr => WpR C w L d sv t wr) (fun t _ => 3 - (intOf t).toNat)
  case atStart => exact HSt.out
  case round =>
    clear HSt HD
    obtain ⟨k, q, dk, hk, rfl, hD, hO, hG, hE, hN⟩ := hrel
    have HD := Lib.hid hD
    have HO := Lib.hid hO
    have HG := Lib.hid hG
    have HE := Lib.hid hE
    have HN := Lib.hid hN
    clear hD hO hG hE hN
    by_cases hlt : k < 2
    · have k1 : (k : Int) + 1 ≤ 2 := by omega
      have HKn : Hid (k < 2) := hlt
      have HM := Lib.hid (writeD_more dk ((k : Int) + 1) zeroB HN.out.1)
      have hE2 := HE.out
      rw [wp_step dk hlt] at hE2
      have HE2 := Lib.hid hE2
      have hal : Below wr.heap.size wr (wr.alloc (.cells Z64 U8)) := (Below.refl _ _).alloc (Nat.le_refl _) _
      have HAl := Lib.hid hal
      have HW : Hid (Calls Try.prog 21 #[.pointer (some ⟨L.bd, 0, none⟩), .int .i64 ((k : Int) + 1), .slice (some ⟨wr.heap.size, 0, none⟩) 64 64] (wr.alloc (.cells Z64 U8)) (CodeO C (wr.alloc (.cells Z64 U8)) { L with qv := q } (writeD dk ((k : Int) + 1) zeroB).1 (writeD dk ((k : Int) + 1) zeroB).2)) :=
        write_any (L := { L with qv := q }) ((k : Int) + 1) _ 64 64 zeroB rfl (by decide) HN.out.1 (by have := HN.out.2.1; omega) (by have := HN.out.2.2; omega) (fun _ => ⟨_, rfl, BBlk.s ⟨blo_laid _ _ _, zeroB_length, zeroB_byte⟩⟩) (HD.out.later hal)
      generalize writeD dk ((k : Int) + 1) zeroB = r at *
      obtain ⟨d', code⟩ := r
      clear hE2 hal HE hlt
      go_wp2_with fail
      refine HW.out.mono ?_
      intro e w2 hO2
      have hB2 := hO2.before HAl.out
      have HB2 := Lib.hid hB2
      obtain ⟨rfl, _⟩ := hO2
      clear hB2
      by_cases hc : code = 0
      · subst hc
        have HE3 : Hid (sv = wpE (k + 1) d') := by have h := HE2.out; rw [if_neg (fun h => h rfl)] at h; exact h
        obtain ⟨_, q2, hD2, hO2, hG2⟩ := CodeO.seq (c1 := 0) (e1 := .returned (.int .i64 0)) (d1 := d) HO.out HG.out HB2.out
        have HD2 := Lib.hid hD2
        have HO2 := Lib.hid hO2
        have HG2 := Lib.hid hG2
        clear hD2 hO2 hG2 HB2 HE2 HW
        go_wp2_with fail
        go_roundw
        case rel => exact ⟨k + 1, q2, d', HKn.out, by simp, HD2.out, HO2.out, HG2.out, HE3.out, HM.out.1, by have := HM.out.2.1; have := HN.out.2.1; simp at *; omega, by have := HM.out.2.2; have := HN.out.2.2; simp at *; omega⟩
        case measure => simp [intOf]; have := HKn.out; omega
      · have HE3 : Hid (sv = (d', code)) := by have h := HE2.out; rw [if_pos hc] at h; exact h
        clear HE2 HW
        go_wp2_with fail
        go_ret
        exact (CodeO.seq (c1 := 0) (e1 := .returned (.int .i64 0)) (d1 := d) HO.out HG.out HB2.out).eqv HE3.out
    · have k1 : ¬ (k : Int) + 1 ≤ 2 := by omega
      have HE3 : Hid (sv = barrD dk) := by
        have hke : k = 2 := by omega
        have h := HE.out
        rw [hke] at h
        exact h
      go_wp2_with fail
      refine (barr_any (L := { L with qv := q }) HN.out.1 (by have := HN.out.2.1; omega) HD.out).mono ?_
      intro e w2 hO2
      have hB2 := CodeO.seq (c1 := 0) (e1 := .returned (.int .i64 0)) (d1 := d) HO.out HG.out hO2
      have HB2 := Lib.hid hB2
      obtain ⟨rfl, _⟩ := hO2
      clear hB2
      go_wp2
      go_ret
      rw [HE3.out]
      exact HB2.out
end
end Go.Proofs.Ytmkhliabmodbdaa
