/-
  The heap: up.
-/
import Derived.Test.YtdnkeplmjimjcaaChDn
namespace Go.Proofs.Ytdnkeplmjimjcaa
open Go.RowKit
section
variable {w w' : World} {base m n cap gr i j C bc bm b : Nat} {h : Nat → Nat} {S : Nat → Bf} {room uses : Int} {v : Value} {a : Int}
def UpI (w : World) (bc bm base gr cap : Nat) (room uses : Int) (m n : Nat) (h0 : Nat → Nat) (S : Nat → Bf) (v : Value) (wr : World) : Prop :=
  ∃ (h : Nat → Nat) (k : Nat), v = .int .i64 ((k : Nat) : Int) ∧ k < n ∧ Hu n (us S h) k ∧ DU w bc bm base gr cap room uses m n h0 h S wr
def UpO (w : World) (bc bm base gr cap : Nat) (room uses : Int) (m n : Nat) (h0 : Nat → Nat) (S : Nat → Bf) (w' : World) : Prop :=
  ∃ h : Nat → Nat, Hq n (us S h) ∧ DU w bc bm base gr cap room uses m n h0 h S w'
set_option maxRecDepth 100000 in
set_option maxHeartbeats 8000000 in
theorem hup_any (hH : HS w bc bm base gr cap room uses m h S) (hi : i < n) (hn : n ≤ m) (hm : m ≤ 4096) (hx : Hu n (us S h) i) :
    Calls Try.prog 64 #[.iface 92 (.pointer (some ⟨bc, 2, none⟩)), .int .i64 i] w fun e w' => e = .returned (.tuple #[]) ∧ UpO w bc bm base gr cap room uses m n h S w' := by
  have HS0 : Hid (UpI w bc bm base gr cap room uses m n h S (.int .i64 ((i : Nat) : Int)) w) := ⟨h, i, rfl, hi, hx, DU.start hH⟩
  clear hH hx hi
  go_enter Try.func64, Try.ntmps64
  go_wp2_with fail
  go_loopw [1] (fun v wr => UpI w bc bm base gr cap room uses m n h S v wr) (fun v _ => (intOf v).toNat)
  case atStart => exact HS0.out
  case round =>
    clear HS0
    obtain ⟨h1, k, rfl, hk, hX, hD⟩ := hrel
    have HD := Lib.hid hD
    have HX := Lib.hid hX
    have hls : (method 239 92 (.pointer (some ⟨bc, 2, none⟩)) "Less").run Try.prog wr = .ok (88, .slice (some ⟨gr, 0, none⟩) m cap) wr := (gm_less _ _).trans (gload hD.hs.cb.cell.2.2.1)
    clear hD hX
    have k0 : (0 : Int) ≤ (k : Int) := by omega
    have k1 : (k : Int) ≤ 4096 := by omega
    obtain ⟨p, hp⟩ : ∃ p, (k - 1) / 2 = p := ⟨_, rfl⟩
    have hq : ((k : Int) - 1).tdiv 2 = ((p : Nat) : Int) := by
      by_cases e : k = 0
      · subst e
        have : p = 0 := by omega
        subst this
        decide
      · rw [Int.tdiv_eq_ediv_of_nonneg (by omega)]
        omega
    by_cases hk0 : k = 0
    · subst hk0
      obtain rfl : p = 0 := by omega
      have HEnd : Hid (UpO w bc bm base gr cap room uses m n h S wr) := ⟨h1, HX.out.q (fun q => by omega), HD.out⟩
      clear HD HX hp
      go_wp2_with fail
      go_end0
      exact ⟨rfl, HEnd.out⟩
    · have he : (((p : Nat) : Int) == ((k : Nat) : Int)) = false := by rw [beq_eq_false_iff_ne]; omega
      have p0 : (0 : Int) ≤ (p : Int) := by omega
      have p1 : (p : Int) ≤ 4096 := by omega
      have he2 : (p == k) = false := by rw [beq_eq_false_iff_ne]; omega
      have he3 : ¬ p = k := by omega
      have HP : Hid ((k - 1) / 2 = p ∧ 0 < k ∧ p < k ∧ p ≠ k) := ⟨hp, by omega, by omega, by omega⟩
      clear hp hk0
      by_cases hl : us S h1 k < us S h1 p
      · have HL := Lib.hid hl
        clear hl
        go_wp2_with fail
        refine (hless_at (i := k) (j := p) HD.out.hs (by omega) (by have := HP.out; omega) hm rfl rfl (decide_eq_true HL.out)).mono ?_
        rintro e wu ⟨rfl, -, hb⟩
        have HDu := Lib.hid (HD.out.later hb)
        have hsu : (method 239 92 (.pointer (some ⟨bc, 2, none⟩)) "Swap").run Try.prog wu = .ok (89, .slice (some ⟨gr, 0, none⟩) m cap) wu := (gm_swap _ _).trans (gload HDu.out.hs.cb.cell.2.2.1)
        clear hb HD hls
        go_wp2_with fail
        refine (hswap_at (i := p) (j := k) HDu.out.hs (by have := HP.out; omega) (by omega) hm HP.out.2.2.2 rfl rfl).mono ?_
        rintro e wv ⟨rfl, hH, ho⟩
        have HNext : Hid (UpI w bc bm base gr cap room uses m n h S (.int .i64 ((p : Nat) : Int)) wv) := ⟨sw h1 p k, p, rfl, by have := HP.out; omega, by
          rw [us_sw, ← HP.out.1]
          exact HX.out.up HP.out.2.1 hk (by rw [HP.out.1]; have := HL.out; omega), HDu.out.swap hH ho (by have := HP.out; omega) hk hn⟩
        clear hH ho HDu HL
        go_wp2_with fail
        go_roundw
        case rel => exact HNext.out
        case measure => simp [intOf]; have := HP.out; omega
      · have HEnd : Hid (∀ W, DU w bc bm base gr cap room uses m n h h1 S W → UpO w bc bm base gr cap room uses m n h S W) := fun W hD => ⟨h1, HX.out.q (fun _ => by rw [HP.out.1]; omega), hD⟩
        have HL := Lib.hid hl
        clear hl
        go_wp2_with fail
        refine (hless_at (i := k) (j := p) HD.out.hs (by omega) (by have := HP.out; omega) hm rfl rfl (by have := HL.out; rw [decide_eq_false_iff_not]; omega)).mono ?_
        rintro e wu ⟨rfl, -, hb⟩
        have HEn := Lib.hid (HEnd.out _ (HD.out.later hb))
        clear hb HD HL HEnd
        go_wp2_with fail
        go_end0
        exact ⟨rfl, HEn.out⟩
end
end Go.Proofs.Ytdnkeplmjimjcaa
