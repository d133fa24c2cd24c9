/-
  The calls of the document's table at any number, told by the numbers alone.
-/
import Derived.Test.YtfilbbiiiaodiaaUrAdd
import Derived.Test.YtfilbbiiiaodiaaUrTouch
import Derived.Test.YtfilbbiiiaodiaaUrTake
import Derived.Test.YtfilbbiiiaodiaaUrSweep
namespace Go.Proofs.Ytfilbbiiiaodiaa
open Go.RowKit

section
variable {w : World} {g n cap : Nat} {size hand : Int} {F : List Int}
theorem set_same (F : List Int) (j : Nat) (v : Int) (h : F.getD j 0 = v) (hj : j < F.length) : F.set j v = F := by
  apply List.ext_getElem (by simp)
  intro i h1 h2
  rw [List.getElem_set]
  split
  · next e =>
    subst e
    rw [← h, List.getD_eq_getElem?_getD, List.getElem?_eq_getElem hj]
    rfl
  · rfl
theorem radd_c (x v : Int) (h : RT w g n F) (hc : n ≤ cap) (hn : n ≤ 512) (hl : Lives F n size) (hz : 1 ≤ size ∧ size ≤ 64) :
    Calls Try.prog 22 #[rv g n cap size hand, .int .i64 x, .int .i64 v] w (RO w g n size hand (addS n size F x v).2 (addS n size F x v).1) := by
  unfold addS
  by_cases h0 : 0 ≤ x
  · by_cases h1 : x < n
    · obtain ⟨s, rfl⟩ : ∃ s : Nat, x = (s : Int) := ⟨x.toNat, by omega⟩
      have hs : s < n := by omega
      have hls := hl s hs
      simp only [Int.toNat_natCast]
      by_cases hv : -(F.getD (s * 3) 0) ≤ v ∧ v ≤ size - F.getD (s * 3) 0
      · rw [if_pos ⟨h0, h1, hv.1, hv.2⟩]
        exact radd_yes v h hc hs hn (by omega) hls hz (by omega)
      · rw [if_neg fun q => hv ⟨q.2.2.1, q.2.2.2⟩]
        by_cases hb : 64 < v
        · exact radd_big s v h hc hn h0 h1 hb
        · by_cases hb2 : v < -64
          · exact radd_small s v h hc hn h0 h1 hb2
          · have hv3 : -64 ≤ v ∧ v ≤ 64 := by omega
            by_cases hneg : F.getD (s * 3) 0 + v < 0
            · exact radd_neg v h hc hs hn hv3 hls hz hneg
            · have hw : size < F.getD (s * 3) 0 + v := by omega
              exact radd_over v h hc hs hn hv3 hls hz hw
    · rw [if_neg fun q => h1 q.2.1]
      exact radd_high x v h hc hn h0 (by omega)
  · rw [if_neg fun q => h0 q.1]
    exact radd_low x v h hc hn (by omega)
theorem rtouch_c (x v : Int) (h : RT w g n F) (hc : n ≤ cap) (hn : n ≤ 512) :
    Calls Try.prog 24 #[rv g n cap size hand, .int .i64 x, .int .i64 v] w (RO w g n size hand (touchS n F x v).2 (touchS n F x v).1) := by
  unfold touchS
  by_cases h0 : 0 ≤ x
  · by_cases h1 : x < n
    · obtain ⟨s, rfl⟩ : ∃ s : Nat, x = (s : Int) := ⟨x.toNat, by omega⟩
      have hs : s < n := by omega
      simp only [Int.toNat_natCast]
      by_cases hv : 0 ≤ v
      · rw [if_pos ⟨h0, h1, hv⟩]
        by_cases hw : F.getD (s * 3 + 2) 0 < v
        · exact rtouch_new v h hc hs hn hv hw
        · exact rtouch_old v h hc hs hn hv (by omega)
      · rw [if_neg fun q => hv q.2.2]
        exact rtouch_neg s v h hc hn h0 h1 (by omega)
    · rw [if_neg fun q => h1 q.2.1]
      exact rtouch_high x v h hc hn h0 (by omega)
  · rw [if_neg fun q => h0 q.1]
    exact rtouch_low x v h hc hn (by omega)
theorem ruse_c (x : Int) (h : RT w g n F) (hc : n ≤ cap) (hn : n ≤ 512) :
    Calls Try.prog 26 #[rv g n cap size hand, .int .i64 x] w (RO w g n size hand (useS n F x).2 (useS n F x).1) := by
  unfold useS
  by_cases hx : 0 ≤ x ∧ x < n
  · rw [if_pos hx]
    obtain ⟨s, rfl⟩ : ∃ s : Nat, x = (s : Int) := ⟨x.toNat, by omega⟩
    have hs : s < n := by omega
    simp only [Int.toNat_natCast]
    by_cases h0 : st F s = 0
    · rw [if_pos h0]
      exact ruse_yes h hc hs hn h0
    · rw [if_neg h0]
      exact ruse_no h hc hs hn h0
  · rw [if_neg hx]
    exact ruse_out x h hc hn (by omega)
theorem rrel_c (x : Int) (h : RT w g n F) (hc : n ≤ cap) (hn : n ≤ 512) (hst : ∀ j, j < n → st F j = 0 ∨ st F j = 1 ∨ st F j = 2) :
    Calls Try.prog 27 #[rv g n cap size hand, .int .i64 x] w (RO w g n size hand (relS n F x).2 (relS n F x).1) := by
  unfold relS
  by_cases h0 : 0 ≤ x
  · by_cases h1 : x < n
    · rw [if_pos ⟨h0, h1⟩]
      obtain ⟨s, rfl⟩ : ∃ s : Nat, x = (s : Int) := ⟨x.toNat, by omega⟩
      have hs : s < n := by omega
      simp only [Int.toNat_natCast]
      rcases hst s hs with h2 | h2 | h2
      · rw [if_pos h2]
        exact rrel_stale h hc hs hn h2
      · rw [if_neg (by omega)]
        by_cases hl : F.getD (s * 3) 0 = 0
        · rw [if_pos ⟨h2, hl⟩]
          exact rrel_yes h hc hs hn h2 hl
        · rw [if_neg fun q => hl q.2]
          exact rrel_live h hc hs hn h2 hl
      · rw [if_neg (by omega), if_neg (by omega)]
        exact rrel_busy h hc hs hn h2
    · rw [if_neg fun q => h1 q.2]
      exact rrel_high x h hc hn h0 (by omega)
  · rw [if_neg fun q => h0 q.1]
    exact rrel_low x h hc hn (by omega)
theorem rseiz_c (x : Int) (h : RT w g n F) (hc : n ≤ cap) (hn : n ≤ 512) :
    Calls Try.prog 31 #[rv g n cap size hand, .int .i64 x] w (RO w g n size (seizS n hand F x).2.1 (seizS n hand F x).2.2 (seizS n hand F x).1) := by
  unfold seizS
  by_cases hx : 0 ≤ x ∧ x < n
  · rw [if_pos hx]
    obtain ⟨s, rfl⟩ : ∃ s : Nat, x = (s : Int) := ⟨x.toNat, by omega⟩
    simp only [Int.toNat_natCast]
    exact rseize_in h (by omega) hn
  · rw [if_neg hx]
    exact rseize_out x h hc hn (by omega)
theorem rtake_c (h : RT w g n F) (hc : n ≤ cap) (h1 : 1 ≤ n) (hn : n ≤ 512) (hh : 0 ≤ hand ∧ hand < n) :
    Calls Try.prog 25 #[rv g n cap size hand] w (RO3 w g n size (takeS n hand F).2.2.1 (takeS n hand F).2.2.2 (takeS n hand F).1 (takeS n hand F).2.1) := by
  have hr := takeR_is F n hand
  unfold takeS
  generalize takeR F n hand = r at *
  rcases hr with ⟨k, hk, rfl, h0, hpre⟩ | ⟨rfl, hall⟩
  · exact rtake_at k h hc hn hh hk h0 hpre
  · exact rtake_none h hc h1 hn hh hall
end
/-- Two hands that lead to the same segments. -/
def Hands (n : Nat) (a b : Int) : Prop := (a + 1) % (n : Int) = (b + 1) % (n : Int)
theorem nth_hands {n : Nat} {a b : Int} (h : Hands n a b) (k : Nat) : nth n a k = nth n b k := by
  unfold nth
  have h' : (a + 1) % (n : Int) = (b + 1) % (n : Int) := h
  rw [← Int.emod_add_emod, h', Int.emod_add_emod]
theorem takeR_hands {n : Nat} {a b : Int} (h : Hands n a b) (F : List Int) : takeR F n a = takeR F n b := by
  have h1 := takeR_is F n a
  have h2 := takeR_is F n b
  have e : nth n a = nth n b := funext (nth_hands h)
  unfold TakeIs at h1
  rw [e] at h1
  exact takeIs_one (hand := b) h1 h2
/-- What Take leaves of both. -/
theorem takeS_hands {n : Nat} {a b : Int} (h : Hands n a b) (F : List Int) : (takeS n a F).1 = (takeS n b F).1 ∧ (takeS n a F).2.1 = (takeS n b F).2.1 ∧ (takeS n a F).2.2.2 = (takeS n b F).2.2.2 ∧ Hands n (takeS n a F).2.2.1 (takeS n b F).2.2.1 := by
  unfold takeS
  rw [takeR_hands h F]
  cases takeR F n b with
  | none => exact ⟨rfl, rfl, rfl, h⟩
  | some s => exact ⟨rfl, rfl, rfl, rfl⟩
theorem takeS_hand {n : Nat} {b : Int} (hb : 0 ≤ b ∧ b < n) (h1 : 1 ≤ n) (F : List Int) : 0 ≤ (takeS n b F).2.2.1 ∧ (takeS n b F).2.2.1 < n := by
  have hr := takeR_is F n b
  unfold takeS
  generalize takeR F n b = r at *
  rcases hr with ⟨k, hk, rfl, h0, hpre⟩ | ⟨rfl, hall⟩
  · have := (nth_lt n b k (by omega)).1
    dsimp only
    omega
  · exact hb
theorem seizS_hands {n : Nat} {a b : Int} (h : Hands n a b) (F : List Int) (x : Int) : (seizS n a F x).1 = (seizS n b F x).1 ∧ (seizS n a F x).2.2 = (seizS n b F x).2.2 ∧ Hands n (seizS n a F x).2.1 (seizS n b F x).2.1 := by
  unfold seizS
  split
  · exact ⟨rfl, rfl, rfl⟩
  · exact ⟨rfl, rfl, h⟩
theorem seizS_hand {n : Nat} {b : Int} (hb : 0 ≤ b ∧ b < n) (F : List Int) (x : Int) : 0 ≤ (seizS n b F x).2.1 ∧ (seizS n b F x).2.1 < n := by
  unfold seizS
  split
  · assumption
  · exact hb
end Go.Proofs.Ytfilbbiiiaodiaa
