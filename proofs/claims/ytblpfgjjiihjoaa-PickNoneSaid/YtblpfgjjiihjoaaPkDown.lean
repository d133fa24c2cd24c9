/-
  The methods of the heap by their interface.
-/
import Derived.Test.YtblpfgjjiihjoaaPkSwap
namespace Go.Proofs.Ytblpfgjjiihjoaa
open Go.RowKit
theorem len_any (w : World) (gr m cap : Nat) : Calls Try.prog 27 #[.slice (some ⟨gr, 0, none⟩) m cap] w fun e w' => e = .returned (.int .i64 m) ∧ w = w' := by
  go_enter Try.func27, Try.ntmps27
  go_wp2
  go_ret
  exact ⟨rfl, rfl⟩
theorem method_len (a : Addr) (w : World) : (method 178 47 (.pointer (some a)) "Len").run Try.prog w = (do let v ← loadVar 53 a; pure (27, v) : Sem (FuncId × Value)).run Try.prog w := by
  kernel_rfl
theorem method_less (a : Addr) (w : World) : (method 178 47 (.pointer (some a)) "Less").run Try.prog w = (do let v ← loadVar 53 a; pure (47, v) : Sem (FuncId × Value)).run Try.prog w := by
  kernel_rfl
theorem method_swap (a : Addr) (w : World) : (method 178 47 (.pointer (some a)) "Swap").run Try.prog w = (do let v ← loadVar 53 a; pure (49, v) : Sem (FuncId × Value)).run Try.prog w := by
  kernel_rfl
theorem method_pop (a : Addr) (w : World) : (method 178 47 (.pointer (some a)) "Pop").run Try.prog w = .ok (48, .pointer (some a)) w := by
  kernel_rfl
theorem load_order {w : World} {a : Addr} {s : Value} (hc : w.cell? a = some s) {f : FuncId} : (do let v ← loadVar 53 a; pure (f, v) : Sem (FuncId × Value)).run Try.prog w = .ok (f, s) w := by
  simp [go_sem, hc]
/-- The better child of i among the first n. -/
def kid (h : Nat → Rk) (n i : Nat) : Nat := if 2 * i + 1 + 1 < n ∧ lessB (h (2 * i + 1 + 1)) (h (2 * i + 1)) = true then 2 * i + 1 + 1 else 2 * i + 1
structure Hp (w : World) (po gr m cap : Nat) (t : TypeId) (h : Nat → Rk) : Prop where
  row : Od w gr m h
  var : Blo w po t #[.slice (some ⟨gr, 0, none⟩) m cap]
  ne : po ≠ gr
section
variable {w w' : World} {po gr m cap i j C n : Nat} {t : TypeId} {h : Nat → Rk}
theorem Od.lt (hO : Od w gr m h) : gr < w.heap.size := by
  obtain ⟨⟨cs, h1, h2⟩, h3⟩ := hO
  exact h1.lt
theorem Hp.later (hH : Hp w po gr m cap t h) (hb : Below w.heap.size w w') : Hp w' po gr m cap t h := ⟨hH.row.later hb, hH.var.later hb, hH.ne⟩
theorem Hp.cell (hH : Hp w po gr m cap t h) : w.cell? ⟨po, 0, none⟩ = some (.slice (some ⟨gr, 0, none⟩) m cap) := by
  have := hH.var.cell 0
  simpa using this
theorem Hp.swp (hH : Hp w po gr m cap t h) (hO : Od w' gr m (swp h i j)) (hf : FrG gr w w') : Hp w' po gr m cap t (swp h i j) := ⟨hO, hf _ _ _ hH.ne hH.var, hH.ne⟩
theorem less_at (hH : Hp w po gr m cap t h) (hi : i < m) (hj : j < m) (hm : m ≤ 512) {x y : Int} (hx : x = i) (hy : y = j) {v : Bool} (hv : lessB (h i) (h j) = v) :
    Calls Try.prog 47 #[.slice (some ⟨gr, 0, none⟩) m cap, .int .i64 x, .int .i64 y] w fun e w' => e = .returned (.bool v) ∧ Below w.heap.size w w' := by
  subst hx hy hv
  exact less_any hH.row hi hj hm
theorem swap_at (hH : Hp w po gr m cap t h) (hi : i < m) (hj : j < m) (hm : m ≤ 512) (hC : C ≤ gr) {x y : Int} (hx : x = i) (hy : y = j) :
    Calls Try.prog 49 #[.slice (some ⟨gr, 0, none⟩) m cap, .int .i64 x, .int .i64 y] w fun e w' => e = .returned (.tuple #[]) ∧ Hp w' po gr m cap t (Go.Proofs.Ytblpfgjjiihjoaa.swp h i j) ∧ Below C w w' ∧ FrG gr w w' := by
  subst hx hy
  refine (swap_any hH.row hi hj hm hC).mono ?_
  rintro e w1 ⟨rfl, hO, hb, hf⟩
  exact ⟨rfl, hH.swp hO hf, hb, hf⟩
inductive Dn (n : Nat) : (Nat → Rk) → Nat → (Nat → Rk) → Nat → Prop
  | here (h : Nat → Rk) (i : Nat) : Dn n h i h i
  | step {h0 : Nat → Rk} {i0 : Nat} {h : Nat → Rk} {i : Nat} : Dn n h0 i0 h i → 2 * i + 1 < n → lessB (h (kid h n i)) (h i) = true → Dn n h0 i0 (Go.Proofs.Ytblpfgjjiihjoaa.swp h i (kid h n i)) (kid h n i)
def Still (n : Nat) (h : Nat → Rk) (i : Nat) : Prop := 2 * i + 1 < n → lessB (h (kid h n i)) (h i) = false
def DI (C : Nat) (w : World) (po gr m cap : Nat) (t : TypeId) (n : Nat) (h0 : Nat → Rk) (i0 : Nat) (v : Value) (wr : World) : Prop :=
  ∃ (h : Nat → Rk) (i : Nat), v = .int .i64 i ∧ i0 ≤ i ∧ i < m ∧ Dn n h0 i0 h i ∧ Hp wr po gr m cap t h ∧ Below C w wr ∧ FrG gr w wr
set_option maxHeartbeats 4000000 in
theorem down_any (hH : Hp w po gr m cap t h) (hi : i < m) (hn : n ≤ m) (hm : m ≤ 512) (hC : C ≤ gr) :
    Calls Try.prog 30 #[.iface 47 (.pointer (some ⟨po, 0, none⟩)), .int .i64 i, .int .i64 n] w fun e w' => ∃ h' i', e = .returned (.bool (decide (i < i'))) ∧ Dn n h i h' i' ∧ Still n h' i' ∧ Hp w' po gr m cap t h' ∧ Below C w w' ∧ FrG gr w w' := by
  have HS0 : Hid (DI C w po gr m cap t n h i (.int .i64 i) w) := ⟨h, i, rfl, Nat.le_refl _, hi, .here _ _, hH, Below.refl _ _, fun _ _ _ _ hx => hx⟩
  clear hH
  go_enter Try.func30, Try.ntmps30
  go_wp2_with fail
  go_loopw [7] (fun v wr => DI C w po gr m cap t n h i v wr) (fun v _ => m - (intOf v).toNat)
  case atStart => exact HS0.out
  case round =>
    clear HS0
    obtain ⟨h1, k, rfl, hik, hk, hD, hH, hb, hf⟩ := hrel
    have HH := Lib.hid hH
    have HD := Lib.hid hD
    have HB := Lib.hid hb
    have HF := Lib.hid hf
    have hls : (method 178 47 (.pointer (some ⟨po, 0, none⟩)) "Less").run Try.prog wr = .ok (47, .slice (some ⟨gr, 0, none⟩) m cap) wr := (method_less _ _).trans (load_order hH.cell)
    clear hH hD hb hf
    have k0 : (0 : Int) ≤ (k : Int) := by omega
    have k1 : (k : Int) ≤ 512 := by omega
    by_cases hlt : 2 * k + 1 < n
    · have t1 : ¬ (n : Int) ≤ 2 * (k : Int) + 1 := by omega
      by_cases hlt2 : 2 * k + 1 + 1 < n
      · have t2 : 2 * (k : Int) + 1 + 1 < (n : Int) := by omega
        cases hl : lessB (h1 (2 * k + 1 + 1)) (h1 (2 * k + 1)) with
        | true =>
          have HK : Hid (kid h1 n k = 2 * k + 1 + 1) := if_pos ⟨hlt2, hl⟩
          go_wp2_with fail
          refine (less_at (i := 2 * k + 1 + 1) (j := 2 * k + 1) HH.out (by omega) (by omega) hm (by omega) (by omega) hl).mono ?_
          rintro e w5 ⟨rfl, hb⟩
          have HH5 := Lib.hid (HH.out.later hb)
          have HB5 := Lib.hid (HB.out.trans (hb.mono (Nat.le_trans hC (Nat.le_of_lt HH.out.row.lt))))
          have HF5 : Hid (FrG gr w w5) := fun b t cs hne hx => (HF.out b t cs hne hx).later hb
          have hls5 : (method 178 47 (.pointer (some ⟨po, 0, none⟩)) "Less").run Try.prog w5 = .ok (47, .slice (some ⟨gr, 0, none⟩) m cap) w5 := (method_less _ _).trans (load_order HH5.out.cell)
          clear hb hl
          cases hl2 : lessB (h1 (2 * k + 1 + 1)) (h1 k) with
          | true =>
            go_wp2_with fail
            refine (less_at (i := 2 * k + 1 + 1) (j := k) HH5.out (by omega) hk hm (by omega) rfl hl2).mono ?_
            rintro e w6 ⟨rfl, hb⟩
            have HH6 := Lib.hid (HH5.out.later hb)
            have HB6 := Lib.hid (HB5.out.trans (hb.mono (Nat.le_trans hC (Nat.le_of_lt HH5.out.row.lt))))
            have HF6 : Hid (FrG gr w w6) := fun b t cs hne hx => (HF5.out b t cs hne hx).later hb
            have hsw : (method 178 47 (.pointer (some ⟨po, 0, none⟩)) "Swap").run Try.prog w6 = .ok (49, .slice (some ⟨gr, 0, none⟩) m cap) w6 := (method_swap _ _).trans (load_order HH6.out.cell)
            have HD6 : Hid (Dn n h i (Go.Proofs.Ytblpfgjjiihjoaa.swp h1 k (2 * k + 1 + 1)) (2 * k + 1 + 1)) := by
              have := HD.out.step hlt (by rw [HK.out]; exact hl2)
              rw [HK.out] at this
              exact this
            clear hb hl2
            go_wp2_with fail
            refine (swap_at (i := k) (j := 2 * k + 1 + 1) (C := C) HH6.out hk (by omega) hm hC rfl (by omega)).mono ?_
            rintro e w7 ⟨rfl, hH7, hb, hf⟩
            have HH7 := Lib.hid hH7
            have HB7 := Lib.hid (HB6.out.trans hb)
            have HF7 : Hid (FrG gr w w7) := fun b t cs hne hx => hf b t cs hne (HF6.out b t cs hne hx)
            clear hH7 hb hf
            go_wp2_with fail
            go_roundw
            case rel => exact ⟨_, 2 * k + 1 + 1, by simp, by omega, by omega, HD6.out, HH7.out, HB7.out, HF7.out⟩
            case measure => simp [intOf]; omega
          | false =>
            go_wp2_with fail
            refine (less_at (i := 2 * k + 1 + 1) (j := k) HH5.out (by omega) hk hm (by omega) rfl hl2).mono ?_
            rintro e w6 ⟨rfl, hb⟩
            have HH6 := Lib.hid (HH5.out.later hb)
            have HB6 := Lib.hid (HB5.out.trans (hb.mono (Nat.le_trans hC (Nat.le_of_lt HH5.out.row.lt))))
            have HF6 : Hid (FrG gr w w6) := fun b t cs hne hx => (HF5.out b t cs hne hx).later hb
            have HSt : Hid (Still n h1 k) := fun _ => by rw [HK.out]; exact hl2
            clear hb hl2
            go_wp2_with fail
            go_ret
            exact ⟨h1, k, by simp, HD.out, HSt.out, HH6.out, HB6.out, HF6.out⟩
        | false =>
          have HK : Hid (kid h1 n k = 2 * k + 1) := if_neg (fun q => by rw [hl] at q; exact Bool.noConfusion q.2)
          go_wp2_with fail
          refine (less_at (i := 2 * k + 1 + 1) (j := 2 * k + 1) HH.out (by omega) (by omega) hm (by omega) (by omega) hl).mono ?_
          rintro e w5 ⟨rfl, hb⟩
          have HH5 := Lib.hid (HH.out.later hb)
          have HB5 := Lib.hid (HB.out.trans (hb.mono (Nat.le_trans hC (Nat.le_of_lt HH.out.row.lt))))
          have HF5 : Hid (FrG gr w w5) := fun b t cs hne hx => (HF.out b t cs hne hx).later hb
          have hls5 : (method 178 47 (.pointer (some ⟨po, 0, none⟩)) "Less").run Try.prog w5 = .ok (47, .slice (some ⟨gr, 0, none⟩) m cap) w5 := (method_less _ _).trans (load_order HH5.out.cell)
          clear hb hl
          cases hl2 : lessB (h1 (2 * k + 1)) (h1 k) with
          | true =>
            go_wp2_with fail
            refine (less_at (i := 2 * k + 1) (j := k) HH5.out (by omega) hk hm (by omega) rfl hl2).mono ?_
            rintro e w6 ⟨rfl, hb⟩
            have HH6 := Lib.hid (HH5.out.later hb)
            have HB6 := Lib.hid (HB5.out.trans (hb.mono (Nat.le_trans hC (Nat.le_of_lt HH5.out.row.lt))))
            have HF6 : Hid (FrG gr w w6) := fun b t cs hne hx => (HF5.out b t cs hne hx).later hb
            have hsw : (method 178 47 (.pointer (some ⟨po, 0, none⟩)) "Swap").run Try.prog w6 = .ok (49, .slice (some ⟨gr, 0, none⟩) m cap) w6 := (method_swap _ _).trans (load_order HH6.out.cell)
            have HD6 : Hid (Dn n h i (Go.Proofs.Ytblpfgjjiihjoaa.swp h1 k (2 * k + 1)) (2 * k + 1)) := by
              have := HD.out.step hlt (by rw [HK.out]; exact hl2)
              rw [HK.out] at this
              exact this
            clear hb hl2
            go_wp2_with fail
            refine (swap_at (i := k) (j := 2 * k + 1) (C := C) HH6.out hk (by omega) hm hC rfl (by omega)).mono ?_
            rintro e w7 ⟨rfl, hH7, hb, hf⟩
            have HH7 := Lib.hid hH7
            have HB7 := Lib.hid (HB6.out.trans hb)
            have HF7 : Hid (FrG gr w w7) := fun b t cs hne hx => hf b t cs hne (HF6.out b t cs hne hx)
            clear hH7 hb hf
            go_wp2_with fail
            go_roundw
            case rel => exact ⟨_, 2 * k + 1, by simp, by omega, by omega, HD6.out, HH7.out, HB7.out, HF7.out⟩
            case measure => simp [intOf]; omega
          | false =>
            go_wp2_with fail
            refine (less_at (i := 2 * k + 1) (j := k) HH5.out (by omega) hk hm (by omega) rfl hl2).mono ?_
            rintro e w6 ⟨rfl, hb⟩
            have HH6 := Lib.hid (HH5.out.later hb)
            have HB6 := Lib.hid (HB5.out.trans (hb.mono (Nat.le_trans hC (Nat.le_of_lt HH5.out.row.lt))))
            have HF6 : Hid (FrG gr w w6) := fun b t cs hne hx => (HF5.out b t cs hne hx).later hb
            have HSt : Hid (Still n h1 k) := fun _ => by rw [HK.out]; exact hl2
            clear hb hl2
            go_wp2_with fail
            go_ret
            exact ⟨h1, k, by simp, HD.out, HSt.out, HH6.out, HB6.out, HF6.out⟩
      · have t2 : ¬ 2 * (k : Int) + 1 + 1 < (n : Int) := by omega
        have HK : Hid (kid h1 n k = 2 * k + 1) := if_neg (fun q => hlt2 q.1)
        cases hl2 : lessB (h1 (2 * k + 1)) (h1 k) with
        | true =>
          go_wp2_with fail
          refine (less_at (i := 2 * k + 1) (j := k) HH.out (by omega) hk hm (by omega) rfl hl2).mono ?_
          rintro e w6 ⟨rfl, hb⟩
          have HH6 := Lib.hid (HH.out.later hb)
          have HB6 := Lib.hid (HB.out.trans (hb.mono (Nat.le_trans hC (Nat.le_of_lt HH.out.row.lt))))
          have HF6 : Hid (FrG gr w w6) := fun b t cs hne hx => (HF.out b t cs hne hx).later hb
          have hsw : (method 178 47 (.pointer (some ⟨po, 0, none⟩)) "Swap").run Try.prog w6 = .ok (49, .slice (some ⟨gr, 0, none⟩) m cap) w6 := (method_swap _ _).trans (load_order HH6.out.cell)
          have HD6 : Hid (Dn n h i (Go.Proofs.Ytblpfgjjiihjoaa.swp h1 k (2 * k + 1)) (2 * k + 1)) := by
            have := HD.out.step hlt (by rw [HK.out]; exact hl2)
            rw [HK.out] at this
            exact this
          clear hb hl2
          go_wp2_with fail
          refine (swap_at (i := k) (j := 2 * k + 1) (C := C) HH6.out hk (by omega) hm hC rfl (by omega)).mono ?_
          rintro e w7 ⟨rfl, hH7, hb, hf⟩
          have HH7 := Lib.hid hH7
          have HB7 := Lib.hid (HB6.out.trans hb)
          have HF7 : Hid (FrG gr w w7) := fun b t cs hne hx => hf b t cs hne (HF6.out b t cs hne hx)
          clear hH7 hb hf
          go_wp2_with fail
          go_roundw
          case rel => exact ⟨_, 2 * k + 1, by simp, by omega, by omega, HD6.out, HH7.out, HB7.out, HF7.out⟩
          case measure => simp [intOf]; omega
        | false =>
          go_wp2_with fail
          refine (less_at (i := 2 * k + 1) (j := k) HH.out (by omega) hk hm (by omega) rfl hl2).mono ?_
          rintro e w6 ⟨rfl, hb⟩
          have HH6 := Lib.hid (HH.out.later hb)
          have HB6 := Lib.hid (HB.out.trans (hb.mono (Nat.le_trans hC (Nat.le_of_lt HH.out.row.lt))))
          have HF6 : Hid (FrG gr w w6) := fun b t cs hne hx => (HF.out b t cs hne hx).later hb
          have HSt : Hid (Still n h1 k) := fun _ => by rw [HK.out]; exact hl2
          clear hb hl2
          go_wp2_with fail
          go_ret
          exact ⟨h1, k, by simp, HD.out, HSt.out, HH6.out, HB6.out, HF6.out⟩
    · have t1 : (n : Int) ≤ 2 * (k : Int) + 1 := by omega
      have HSt : Hid (Still n h1 k) := fun q => absurd q hlt
      go_wp2_with fail
      go_ret
      exact ⟨h1, k, by simp, HD.out, HSt.out, HH.out, HB.out, HF.out⟩
end
end Go.Proofs.Ytblpfgjjiihjoaa
