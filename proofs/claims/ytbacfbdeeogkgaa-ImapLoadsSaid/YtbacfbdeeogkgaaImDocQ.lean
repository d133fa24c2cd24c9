/-
  What the document's inode map tells: Busy, Gives, Room, Dirty.
-/
import Derived.Test.YtbacfbdeeogkgaaImDocB
namespace Go.Proofs.Ytbacfbdeeogkgaa
open Go.RowKit Go.Maps

section
variable {w w' : World} {g n : Nat} {A V : Nat → Int} {B H : Nat → Bool}
structure RqS (w : World) (g n : Nat) (A V : Nat → Int) (B H : Nat → Bool) (W : World) : Prop where
  rm : Rm W g n A V B H
  bx : Blo W w.heap.size RMP #[.slice (some ⟨g, 0, none⟩) n n]
  b : Below w.heap.size w W
theorem RqS.later {W W' : World} (h : RqS w g n A V B H W) (hb : Below W.heap.size W W') : RqS w g n A V B H W' := ⟨h.rm.later hb, h.bx.later hb, h.b.trans (hb.mono h.b.size)⟩
theorem RqS.start (h : Rm w g n A V B H) : RqS w g n A V B H (w.alloc (.cells #[.slice (some ⟨g, 0, none⟩) n n] RMP)) :=
  ⟨h.later (sup_im w _), blo_laid w RMP _, sup_im w _⟩
theorem RqS.grown {W W' : World} {o : Option Nat} (h : RqS w g n A V B H W) (hg : W.grownBy W' o) (ho : ∀ q, o = some q → w.heap.size + 1 ≤ q) (hl : g < w.heap.size) : RqS w g n A V B H W' :=
  ⟨h.rm.grown hg (fun e => by have := ho g e.symm; omega), h.bx.grown hg (fun e => by have := ho _ e.symm; omega), h.b.grown hg h.b.size (fun q hq => by have := ho q hq; omega)⟩
def BuR (w : World) (g n : Nat) (A V : Nat → Int) (B H : Nat → Bool) (v t : Value) (W : World) : Prop :=
  ∃ (k : Nat) (a : Option Addr) (cap : Nat), k ≤ n ∧ v = .slice a (lstI B k).length cap ∧ t = .int .i64 k ∧ W.ownsRow (w.heap.size + 1) 3 1 (.slice a (lstI B k).length cap) (lstI B k).length (cellsI (lstI B k)) ∧ RqS w g n A V B H W
set_option maxRecDepth 100000 in
set_option maxHeartbeats 2000000 in
theorem rbusy_any (h : Rm w g n A V B H) (hn : n ≤ 200) (h0 : B 0 = false) :
    Calls Try.prog 26 #[rmv g n] w (WhO w B n) := by
  have HS0 : Hid (BuR w g n A V B H (.slice none 0 0) (.int .i64 0) (w.alloc (.cells #[.slice (some ⟨g, 0, none⟩) n n] RMP))) := ⟨0, none, 0, Nat.zero_le _, rfl, rfl, World.ownsRow_nil _ _ _ _, RqS.start h⟩
  have HGl : Hid (g < w.heap.size) := h.lt
  have HN := Lib.hid hn
  have HZ := Lib.hid h0
  clear h hn h0
  go_enter Try.func26, Try.ntmps26
  go_wp2_with fail
  go_loopw [3, 8] (fun v t wr => BuR w g n A V B H v t wr) (fun _ t _ => n - (intOf t).toNat)
  case atStart => exact HS0.out
  case round =>
    clear HS0
    obtain ⟨k, a, cap, hk, rfl, rfl, ho, hs⟩ := hrel
    have HO := Lib.hid ho
    have HS := Lib.hid hs
    have b0 : World.cell? _ ⟨w.heap.size, 0, none⟩ = some (.slice (some ⟨g, 0, none⟩) n n) := (hs.bx.cell 0).trans rfl
    have hll := lstI_len B k
    have i1 : (0 : Int) ≤ (k : Int) := by omega
    have n200 : (n : Int) ≤ 200 := by have := HN.out; omega
    have HLn := Lib.hid hll
    have HK := Lib.hid hk
    clear ho hs hll hk
    by_cases hlt : k < n
    · have i2 : (k : Int) < (n : Int) := by omega
      have HKn := Lib.hid hlt
      obtain ⟨-, -, c2, -⟩ := HS.out.rm.cell hlt
      clear hlt
      by_cases hpm : B k = true
      · have h1k : 1 ≤ k := by
          rcases Nat.eq_zero_or_pos k with e | e
          · subst e; rw [HZ.out] at hpm; cases hpm
          · exact e
        have HL : Hid (lstI B (k + 1) = lstI B k ++ [(k : Int) + 1]) := by show (if 1 ≤ k ∧ B k = true then _ else _) = _; rw [if_pos ⟨h1k, hpm⟩]
        rw [hpm] at c2
        have HO7 := Lib.hid (own_later HO.out (sup_im wr (.cells #[.int .i64 ((k : Int) + 1)] 3)))
        have HS7 := Lib.hid (HS.out.later (sup_im wr (.cells #[.int .i64 ((k : Int) + 1)] 3)))
        have hsz : w.heap.size + 1 ≤ wr.heap.size := HS.out.bx.lt
        have HSz := Lib.hid hsz
        clear hpm h1k hsz
        go_wp2_with (at_builtin; refine wp_append_int rfl (.tmp 17) (.tmp 20) 40 rfl (w.heap.size + 1) 3 Try.underlying40 info_int _ (lstI B k).length (lstI B k) rfl HO7.out _ ((k : Int) + 1) rfl (by simp) (by have := HLn.out; have := HK.out; have := HN.out; omega) (by have := HSz.out; simp; omega) ?_; intro g2 cap2 w6 hown hgrow hat hlt1; have HO6 := Lib.hid hown; have HS6 := Lib.hid (HS7.out.grown hgrow (fun q hq => (HO7.out.lt q hq).1) HGl.out); clear hown hgrow hat)
        go_roundw
        case rel => exact ⟨k + 1, some ⟨g2, 0, none⟩, cap2, HKn.out, by rw [HL.out]; simp, by simp, by rw [HL.out]; simpa using HO6.out, HS6.out⟩
        case measure => simp [intOf]; have := HKn.out; omega
      · have hpf : B k = false := by simpa using hpm
        have HL : Hid (lstI B (k + 1) = lstI B k) := by show (if 1 ≤ k ∧ B k = true then _ else _) = _; rw [if_neg (fun q => hpm q.2)]
        rw [hpf] at c2
        clear hpm hpf
        go_wp2_with fail
        go_roundw
        case rel => exact ⟨k + 1, a, cap, HKn.out, by rw [HL.out], by simp, by rw [HL.out]; exact HO.out, HS.out⟩
        case measure => simp [intOf]; have := HKn.out; omega
    · have i2 : ¬ (k : Int) < (n : Int) := by omega
      obtain rfl : k = n := by have := HK.out; omega
      clear hlt
      go_wp2
      go_ret
      exact ⟨a, cap, rfl, own_base HO.out (Nat.le_succ _), HS.out.b⟩
set_option maxRecDepth 100000 in
set_option maxHeartbeats 1000000 in
theorem rgives_any {i : Nat} (h : Rm w g n A V B H) (hn : n ≤ 200) (h1 : 1 ≤ i) (hi : i < n) :
    Calls Try.prog 43 #[rmv g n, .int .i64 ((i : Int) + 1)] w fun e w' => e = .returned (.bool (canB V B i)) ∧ Below w.heap.size w w' := by
  have HS := Lib.hid (RqS.start h)
  have b0 : World.cell? _ ⟨w.heap.size, 0, none⟩ = some (.slice (some ⟨g, 0, none⟩) n n) := (HS.out.bx.cell 0).trans rfl
  obtain ⟨c0, -, c2, -⟩ := HS.out.rm.cell hi
  have i1 : (1 : Int) ≤ (i : Int) := by omega
  have i2 : (i : Int) < (n : Int) := by omega
  have i3 : (2 : Int) ≤ (i : Int) + 1 := by omega
  have i4 : (i : Int) + 1 ≤ (n : Int) := by omega
  have n200 : (n : Int) ≤ 200 := by omega
  have HC : Hid (canB V B i = (!B i && decide (V i < 65535))) := rfl
  clear h hn h1 hi
  generalize V i = v at *
  cases hb : B i with
  | true =>
    rw [hb] at c2 HC
    clear hb
    go_enter Try.func43, Try.ntmps43
    go_wp2_with fail
    go_ret
    exact ⟨by rw [HC.out]; rfl, HS.out.b⟩
  | false =>
    rw [hb] at c2 HC
    clear hb
    go_enter Try.func43, Try.ntmps43
    go_wp2_with fail
    go_ret
    exact ⟨by rw [HC.out]; simp, HS.out.b⟩
def RoR (w : World) (g n : Nat) (A V : Nat → Int) (B H : Nat → Bool) (c t : Value) (W : World) : Prop :=
  ∃ k : Nat, 1 ≤ k ∧ k ≤ n ∧ c = .int .i64 ((lstI (canB V B) k).length : Nat) ∧ t = .int .i64 ((k : Int) + 1) ∧ RqS w g n A V B H W
set_option maxRecDepth 100000 in
set_option maxHeartbeats 2000000 in
theorem rroom_any (h : Rm w g n A V B H) (h4 : 1 ≤ n) (hn : n ≤ 200) :
    Calls Try.prog 27 #[rmv g n] w fun e w' => e = .returned (.int .i64 ((lstI (canB V B) n).length : Nat)) ∧ Below w.heap.size w w' := by
  have HS0 : Hid (RoR w g n A V B H (.int .i64 0) (.int .i64 2) (w.alloc (.cells #[.slice (some ⟨g, 0, none⟩) n n] RMP))) := ⟨1, Nat.le_refl _, h4, rfl, rfl, RqS.start h⟩
  have HN := Lib.hid hn
  have HGv : Hid (∀ W i, Rm W g n A V B H → 1 ≤ i → i < n → Calls Try.prog 43 #[rmv g n, .int .i64 ((i : Int) + 1)] W fun e w' => e = .returned (.bool (canB V B i)) ∧ Below W.heap.size W w') := fun W i h h1 hi => rgives_any h hn h1 hi
  clear h hn h4
  go_enter Try.func27, Try.ntmps27
  go_wp2_with fail
  go_loopw [3, 4] (fun v t wr => RoR w g n A V B H v t wr) (fun _ t _ => n + 1 - (intOf t).toNat)
  case atStart => exact HS0.out
  case round =>
    clear HS0
    obtain ⟨k, hk1, hk, rfl, rfl, hs⟩ := hrel
    have HS := Lib.hid hs
    have b0 : World.cell? _ ⟨w.heap.size, 0, none⟩ = some (.slice (some ⟨g, 0, none⟩) n n) := (hs.bx.cell 0).trans rfl
    have hll := lstI_len (canB V B) k
    have i1 : (1 : Int) ≤ (k : Int) := by omega
    have n200 : (n : Int) ≤ 200 := by have := HN.out; omega
    have HK := Lib.hid hk
    have HK1 := Lib.hid hk1
    clear hs hk hk1
    by_cases hlt : k < n
    · have i2 : (k : Int) < (n : Int) := by omega
      have i3 : (k : Int) + 1 ≤ (n : Int) := by omega
      have HKn := Lib.hid hlt
      have HC := Lib.hid (HGv.out _ k HS.out.rm HK1.out hlt)
      clear hlt
      by_cases hpm : canB V B k = true
      · have HL : Hid (lstI (canB V B) (k + 1) = lstI (canB V B) k ++ [(k : Int) + 1]) := by show (if 1 ≤ k ∧ canB V B k = true then _ else _) = _; rw [if_pos ⟨HK1.out, hpm⟩]
        rw [hpm] at HC
        clear hpm
        have hl2 : ((lstI (canB V B) k).length : Int) ≤ 200 := by omega
        go_wp2_with fail
        refine HC.out.mono ?_
        rintro e w5 ⟨rfl, hb5⟩
        have HS5 := Lib.hid (HS.out.later hb5)
        clear hb5
        go_wp2_with fail
        go_roundw
        case rel => exact ⟨k + 1, by omega, HKn.out, by rw [HL.out]; simp, by simp, HS5.out⟩
        case measure => simp [intOf]; have := HKn.out; omega
      · have hpf : canB V B k = false := by simpa using hpm
        have HL : Hid (lstI (canB V B) (k + 1) = lstI (canB V B) k) := by show (if 1 ≤ k ∧ canB V B k = true then _ else _) = _; rw [if_neg (fun q => hpm q.2)]
        rw [hpf] at HC
        clear hpm hpf
        go_wp2_with fail
        refine HC.out.mono ?_
        rintro e w5 ⟨rfl, hb5⟩
        have HS5 := Lib.hid (HS.out.later hb5)
        clear hb5
        go_wp2_with fail
        go_roundw
        case rel => exact ⟨k + 1, by omega, HKn.out, by rw [HL.out], by simp, HS5.out⟩
        case measure => simp [intOf]; have := HKn.out; omega
    · have i2 : ¬ (k : Int) + 1 ≤ (n : Int) := by omega
      obtain rfl : k = n := by have := HK.out; omega
      clear hlt
      go_wp2
      go_ret
      exact ⟨rfl, HS.out.b⟩
def RdR (w : World) (g n : Nat) (A V : Nat → Int) (B : Nat → Bool) (t : Value) (W : World) : Prop :=
  ∃ kk : Nat, kk ≤ (n + 7) / 8 ∧ t = .int .i64 (8 * (kk : Int)) ∧ RqS w g n A V B (fun _ => false) W
set_option maxRecDepth 100000 in
set_option maxHeartbeats 2000000 in
theorem rdirty_no (h : Rm w g n A V B (fun _ => false)) (hn : n ≤ 200) :
    Calls Try.prog 29 #[rmv g n] w fun e w' => e = .returned (.slice none 0 0) ∧ Below w.heap.size w w' := by
  have HS0 : Hid (RdR w g n A V B (.int .i64 0) (w.alloc (.cells #[.slice (some ⟨g, 0, none⟩) n n] RMP))) := ⟨0, Nat.zero_le _, rfl, RqS.start h⟩
  have HN := Lib.hid hn
  clear h hn
  go_enter Try.func29, Try.ntmps29
  go_wp2_with fail
  go_loopw [3, 4] (fun v t wr => v = .slice none 0 0 ∧ RdR w g n A V B t wr) (fun _ t _ => n + 8 - (intOf t).toNat)
  case atStart => exact ⟨rfl, HS0.out⟩
  case round =>
    clear HS0
    obtain ⟨rfl, kk, hk, rfl, hs⟩ := hrel
    have HS := Lib.hid hs
    have HK := Lib.hid hk
    have k0 : (0 : Int) ≤ (kk : Int) := by omega
    have k25 : (kk : Int) < 26 := by have := HN.out; omega
    have b0 : World.cell? _ ⟨w.heap.size, 0, none⟩ = some (.slice (some ⟨g, 0, none⟩) n n) := (hs.bx.cell 0).trans rfl
    clear hs hk
    by_cases hlt : 8 * kk < n
    · have k1 : 8 * (kk : Int) < (n : Int) := by omega
      have HKn := Lib.hid hlt
      clear hlt
      go_wp2_with fail
      go_loop [5, 6] (fun c t => c = .bool false ∧ ∃ i : Nat, i ≤ 8 ∧ 8 * kk + i ≤ n ∧ t = .int .i64 i) (fun _ t => 8 - (intOf t).toNat)
      case atStart => exact ⟨rfl, 0, by decide, by have := HKn.out; omega, rfl⟩
      case round =>
        obtain ⟨rfl, i, hi, hin, rfl⟩ := hrel
        have i0 : (0 : Int) ≤ (i : Int) := by omega
        have n200 : (n : Int) ≤ 200 := by have := HN.out; omega
        by_cases hc : i < 8 ∧ 8 * kk + i < n
        · have j1 : (i : Int) < 8 := by omega
          obtain ⟨p, hp⟩ : ∃ p : Nat, p = 8 * kk + i := ⟨_, rfl⟩
          have hpe : 8 * (kk : Int) + (i : Int) = (p : Int) := by omega
          have p0 : (0 : Int) ≤ (p : Int) := by omega
          have p1 : (p : Int) < (n : Int) := by omega
          have hpn : p < n := by omega
          obtain ⟨-, -, -, c3⟩ := HS.out.rm.cell hpn
          have HIn := Lib.hid hc
          clear hc hi hin hp hpn
          go_wp2_with fail
          go_round
          case rel => exact ⟨rfl, i + 1, HIn.out.1, by have := HIn.out.2; omega, by simp⟩
          case measure => simp [intOf]; have := HIn.out.1; omega
        · have hguard : ((i : Int) < 8 ∧ ¬ 8 * (kk : Int) + (i : Int) < (n : Int)) ∨ ¬ (i : Int) < 8 := by omega
          clear hc hi hin
          rcases hguard with ⟨j1, j2⟩ | j1
          · go_wp2_with fail
            go_roundw
            case rel => exact ⟨rfl, kk + 1, by have := HKn.out; omega, by rw [show 8 * ((kk + 1 : Nat) : Int) = 8 * (kk : Int) + 8 by omega], HS.out⟩
            case measure => simp [intOf]; have := HKn.out; omega
          · go_wp2_with fail
            go_roundw
            case rel => exact ⟨rfl, kk + 1, by have := HKn.out; omega, by rw [show 8 * ((kk + 1 : Nat) : Int) = 8 * (kk : Int) + 8 by omega], HS.out⟩
            case measure => simp [intOf]; have := HKn.out; omega
    · have k1 : ¬ 8 * (kk : Int) < (n : Int) := by omega
      clear hlt
      go_wp2
      go_ret
      exact ⟨rfl, HS.out.b⟩
end
end Go.Proofs.Ytbacfbdeeogkgaa
