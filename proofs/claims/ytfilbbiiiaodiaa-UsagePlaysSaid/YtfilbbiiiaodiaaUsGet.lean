/-
  The walks of a table's Get and Total.
-/
import Derived.Test.YtfilbbiiiaodiaaUsTake
namespace Go.Proofs.Ytfilbbiiiaodiaa
open Go.RowKit

section
variable {w : World} {bt g n seg : Nat} {size hand : Int} {F : List Int}
def sumL (F : List Int) : Nat → Int
  | 0 => 0
  | k + 1 => sumL F k + F.getD (k * 3) 0
theorem sumL_le (F : List Int) (m : Int) (hm : 0 ≤ m) (h : ∀ i, 0 ≤ F.getD i 0 ∧ F.getD i 0 ≤ m) : ∀ k : Nat, 0 ≤ sumL F k ∧ sumL F k ≤ m * (k : Int)
  | 0 => ⟨Int.le_refl _, by show (0 : Int) ≤ _; simp⟩
  | k + 1 => by
    have ih := sumL_le F m hm h k
    have hk := h (k * 3)
    show 0 ≤ sumL F k + _ ∧ sumL F k + _ ≤ _
    have e : m * ((k + 1 : Nat) : Int) = m * (k : Int) + m := by rw [Int.natCast_add, Int.mul_add]; simp
    rw [e]
    omega
set_option maxHeartbeats 1000000 in
theorem total_any (h : Tb w bt g TB IN n size hand F) (hn : n ≤ 512) (hF : ∀ i, 0 ≤ F.getD (i * 3) 0 ∧ F.getD (i * 3) 0 ≤ 64) (hS : ∀ k, k ≤ n → 0 ≤ sumL F k ∧ sumL F k ≤ 40000) :
    Calls Try.prog 20 #[.pointer (some ⟨bt, 0, none⟩)] w fun e w' => e = .returned (.int .i64 (sumL F n)) ∧ Below w.heap.size w w' := by
  have H := Lib.hid h
  have HF := Lib.hid hF
  have HS := Lib.hid hS
  have t0 := h.top.cell 0
  simp at t0
  clear h hF hS
  go_enter Try.func20, Try.ntmps20
  go_wp2_with fail
  clear t0
  go_loopw [3, 11] (fun c i wr => ∃ k : Nat, k ≤ n ∧ i = .int .i64 k ∧ c = .int .i64 (sumL F k) ∧ Below w.heap.size w wr) (fun _ i _ => n - (intOf i).toNat)
  case atStart => exact ⟨0, by omega, rfl, rfl, Below.refl _ _⟩
  case round =>
    obtain ⟨k, hk, rfl, rfl, hb⟩ := hrel
    have HT := Lib.hid (H.out.later hb)
    have HB := Lib.hid hb
    clear hb
    by_cases hlt : k < n
    · have c0 := HT.out.cell (k * 3) (by omega)
      have c1 := HT.out.cell (k * 3 + 1) (by omega)
      have c2 := HT.out.cell (k * 3 + 2) (by omega)
      have i1 : (0 : Int) ≤ (k : Int) := by omega
      have i2 : (k : Int) < (n : Int) := by omega
      have hs1 := HS.out k hk
      have hs2 := HF.out k
      have HN : Hid (sumL F (k + 1) = sumL F k + F.getD (k * 3) 0) := rfl
      generalize F.getD (k * 3) 0 = x at *
      generalize sumL F k = y at *
      go_wp2_with fail
      go_roundw
      case rel => exact ⟨k + 1, by omega, by simp, by rw [HN.out], HB.out.alloc HB.out.size _⟩
      case measure => simp [intOf]; omega
    · obtain rfl : k = n := by omega
      clear hlt
      go_wp2
      go_ret
      exact ⟨rfl, HB.out⟩
set_option maxHeartbeats 400000 in
theorem get_body (b6 : Nat) (L S A : Int) (h : Tb w bt g TB IN n size hand F) (hs : seg < n) (e0 : F.getD (seg * 3) 0 = L) (e1 : F.getD (seg * 3 + 1) 0 = S) (e2 : F.getD (seg * 3 + 2) 0 = A) (hx : Blo w b6 IN #[.int .i64 0, .int .i64 0, .int .i64 0]) :
    Calls Try.prog 38 #[.pointer (some ⟨g, seg * 3, none⟩), .pointer (some ⟨b6, 0, none⟩)] w fun e w' => e = .returned (.int .i64 0) ∧ (Blo w' b6 IN #[.int .i64 L, .int .i64 S, .int .i64 A] ∧ Below b6 w w') := by
  have HX := Lib.hid hx
  have c0 := h.cell (seg * 3) (by omega)
  have c1 := h.cell (seg * 3 + 1) (by omega)
  have c2 := h.cell (seg * 3 + 2) (by omega)
  rw [e0] at c0
  rw [e1] at c1
  rw [e2] at c2
  have k0 := hx.cell 0
  have k1 := hx.cell 1
  have k2 := hx.cell 2
  have f0 := hx.frozen 0
  have f1 := hx.frozen 1
  have f2 := hx.frozen 2
  simp at k0 k1 k2
  clear h hx e0 e1 e2
  go_enter Try.func38, Try.ntmps38
  go_wp2
  go_ret
  refine ⟨rfl, ?_, (((Below.refl b6 w).setCell (p := ⟨b6, 0, none⟩) (Nat.le_refl _) _).setCell (p := ⟨b6, 1, none⟩) (Nat.le_refl _) _).setCell (p := ⟨b6, 2, none⟩) (Nat.le_refl _) _⟩
  have := ((HX.out.put 0 (.int .i64 L)).put 1 (.int .i64 S)).put 2 (.int .i64 A)
  simpa using this
set_option maxHeartbeats 400000 in
theorem with_get (R : World → Prop) (b6 : Nat) (h : Tb w bt g TB IN n size hand F) (hs : seg < n) (hn : n ≤ 512)
    (hc : Calls Try.prog 38 #[.pointer (some ⟨g, seg * 3, none⟩), .pointer (some ⟨b6, 0, none⟩)] w fun e w' => e = .returned (.int .i64 0) ∧ R w') :
    Calls Try.prog 34 #[.pointer (some ⟨bt, 0, none⟩), .int .i64 seg, .func (.func 38) #[] #[.pointer (some ⟨b6, 0, none⟩)]] w fun e w' => e = .returned (.int .i64 0) ∧ R w' := by
  have HC := Lib.hid hc
  have t0 := h.top.cell 0
  simp at t0
  have i1 : (0 : Int) ≤ (seg : Int) := by omega
  have i2 : (seg : Int) < (n : Int) := by omega
  clear h hc
  go_enter Try.func34, Try.ntmps34
  go_wp2_with fail
  refine HC.out.mono ?_
  rintro e w' ⟨rfl, hr⟩
  have HR := Lib.hid hr
  clear hr HC
  go_wp2
  go_ret
  exact ⟨rfl, HR.out⟩
set_option maxHeartbeats 1000000 in
theorem get_any (L S A : Int) (h : Tb w bt g TB IN n size hand F) (hs : seg < n) (hn : n ≤ 512) (e0 : F.getD (seg * 3) 0 = L) (e1 : F.getD (seg * 3 + 1) 0 = S) (e2 : F.getD (seg * 3 + 2) 0 = A) :
    Calls Try.prog 19 #[.pointer (some ⟨bt, 0, none⟩), .int .i64 seg] w fun e w' => e = .returned (.tuple #[.agg #[.int .i64 L, .int .i64 S, .int .i64 A], .int .i64 0]) ∧ Below w.heap.size w w' := by
  have hb0 : Below w.heap.size w ((w.alloc (.cells #[.int .i64 0, .int .i64 0, .int .i64 0] IN)).alloc (.cells #[.int .i64 0, .int .i64 0, .int .i64 0] IN)) := ((Below.refl _ _).alloc (Nat.le_refl _) _).alloc (by simp) _
  have HB0 := Lib.hid hb0
  have H := Lib.hid (h.later hb0)
  have HP := Lib.hid ((blo_laid w IN #[.int .i64 0, .int .i64 0, .int .i64 0]).alloc (.cells #[.int .i64 0, .int .i64 0, .int .i64 0] IN))
  have hq := blo_laid (w.alloc (.cells #[.int .i64 0, .int .i64 0, .int .i64 0] IN)) IN #[.int .i64 0, .int .i64 0, .int .i64 0]
  rw [show (w.alloc (.cells #[.int .i64 0, .int .i64 0, .int .i64 0] IN)).heap.size = w.heap.size + 1 by simp] at hq
  have HQ := Lib.hid hq
  have HE : Hid (F.getD (seg * 3) 0 = L ∧ F.getD (seg * 3 + 1) 0 = S ∧ F.getD (seg * 3 + 2) 0 = A) := ⟨e0, e1, e2⟩
  have hmf : ∀ (fn : Fn) (first cap : Array Value) (w : World), (Instr.makeFunc fn first cap).run Try.prog w = .ok (.func fn first cap) w := fun _ _ _ _ => rfl
  clear h hb0 hq e0 e1 e2
  go_enter Try.func19, Try.ntmps19
  go_wp2_with fail
  refine (with_get _ _ H.out hs hn (get_body (w.heap.size + 1) L S A H.out hs HE.out.1 HE.out.2.1 HE.out.2.2 HQ.out)).mono ?_
  rintro e w' ⟨rfl, hr, hb⟩
  have HB : Hid (Below w.heap.size w w') := HB0.out.trans (hb.mono (by omega))
  have hp := HP.out.below hb (by omega)
  have k0 := hr.cell 0
  have k1 := hr.cell 1
  have k2 := hr.cell 2
  have p0 := hp.cell 0
  have p1 := hp.cell 1
  have p2 := hp.cell 2
  have f0 := hp.frozen 0
  have f1 := hp.frozen 1
  have f2 := hp.frozen 2
  simp at k0 k1 k2 p0 p1 p2
  clear hr hb hp H HP HQ HE
  go_wp2
  refine bodyPost_ret (v := .tuple #[.agg #[.int .i64 L, .int .i64 S, .int .i64 A], .int .i64 0]) (by simp [results, Try.results19, go_sem, p0, p1, p2]) rfl ⟨rfl, ?_⟩
  exact ((HB.out.setCell (p := ⟨w.heap.size, 0, none⟩) (Nat.le_refl _) _).setCell (p := ⟨w.heap.size, 1, none⟩) (Nat.le_refl _) _).setCell (p := ⟨w.heap.size, 2, none⟩) (Nat.le_refl _) _
end
end Go.Proofs.Ytfilbbiiiaodiaa
