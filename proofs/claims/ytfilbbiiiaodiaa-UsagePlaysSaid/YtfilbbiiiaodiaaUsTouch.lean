/-
  Touch of a segment; Seize, Add and Touch at a number that is no segment's.
-/
import Derived.Test.YtfilbbiiiaodiaaUsAdd
import Derived.Test.YtfilbbiiiaodiaaUsSweep
import Derived.Lib.MinMax
namespace Go.Proofs.Ytfilbbiiiaodiaa
open Go.RowKit

section
variable {w : World} {bt g n seg B : Nat} {size hand : Int} {F : List Int}
set_option maxHeartbeats 1000000 in
theorem touch_neg (v : Int) (hv : v < 0) (b5 : Nat) (hx : Blo w b5 3 #[.int .i64 v]) :
    Calls Try.prog 40 #[.pointer (some ⟨g, seg * 3, none⟩), .pointer (some ⟨b5, 0, none⟩)] w fun e w' => e = .returned (.int .i64 22) ∧ w = w' := by
  have k2 := hx.cell 0
  simp at k2
  clear hx
  go_enter Try.func40, Try.ntmps40
  go_wp2
  go_ret
  exact ⟨rfl, rfl⟩
set_option maxHeartbeats 1000000 in
theorem touch_body (v A : Int) (h : Tb w bt g TB IN n size hand F) (hs : seg < n) (hA : F.getD (seg * 3 + 2) 0 = A) (hv : 0 ≤ v) (hB : B ≤ g) (b5 : Nat) (hx : Blo w b5 3 #[.int .i64 v]) :
    Calls Try.prog 40 #[.pointer (some ⟨g, seg * 3, none⟩), .pointer (some ⟨b5, 0, none⟩)] w fun e w' => e = .returned (.int .i64 0) ∧ (Tb w' bt g TB IN n size hand (F.set (seg * 3 + 2) (max A v)) ∧ Below B w w' ∧ Fr g w w') := by
  have H := Lib.hid h
  have c0 := h.cell (seg * 3 + 2) (by omega)
  have f0 := h.segs.frozen (seg * 3 + 2)
  rw [hA] at c0
  have k2 := hx.cell 0
  simp at k2
  clear h hx hA
  go_enter Try.func40, Try.ntmps40
  go_wp2_with fail
  go_still_tail 9, (by kernel_rfl)
  have H3 : Hid (Tb w.drew bt g TB IN n size hand F) := ⟨H.out.top, H.out.segs, H.out.len, H.out.apart⟩
  have HB3 : Hid (Below B w w.drew) := (Below.refl _ _).drew
  have HF3 : Hid (Fr g w w.drew) := fun _ _ _ _ h => h
  have d3 : w.drew.cell? ⟨g, seg * 3 + 2, none⟩ = some (.int .i64 A) := c0
  have e3 : w.drew.frozen? ⟨g, seg * 3 + 2, none⟩ = false := f0
  clear c0 k2 f0 H
  change wpList _ _ _ _ _ w.drew
  generalize w.drew = wd at *
  go_wp2
  go_ret
  exact ⟨rfl, H3.out.put _ _, HB3.out.setCell (p := ⟨g, seg * 3 + 2, none⟩) hB _, fun b t cs hne h => (HF3.out b t cs hne h).far hne _⟩
set_option maxHeartbeats 400000 in
theorem with_touch (R : World → Prop) (c : Int) (b5 : Nat) (h : Tb w bt g TB IN n size hand F) (hs : seg < n) (hn : n ≤ 512)
    (hc : Calls Try.prog 40 #[.pointer (some ⟨g, seg * 3, none⟩), .pointer (some ⟨b5, 0, none⟩)] w fun e w' => e = .returned (.int .i64 c) ∧ R w') :
    Calls Try.prog 34 #[.pointer (some ⟨bt, 0, none⟩), .int .i64 seg, .func (.func 40) #[] #[.pointer (some ⟨b5, 0, none⟩)]] w fun e w' => e = .returned (.int .i64 c) ∧ R w' := by
  have HC := Lib.hid hc
  have t0 := h.top.cell 0
  simp at t0
  have i1 : (0 : Int) ≤ (seg : Int) := by omega
  have i2 : (seg : Int) < (n : Int) := by omega
  clear h hc
  go_enter Try.func34, Try.ntmps34
  go_wp2_with fail
  refine HC.out.mono ?_
  rintro e w' ⟨rfl, hr⟩
  have HR := Lib.hid hr
  clear hr HC
  go_wp2
  go_ret
  exact ⟨rfl, HR.out⟩
set_option maxHeartbeats 400000 in
theorem touch_step (R : World → Prop) (c x v : Int)
    (hc : Calls Try.prog 34 #[.pointer (some ⟨bt, 0, none⟩), .int .i64 x, .func (.func 40) #[] #[.pointer (some ⟨w.heap.size, 0, none⟩)]] (w.alloc (.cells #[.int .i64 v] 3)) fun e w' => e = .returned (.int .i64 c) ∧ R w') :
    Calls Try.prog 23 #[.pointer (some ⟨bt, 0, none⟩), .int .i64 x, .int .i64 v] w fun e w' => e = .returned (.int .i64 c) ∧ R w' := by
  have HC := Lib.hid hc
  have hmf : ∀ (fn : Fn) (first cap : Array Value) (w : World), (Instr.makeFunc fn first cap).run Try.prog w = .ok (.func fn first cap) w := fun _ _ _ _ => rfl
  clear hc
  go_enter Try.func23, Try.ntmps23
  go_wp2_with fail
  refine HC.out.mono ?_
  rintro e w' ⟨rfl, hr⟩
  have HR := Lib.hid hr
  clear hr HC
  go_wp2
  go_ret
  exact ⟨rfl, HR.out⟩
set_option maxHeartbeats 400000 in
theorem add_with (R : World → Prop) (c x v : Int)
    (hc : Calls Try.prog 34 #[.pointer (some ⟨bt, 0, none⟩), .int .i64 x, .func (.func 35) #[] #[.pointer (some ⟨w.heap.size + 1, 0, none⟩), .pointer (some ⟨w.heap.size, 0, none⟩)]] ((w.alloc (.cells #[.pointer (some ⟨bt, 0, none⟩)] 24)).alloc (.cells #[.int .i64 v] 3)) fun e w' => e = .returned (.int .i64 c) ∧ R w') :
    Calls Try.prog 13 #[.pointer (some ⟨bt, 0, none⟩), .int .i64 x, .int .i64 v] w fun e w' => e = .returned (.int .i64 c) ∧ R w' := by
  have HC := Lib.hid hc
  have hmf : ∀ (fn : Fn) (first cap : Array Value) (w : World), (Instr.makeFunc fn first cap).run Try.prog w = .ok (.func fn first cap) w := fun _ _ _ _ => rfl
  clear hc
  go_enter Try.func13, Try.ntmps13
  go_wp2_with fail
  refine HC.out.mono ?_
  rintro e w' ⟨rfl, hr⟩
  have HR := Lib.hid hr
  clear hr HC
  go_wp2
  go_ret
  exact ⟨rfl, HR.out⟩
set_option maxHeartbeats 400000 in
theorem seize_with (R : World → Prop) (c x : Int)
    (hc : Calls Try.prog 34 #[.pointer (some ⟨bt, 0, none⟩), .int .i64 x, .func (.func 41) #[] #[.pointer (some ⟨w.heap.size, 0, none⟩), .pointer (some ⟨w.heap.size + 1, 0, none⟩)]] ((w.alloc (.cells #[.pointer (some ⟨bt, 0, none⟩)] 24)).alloc (.cells #[.int .i64 x] 3)) fun e w' => e = .returned (.int .i64 c) ∧ R w') :
    Calls Try.prog 30 #[.pointer (some ⟨bt, 0, none⟩), .int .i64 x] w fun e w' => e = .returned (.int .i64 c) ∧ R w' := by
  have HC := Lib.hid hc
  have hmf : ∀ (fn : Fn) (first cap : Array Value) (w : World), (Instr.makeFunc fn first cap).run Try.prog w = .ok (.func fn first cap) w := fun _ _ _ _ => rfl
  clear hc
  go_enter Try.func30, Try.ntmps30
  go_wp2_with fail
  refine HC.out.mono ?_
  rintro e w' ⟨rfl, hr⟩
  have HR := Lib.hid hr
  clear hr HC
  go_wp2
  go_ret
  exact ⟨rfl, HR.out⟩
set_option maxHeartbeats 400000 in
theorem use_with (R : World → Prop) (c x : Int)
    (hc : Calls Try.prog 34 #[.pointer (some ⟨bt, 0, none⟩), .int .i64 x, .func (.func 36) #[] #[]] w fun e w' => e = .returned (.int .i64 c) ∧ R w') :
    Calls Try.prog 16 #[.pointer (some ⟨bt, 0, none⟩), .int .i64 x] w fun e w' => e = .returned (.int .i64 c) ∧ R w' := by
  have HC := Lib.hid hc
  clear hc
  go_enter Try.func16, Try.ntmps16
  go_wp2_with fail
  refine HC.out.mono ?_
  rintro e w' ⟨rfl, hr⟩
  have HR := Lib.hid hr
  clear hr HC
  go_wp2
  go_ret
  exact ⟨rfl, HR.out⟩
end
end Go.Proofs.Ytfilbbiiiaodiaa
