/-
  The walks of a table's Add.
-/
import Derived.Test.YtfilbbiiiaodiaaUsTake
import Derived.Deep.QuietTactic
import Derived.BigQuiet
import Derived.StillTailTactics
namespace Go.Proofs.Ytfilbbiiiaodiaa
open Go.RowKit

theorem us_drewN {B : Nat} {a w : World} (h : Below B a w) (n : Nat) : Below B a (w.drewN n) := ⟨h.os, h.tape, h.output, h.size, h.block⟩
/-- All blocks but one are as they were. -/
def Fr (g : Nat) (w w' : World) : Prop := ∀ (b : Nat) (t : TypeId) (cs : Array Value), b ≠ g → Blo w b t cs → Blo w' b t cs
section
variable {w : World} {bt g n seg B : Nat} {size hand : Int} {F : List Int}
/-- The two variables that Add's closure holds. -/
structure Box3 (w : World) (bt g b3 b5 : Nat) (v : Int) : Prop where
  p1 : Blo w b3 24 #[.pointer (some ⟨bt, 0, none⟩)]
  p2 : Blo w b5 3 #[.int .i64 v]
set_option maxHeartbeats 1000000 in
theorem add_low (v L : Int) (h : Tb w bt g TB IN n size hand F) (hs : seg < n) (hL : F.getD (seg * 3) 0 = L) (h0 : 0 ≤ L ∧ L ≤ size) (hz : 1 ≤ size ∧ size ≤ 64) (hv : v < -L) (b3 b5 : Nat) (hx : Box3 w bt g b3 b5 v) :
    Calls Try.prog 35 #[.pointer (some ⟨g, seg * 3, none⟩), .pointer (some ⟨b5, 0, none⟩), .pointer (some ⟨b3, 0, none⟩)] w fun e w' => e = .returned (.int .i64 22) ∧ ∃ q, w' = w.drewN q := by
  have c0 := h.cell (seg * 3) (by omega)
  rw [hL] at c0
  have k2 := hx.p2.cell 0
  simp at k2
  have u1 : IntKind.i64.wrap (-L) = -L := IntWalk.i64_in _ (by omega)
  have hA : decide (v < -L) = true := decide_eq_true hv
  clear h hx hL
  go_enter Try.func35, Try.ntmps35
  go_wp2_with fail
  go_quiet (fail)
  go_wp2_with fail
  go_ret
  exact ⟨rfl, _, rfl⟩
set_option maxHeartbeats 1000000 in
theorem add_high (v L : Int) (h : Tb w bt g TB IN n size hand F) (hs : seg < n) (hL : F.getD (seg * 3) 0 = L) (h0 : 0 ≤ L ∧ L ≤ size) (hz : 1 ≤ size ∧ size ≤ 64) (hv : size - L < v) (b3 b5 : Nat) (hx : Box3 w bt g b3 b5 v) :
    Calls Try.prog 35 #[.pointer (some ⟨g, seg * 3, none⟩), .pointer (some ⟨b5, 0, none⟩), .pointer (some ⟨b3, 0, none⟩)] w fun e w' => e = .returned (.int .i64 22) ∧ ∃ q, w' = w.drewN q := by
  have c0 := h.cell (seg * 3) (by omega)
  rw [hL] at c0
  have k1 := hx.p1.cell 0
  have k2 := hx.p2.cell 0
  have t1 := h.top.cell 1
  simp at k1 k2 t1
  have u1 : IntKind.i64.wrap (-L) = -L := IntWalk.i64_in _ (by omega)
  have u2 : IntKind.i64.wrap (size - L) = size - L := IntWalk.i64_in _ (by omega)
  have hA : decide (v < -L) = false := decide_eq_false (by omega)
  have hA2 : decide (size - L < v) = true := decide_eq_true hv
  clear h hx hL
  go_enter Try.func35, Try.ntmps35
  go_wp2_with fail
  go_quiet (fail)
  go_wp2_with fail
  go_ret
  exact ⟨rfl, _, rfl⟩
set_option maxHeartbeats 1000000 in
theorem add_fits (v L : Int) (h : Tb w bt g TB IN n size hand F) (hs : seg < n) (hL : F.getD (seg * 3) 0 = L) (h0 : 0 ≤ L ∧ L ≤ size) (hz : 1 ≤ size ∧ size ≤ 64) (hv : -L ≤ v ∧ v ≤ size - L) (hB : B ≤ g) (b3 b5 : Nat) (hx : Box3 w bt g b3 b5 v) :
    Calls Try.prog 35 #[.pointer (some ⟨g, seg * 3, none⟩), .pointer (some ⟨b5, 0, none⟩), .pointer (some ⟨b3, 0, none⟩)] w fun e w' => e = .returned (.int .i64 0) ∧ (Tb w' bt g TB IN n size hand (F.set (seg * 3) (L + v)) ∧ Below B w w' ∧ Fr g w w') := by
  have H := Lib.hid h
  have c0 := h.cell (seg * 3) (by omega)
  have f0 := h.segs.frozen (seg * 3)
  rw [hL] at c0
  have k1 := hx.p1.cell 0
  have k2 := hx.p2.cell 0
  have t1 := h.top.cell 1
  simp at k1 k2 t1
  have u1 : IntKind.i64.wrap (-L) = -L := IntWalk.i64_in _ (by omega)
  have u2 : IntKind.i64.wrap (size - L) = size - L := IntWalk.i64_in _ (by omega)
  have u3 : IntKind.i64.wrap (L + v) = L + v := IntWalk.i64_in _ (by omega)
  have hA : decide (v < -L) = false := decide_eq_false (by omega)
  have hA2 : decide (size - L < v) = false := decide_eq_false (by omega)
  clear h hx hL
  go_enter Try.func35, Try.ntmps35
  go_wp2_with fail
  go_quiet (fail)
  go_wp2_with fail
  have H2 : Hid (Tb (w.drewN nq) bt g TB IN n size hand F) := ⟨H.out.top, H.out.segs, H.out.len, H.out.apart⟩
  have d0 : (w.drewN nq).cell? ⟨g, seg * 3, none⟩ = some (.int .i64 L) := c0
  have d2 : (w.drewN nq).cell? ⟨b5, 0, none⟩ = some (.int .i64 v) := k2
  have e0 : (w.drewN nq).frozen? ⟨g, seg * 3, none⟩ = false := f0
  have HB : Hid (Below B w (w.drewN nq)) := us_drewN (Below.refl _ _) nq
  have HF : Hid (Fr g w (w.drewN nq)) := fun _ _ _ _ h => h
  clear c0 f0 k1 k2 t1 H
  generalize w.drewN nq = wq at *
  go_still_tail 8, (by kernel_rfl)
  have H3 : Hid (Tb wq.drew bt g TB IN n size hand F) := ⟨H2.out.top, H2.out.segs, H2.out.len, H2.out.apart⟩
  have HB3 : Hid (Below B w wq.drew) := HB.out.drew
  have HF3 : Hid (Fr g w wq.drew) := HF.out
  have d3 : wq.drew.cell? ⟨g, seg * 3, none⟩ = some (.int .i64 L) := d0
  have e3 : wq.drew.frozen? ⟨g, seg * 3, none⟩ = false := e0
  clear d0 d2 e0 H2 HB
  change wpList _ _ _ _ _ wq.drew
  generalize wq.drew = wd at *
  go_wp2
  go_ret
  exact ⟨rfl, H3.out.put _ _, HB3.out.setCell (p := ⟨g, seg * 3, none⟩) hB _, fun b t cs hne h => (HF3.out b t cs hne h).far hne _⟩
set_option maxHeartbeats 400000 in
theorem with_add (R : World → Prop) (c : Int) (b3 b5 : Nat) (h : Tb w bt g TB IN n size hand F) (hs : seg < n) (hn : n ≤ 512)
    (hc : Calls Try.prog 35 #[.pointer (some ⟨g, seg * 3, none⟩), .pointer (some ⟨b5, 0, none⟩), .pointer (some ⟨b3, 0, none⟩)] w fun e w' => e = .returned (.int .i64 c) ∧ R w') :
    Calls Try.prog 34 #[.pointer (some ⟨bt, 0, none⟩), .int .i64 seg, .func (.func 35) #[] #[.pointer (some ⟨b5, 0, none⟩), .pointer (some ⟨b3, 0, none⟩)]] w fun e w' => e = .returned (.int .i64 c) ∧ R w' := by
  have HC := Lib.hid hc
  have t0 := h.top.cell 0
  simp at t0
  have i1 : (0 : Int) ≤ (seg : Int) := by omega
  have i2 : (seg : Int) < (n : Int) := by omega
  clear h hc
  go_enter Try.func34, Try.ntmps34
  go_wp2_with fail
  refine HC.out.mono ?_
  rintro e w' ⟨rfl, hr⟩
  have HR := Lib.hid hr
  clear hr HC
  go_wp2
  go_ret
  exact ⟨rfl, HR.out⟩
theorem Box3.laid (w : World) (bt g : Nat) (v : Int) :
    Box3 ((w.alloc (.cells #[.pointer (some ⟨bt, 0, none⟩)] 24)).alloc (.cells #[.int .i64 v] 3)) bt g w.heap.size (w.heap.size + 1) v := by
  refine ⟨(blo_laid w _ _).alloc _, ?_⟩
  have := blo_laid (w.alloc (.cells #[.pointer (some ⟨bt, 0, none⟩)] 24)) 3 #[.int .i64 v]
  simpa using this
set_option maxHeartbeats 400000 in
theorem add_step (R : World → Prop) (c : Int) (v : Int) (h : Tb w bt g TB IN n size hand F) (hs : seg < n) (hn : n ≤ 512)
    (hc : Calls Try.prog 35 #[.pointer (some ⟨g, seg * 3, none⟩), .pointer (some ⟨w.heap.size + 1, 0, none⟩), .pointer (some ⟨w.heap.size, 0, none⟩)] ((w.alloc (.cells #[.pointer (some ⟨bt, 0, none⟩)] 24)).alloc (.cells #[.int .i64 v] 3)) fun e w' => e = .returned (.int .i64 c) ∧ R w') :
    Calls Try.prog 13 #[.pointer (some ⟨bt, 0, none⟩), .int .i64 seg, .int .i64 v] w fun e w' => e = .returned (.int .i64 c) ∧ R w' := by
  have HC := Lib.hid hc
  have hb0 : Below w.heap.size w ((w.alloc (.cells #[.pointer (some ⟨bt, 0, none⟩)] 24)).alloc (.cells #[.int .i64 v] 3)) := ((Below.refl _ _).alloc (Nat.le_refl _) _).alloc (by simp) _
  have H := Lib.hid (h.later hb0)
  have hmf : ∀ (fn : Fn) (first cap : Array Value) (w : World), (Instr.makeFunc fn first cap).run Try.prog w = .ok (.func fn first cap) w := fun _ _ _ _ => rfl
  clear h hb0 hc
  go_enter Try.func13, Try.ntmps13
  go_wp2_with fail
  refine (with_add R c _ _ H.out hs hn HC.out).mono ?_
  rintro e w' ⟨rfl, hr⟩
  have HR := Lib.hid hr
  clear hr HC
  go_wp2
  go_ret
  exact ⟨rfl, HR.out⟩
theorem add_no (v L : Int) (h : Tb w bt g TB IN n size hand F) (hs : seg < n) (hn : n ≤ 512) (hL : F.getD (seg * 3) 0 = L) (h0 : 0 ≤ L ∧ L ≤ size) (hz : 1 ≤ size ∧ size ≤ 64) (hv : ¬ (-L ≤ v ∧ v ≤ size - L)) (hB : B ≤ w.heap.size) :
    Calls Try.prog 13 #[.pointer (some ⟨bt, 0, none⟩), .int .i64 seg, .int .i64 v] w fun e w' => e = .returned (.int .i64 22) ∧ (Tb w' bt g TB IN n size hand F ∧ Below B w w') := by
  have hb0 : Below w.heap.size w ((w.alloc (.cells #[.pointer (some ⟨bt, 0, none⟩)] 24)).alloc (.cells #[.int .i64 v] 3)) := ((Below.refl _ _).alloc (Nat.le_refl _) _).alloc (by simp) _
  have h' := h.later hb0
  have hx := Box3.laid w bt g v
  have fin : ∀ (e : Ending) (w' : World), (e = .returned (.int .i64 22) ∧ ∃ q, w' = ((w.alloc (.cells #[.pointer (some ⟨bt, 0, none⟩)] 24)).alloc (.cells #[.int .i64 v] 3)).drewN q) → e = .returned (.int .i64 22) ∧ (Tb w' bt g TB IN n size hand F ∧ Below B w w') := by
    rintro e w' ⟨he, q, rfl⟩
    exact ⟨he, ⟨h'.top, h'.segs, h'.len, h'.apart⟩, us_drewN (hb0.mono hB) q⟩
  refine add_step _ 22 v h hs hn ?_
  by_cases hlow : v < -L
  · exact (add_low v L h' hs hL h0 hz hlow _ _ hx).mono fin
  · exact (add_high v L h' hs hL h0 hz (by omega) _ _ hx).mono fin
theorem add_yes (v L : Int) (h : Tb w bt g TB IN n size hand F) (hs : seg < n) (hn : n ≤ 512) (hL : F.getD (seg * 3) 0 = L) (h0 : 0 ≤ L ∧ L ≤ size) (hz : 1 ≤ size ∧ size ≤ 64) (hv : -L ≤ v ∧ v ≤ size - L) (hB : B ≤ w.heap.size) (hB' : B ≤ g) :
    Calls Try.prog 13 #[.pointer (some ⟨bt, 0, none⟩), .int .i64 seg, .int .i64 v] w fun e w' => e = .returned (.int .i64 0) ∧ (Tb w' bt g TB IN n size hand (F.set (seg * 3) (L + v)) ∧ Below B w w' ∧ Fr g w w') := by
  have hb0 : Below w.heap.size w ((w.alloc (.cells #[.pointer (some ⟨bt, 0, none⟩)] 24)).alloc (.cells #[.int .i64 v] 3)) := ((Below.refl _ _).alloc (Nat.le_refl _) _).alloc (by simp) _
  refine add_step _ 0 v h hs hn ?_
  exact (add_fits (B := B) v L (h.later hb0) hs hL h0 hz hv hB' _ _ (Box3.laid w bt g v)).mono fun e w' ⟨he, ht, hb, hf⟩ => ⟨he, ht, (hb0.mono hB).trans hb, fun b t cs hne h => hf b t cs hne ((h.alloc _).alloc _)⟩
end
end Go.Proofs.Ytfilbbiiiaodiaa
