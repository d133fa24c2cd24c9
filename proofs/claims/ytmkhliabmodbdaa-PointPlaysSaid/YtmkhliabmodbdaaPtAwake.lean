/-
  The walk of awake.
-/
import Derived.Test.YtmkhliabmodbdaaPtSave
namespace Go.Proofs.Ytmkhliabmodbdaa
open Go.RowKit

def AP1 : Pt := ⟨1, 0, 3, 3⟩
def AP2 : Pt := ⟨1, 1, 0, 0⟩
def AP3 : Pt := ⟨2, 0, 2, 0⟩
def AP4 : Pt := ⟨1, 9, 0, 0⟩
def AD1 : Dm := (saveD (newD 4) AP1).1
def AD2 : Dm := (saveD AD1 AP2).1
def AD3 : Dm := (saveD AD2 AP3).1
def AD4 : Dm := (saveD AD3 AP4).1
theorem ac1 : (saveD (newD 4) AP1).2 = 0 := by decide +kernel
theorem ac2 : (saveD AD1 AP2).2 = 0 := by decide +kernel
theorem ac3 : (saveD AD2 AP3).2 = 0 := by decide +kernel
theorem ac4 : (saveD AD3 AP4).2 = 103 := by decide +kernel
theorem an : AD1.n = 4 ∧ AD2.n = 4 ∧ AD3.n = 4 ∧ AD4.n = 4 := by decide +kernel
theorem aok0 : OkD (newD 4) := ⟨by decide, by decide +kernel, by decide +kernel⟩
theorem aok1 : OkD AD1 := ⟨by decide +kernel, by decide +kernel, by decide +kernel⟩
theorem aok2 : OkD AD2 := ⟨by decide +kernel, by decide +kernel, by decide +kernel⟩
theorem aok3 : OkD AD3 := ⟨by decide +kernel, by decide +kernel, by decide +kernel⟩
theorem aload : ctK AD4.N 2 = (AP3, 1) := by decide +kernel
set_option maxRecDepth 100000 in
set_option maxHeartbeats 2000000 in
theorem awake_any (w : World) : Calls Try.prog 9 #[] w fun e w' => e = .returned (.bool true) ∧ Below w.heap.size w w' := by
  have HS1 : Hid (∀ (W : World) (L : Dl), Dk w.heap.size W L (newD 4) → Calls Try.prog 12 #[.pointer (some ⟨L.bd, 0, none⟩), .agg #[.int .i64 1, .int .i64 0, .int .i64 3, .int .i64 3]] W (CodeO w.heap.size W L AD1 0)) := fun W L h => by
    have := save_any AP1 h (by decide) aok0; rw [ac1] at this; exact this
  have HS2 : Hid (∀ (W : World) (L : Dl), Dk w.heap.size W L AD1 → Calls Try.prog 12 #[.pointer (some ⟨L.bd, 0, none⟩), .agg #[.int .i64 1, .int .i64 1, .int .i64 0, .int .i64 0]] W (CodeO w.heap.size W L AD2 0)) := fun W L h => by
    have := save_any AP2 h (by rw [an.1]; decide) aok1; rw [ac2] at this; exact this
  have HS3 : Hid (∀ (W : World) (L : Dl), Dk w.heap.size W L AD2 → Calls Try.prog 12 #[.pointer (some ⟨L.bd, 0, none⟩), .agg #[.int .i64 2, .int .i64 0, .int .i64 2, .int .i64 0]] W (CodeO w.heap.size W L AD3 0)) := fun W L h => by
    have := save_any AP3 h (by rw [an.2.1]; decide) aok2; rw [ac3] at this; exact this
  have HS4 : Hid (∀ (W : World) (L : Dl), Dk w.heap.size W L AD3 → Calls Try.prog 12 #[.pointer (some ⟨L.bd, 0, none⟩), .agg #[.int .i64 1, .int .i64 9, .int .i64 0, .int .i64 0]] W (CodeO w.heap.size W L AD4 103)) := fun W L h => by
    have := save_any AP4 h (by rw [an.2.2.1]; decide) aok3; rw [ac4] at this; exact this
  have HLo : Hid (∀ (W : World) (L : Dl), Dk w.heap.size W L AD4 → Calls Try.prog 26 #[.pointer (some ⟨L.bd, 0, none⟩)] W fun e w' => e = .returned (.tuple #[.agg #[.int .i64 2, .int .i64 0, .int .i64 2, .int .i64 0], .bool true]) ∧ Below W.heap.size W w') := fun W L h => by
    have := load_any h (by rw [an.2.2.2]; decide); rw [aload] at this; exact this
  go_enter Try.func9, Try.ntmps9
  go_wp2_with fail
  refine (new_any 4 w (by decide) (by decide)).mono ?_
  rintro e w1 ⟨L, rfl, hD, hb⟩
  have HD := Lib.hid hD
  have HB := Lib.hid hb
  clear hD hb
  go_wp2_with fail
  refine (HS1.out _ _ HD.out).mono ?_
  intro e w2 hO
  obtain ⟨rfl, L2, e2, hD2, hb2⟩ := hO.use HD.out HB.out (Nat.le_refl _) (Nat.le_refl _)
  rw [← e2]
  have HD2 := Lib.hid hD2
  have HB2 := Lib.hid hb2
  clear hO hD2 hb2 e2 HD HB HS1
  go_wp2_with fail
  refine (HS2.out _ _ HD2.out).mono ?_
  intro e w3 hO
  obtain ⟨rfl, L3, e3, hD3, hb3⟩ := hO.use HD2.out HB2.out (Nat.le_refl _) (Nat.le_refl _)
  rw [← e3]
  have HD3 := Lib.hid hD3
  have HB3 := Lib.hid hb3
  clear hO hD3 hb3 e3 HD2 HB2 HS2
  go_wp2_with fail
  refine (HS3.out _ _ HD3.out).mono ?_
  intro e w4 hO
  obtain ⟨rfl, L4, e4, hD4, hb4⟩ := hO.use HD3.out HB3.out (Nat.le_refl _) (Nat.le_refl _)
  rw [← e4]
  have HD4 := Lib.hid hD4
  have HB4 := Lib.hid hb4
  clear hO hD4 hb4 e4 HD3 HB3 HS3
  go_wp2_with fail
  refine (HS4.out _ _ HD4.out).mono ?_
  intro e w5 hO
  obtain ⟨rfl, L5, e5, hD5, hb5⟩ := hO.use HD4.out HB4.out (Nat.le_refl _) (Nat.le_refl _)
  rw [← e5]
  have HD5 := Lib.hid hD5
  have HB5 := Lib.hid hb5
  clear hO hD5 hb5 e5 HD4 HB4 HS4
  go_wp2_with fail
  refine (HLo.out _ _ HD5.out).mono ?_
  rintro e w6 ⟨rfl, hb6⟩
  have HB6 := Lib.hid (HB5.out.trans ((hb6.alloc hb6.size (.cells #[.int .i64 2, .int .i64 0, .int .i64 2, .int .i64 0] PNT)).mono HB5.out.size))
  clear hb6 HD5 HB5 HLo
  go_wp2
  go_ret
  exact ⟨rfl, HB6.out⟩
end Go.Proofs.Ytmkhliabmodbdaa
