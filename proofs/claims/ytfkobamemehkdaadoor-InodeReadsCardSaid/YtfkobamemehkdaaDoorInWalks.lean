/-
  The walks of inodes: how many blocks hold so many bytes; whether numbers are an inode; an inode's block.
-/
import Derived.Test.YtfkobamemehkdaaDoorBaseOpen
import Derived.Test.YtfkobamemehkdaaDoorMem
import Derived.Test.YtfkobamemehkdaaDoorRows
import Derived.Deep.QuietTactic
import Derived.BigQuiet
import Derived.Deep.RegionHeld
namespace Go.Proofs.YtfkobamemehkdaaDoor
open Go.RowKit

theorem below_drewN {B : Nat} {a w : World} (h : Below B a w) (n : Nat) : Below B a (w.drewN n) := ⟨h.os, h.tape, h.output, h.size, h.block⟩
theorem sup_below (w : World) (o : Obj) : Below w.heap.size w (w.alloc o) := (Below.refl _ _).alloc (Nat.le_refl _) o
def blocksM (s : Int) : Int := if s < 1 then 0 else (s - 1) / 64 + 1
set_option maxHeartbeats 400000 in
theorem blocks_any (s : Int) (w : World) (h1 : s ≤ 9223372036854775807) : Calls Tryd.prog 20 #[.int .i64 s] w fun e w' => e = .returned (.int .i64 (blocksM s)) ∧ w = w' := by
  by_cases h : s < 1
  · have e : blocksM s = 0 := by simp [blocksM, h]
    rw [e]
    clear e
    go_enter Tryd.func20, Tryd.ntmps20
    go_wp2
    go_ret
    exact ⟨rfl, rfl⟩
  · have e : blocksM s = (s - 1) / 64 + 1 := by simp [blocksM, h]
    rw [e]
    clear e
    have hq : 0 ≤ (s - 1) / 64 ∧ (s - 1) / 64 ≤ 9223372036854775000 := by omega
    go_enter Tryd.func20, Tryd.ntmps20
    go_wp2
    go_ret
    exact ⟨rfl, rfl⟩
/-- Are five numbers an inode's? -/
def GoodI (a b c d s : Int) : Prop := 1 ≤ a ∧ a ≤ 200 ∧ 0 ≤ b ∧ b ≤ 65535 ∧ 0 ≤ c ∧ c ≤ 2 ∧ 0 ≤ d ∧ d ≤ 100 ∧ 0 ≤ s ∧ s ≤ 38400
/-- The cells of an inode. -/
abbrev ino (a b c d s : Int) (p0 p1 p2 p3 p4 p5 p6 p7 p8 : Nat) : Array Value :=
  #[.int .i64 a, .int .i64 b, .int .i64 c, .int .i64 d, .int .i64 s, .int .u32 p0, .int .u32 p1, .int .u32 p2, .int .u32 p3, .int .u32 p4, .int .u32 p5, .int .u32 p6, .int .u32 p7, .int .u32 p8]
set_option maxHeartbeats 400000 in
theorem put1_any (v g k c : Nat) (w : World) (x0 : Value) (hv : v < 256) (c0 : w.cell? ⟨g, k, none⟩ = some x0) (f0 : w.frozen? ⟨g, k, none⟩ = false) :
    Calls Tryd.prog 22 #[.slice (some ⟨g, k, none⟩) 1 c, .int .i64 v] w fun e w' => e = .returned (.tuple #[]) ∧ w' = w.setCell ⟨g, k, none⟩ (.int .u8 (v % 256 : Nat)) := by
  have e3 : v % 256 = v := by omega
  rw [e3]
  clear e3
  go_enter Tryd.func22, Tryd.ntmps22
  go_wp2
  refine wp_loop_rounds 2 ?_
  rw [rounds_succ]
  go_wp2
  rw [rounds_succ]
  go_wp2
  go_end0
  exact ⟨rfl, rfl⟩
set_option maxHeartbeats 400000 in
theorem put2_any (v g k c : Nat) (w : World) (x0 x1 : Value) (hv : v < 65536) (c0 : w.cell? ⟨g, k, none⟩ = some x0) (c1 : w.cell? ⟨g, k + 1, none⟩ = some x1) (f0 : w.frozen? ⟨g, k, none⟩ = false) (f1 : w.frozen? ⟨g, k + 1, none⟩ = false) :
    Calls Tryd.prog 22 #[.slice (some ⟨g, k, none⟩) 2 c, .int .i64 v] w fun e w' => e = .returned (.tuple #[]) ∧ w' = (w.setCell ⟨g, k, none⟩ (.int .u8 (v % 256 : Nat))).setCell ⟨g, k + 1, none⟩ (.int .u8 (v / 256 % 256 : Nat)) := by
  have e3 : v / 256 % 256 = v / 256 := by omega
  rw [e3]
  clear e3
  go_enter Tryd.func22, Tryd.ntmps22
  go_wp2
  refine wp_loop_rounds 3 ?_
  rw [rounds_succ]
  go_wp2
  rw [rounds_succ]
  go_wp2
  rw [rounds_succ]
  go_wp2
  go_end0
  exact ⟨rfl, rfl⟩
set_option maxHeartbeats 400000 in
theorem put4_any (v g k c : Nat) (w : World) (x0 x1 x2 x3 : Value) (hv : v < 4294967296)
    (c0 : w.cell? ⟨g, k, none⟩ = some x0) (c1 : w.cell? ⟨g, k + 1, none⟩ = some x1) (c2 : w.cell? ⟨g, k + 2, none⟩ = some x2) (c3 : w.cell? ⟨g, k + 3, none⟩ = some x3)
    (f0 : w.frozen? ⟨g, k, none⟩ = false) (f1 : w.frozen? ⟨g, k + 1, none⟩ = false) (f2 : w.frozen? ⟨g, k + 2, none⟩ = false) (f3 : w.frozen? ⟨g, k + 3, none⟩ = false) :
    Calls Tryd.prog 22 #[.slice (some ⟨g, k, none⟩) 4 c, .int .i64 v] w fun e w' => e = .returned (.tuple #[]) ∧
      w' = (((w.setCell ⟨g, k, none⟩ (.int .u8 (v % 256 : Nat))).setCell ⟨g, k + 1, none⟩ (.int .u8 (v / 256 % 256 : Nat))).setCell ⟨g, k + 2, none⟩ (.int .u8 (v / 65536 % 256 : Nat))).setCell ⟨g, k + 3, none⟩ (.int .u8 (v / 16777216 % 256 : Nat)) := by
  have e3 : v / 16777216 % 256 = v / 16777216 := by omega
  rw [e3]
  clear e3
  go_enter Tryd.func22, Tryd.ntmps22
  go_wp2
  refine wp_loop_rounds 5 ?_
  rw [rounds_succ]
  go_wp2
  rw [rounds_succ]
  go_wp2
  rw [rounds_succ]
  go_wp2
  rw [rounds_succ]
  go_wp2
  rw [rounds_succ]
  go_wp2
  go_end0
  exact ⟨rfl, rfl⟩
def le2 (v : Nat) : List Nat := [v % 256, v / 256 % 256]
def set1 (l : List Nat) (k v : Nat) : List Nat := l.set k (v % 256)
def set2 (l : List Nat) (k v : Nat) : List Nat := (l.set k (v % 256)).set (k + 1) (v / 256 % 256)
def set4 (l : List Nat) (k v : Nat) : List Nat := (((l.set k (v % 256)).set (k + 1) (v / 256 % 256)).set (k + 2) (v / 65536 % 256)).set (k + 3) (v / 16777216 % 256)
theorem set1_length (l : List Nat) (k v : Nat) : (set1 l k v).length = l.length := by simp [set1]
theorem set2_length (l : List Nat) (k v : Nat) : (set2 l k v).length = l.length := by simp [set2]
theorem set4_length (l : List Nat) (k v : Nat) : (set4 l k v).length = l.length := by simp [set4]
theorem put1_row (v : Nat) (l : List Nat) (g k c : Nat) (w : World) (hv : v < 256) (hr : Row w g l) (hk : k + 1 ≤ l.length) :
    Calls Tryd.prog 22 #[.slice (some ⟨g, k, none⟩) 1 c, .int .i64 v] w fun e w' => e = .returned (.tuple #[]) ∧ Row w' g (set1 l k v) ∧ Below g w w' := by
  refine (put1_any v g k c w _ hv (hr.cell _ (by omega)) (hr.frozen _)).mono ?_
  rintro e w' ⟨he, rfl⟩
  exact ⟨he, hr.set k (v % 256), (Below.refl g w).setCell (p := ⟨g, k, none⟩) (Nat.le_refl g) _⟩
theorem put2_row (v : Nat) (l : List Nat) (g k c : Nat) (w : World) (hv : v < 65536) (hr : Row w g l) (hk : k + 2 ≤ l.length) :
    Calls Tryd.prog 22 #[.slice (some ⟨g, k, none⟩) 2 c, .int .i64 v] w fun e w' => e = .returned (.tuple #[]) ∧ Row w' g (set2 l k v) ∧ Below g w w' := by
  refine (put2_any v g k c w _ _ hv (hr.cell _ (by omega)) (hr.cell _ (by omega)) (hr.frozen _) (hr.frozen _)).mono ?_
  rintro e w' ⟨he, rfl⟩
  exact ⟨he, (hr.set k (v % 256)).set (k + 1) (v / 256 % 256), ((Below.refl g w).setCell (p := ⟨g, k, none⟩) (Nat.le_refl g) _).setCell (p := ⟨g, k + 1, none⟩) (Nat.le_refl g) _⟩
theorem put4_row (v : Nat) (l : List Nat) (g k c : Nat) (w : World) (hv : v < 4294967296) (hr : Row w g l) (hk : k + 4 ≤ l.length) :
    Calls Tryd.prog 22 #[.slice (some ⟨g, k, none⟩) 4 c, .int .i64 v] w fun e w' => e = .returned (.tuple #[]) ∧ Row w' g (set4 l k v) ∧ Below g w w' := by
  refine (put4_any v g k c w _ _ _ _ hv (hr.cell _ (by omega)) (hr.cell _ (by omega)) (hr.cell _ (by omega)) (hr.cell _ (by omega)) (hr.frozen _) (hr.frozen _) (hr.frozen _) (hr.frozen _)).mono ?_
  rintro e w' ⟨he, rfl⟩
  have b1 : Below g w (w.setCell ⟨g, k, none⟩ (.int .u8 (v % 256 : Nat))) := (Below.refl g w).setCell (Nat.le_refl g) _
  have b2 := b1.setCell (p := ⟨g, k + 1, none⟩) (Nat.le_refl g) (.int .u8 (v / 256 % 256 : Nat))
  have b3 := b2.setCell (p := ⟨g, k + 2, none⟩) (Nat.le_refl g) (.int .u8 (v / 65536 % 256 : Nat))
  have b4 := b3.setCell (p := ⟨g, k + 3, none⟩) (Nat.le_refl g) (.int .u8 (v / 16777216 % 256 : Nat))
  exact ⟨he, (((hr.set k (v % 256)).set (k + 1) (v / 256 % 256)).set (k + 2) (v / 65536 % 256)).set (k + 3) (v / 16777216 % 256), b4⟩
/-- An inode's sixty bytes. -/
def inoN (a b c d s p0 p1 p2 p3 p4 p5 p6 p7 p8 : Nat) : List Nat :=
  le2 a ++ (le2 b ++ ([c % 256, d % 256] ++ (le4 s ++ (le4 p0 ++ (le4 p1 ++ (le4 p2 ++ (le4 p3 ++ (le4 p4 ++ (le4 p5 ++ (le4 p6 ++ (le4 p7 ++ (le4 p8 ++ List.replicate 14 0))))))))))))
theorem inoN_length (a b c d s p0 p1 p2 p3 p4 p5 p6 p7 p8 : Nat) : (inoN a b c d s p0 p1 p2 p3 p4 p5 p6 p7 p8).length = 60 := rfl
theorem ino_put (a b c d s p0 p1 p2 p3 p4 p5 p6 p7 p8 : Nat) :
    set4 (set4 (set4 (set4 (set4 (set4 (set4 (set4 (set4 (set4 (set1 (set1 (set2 (set2 (List.replicate 60 0) 0 a) 2 b) 4 c) 5 d) 6 s) 10 p0) 14 p1) 18 p2) 22 p3) 26 p4) 30 p5) 34 p6) 38 p7) 42 p8 = inoN a b c d s p0 p1 p2 p3 p4 p5 p6 p7 p8 := by kernel_rfl
theorem le2_lt (v : Nat) : ∀ x ∈ le2 v, x < 256 := by
  intro x hx
  simp only [le2, List.mem_cons, List.not_mem_nil, or_false] at hx
  omega
theorem lt_append {l m : List Nat} (h1 : ∀ x ∈ l, x < 256) (h2 : ∀ x ∈ m, x < 256) : ∀ x ∈ l ++ m, x < 256 := fun x hx => by
  rcases List.mem_append.1 hx with h | h
  · exact h1 x h
  · exact h2 x h
theorem inoN_lt (a b c d s p0 p1 p2 p3 p4 p5 p6 p7 p8 : Nat) : ∀ x ∈ inoN a b c d s p0 p1 p2 p3 p4 p5 p6 p7 p8, x < 256 := by
  have hcd : ∀ x ∈ [c % 256, d % 256], x < 256 := by
    intro x hx
    simp only [List.mem_cons, List.not_mem_nil, or_false] at hx
    omega
  have hz : ∀ x ∈ List.replicate 14 0, x < 256 := fun x hx => by rw [(List.mem_replicate.1 hx).2]; decide
  exact lt_append (le2_lt a) (lt_append (le2_lt b) (lt_append hcd (lt_append (le4_lt s) (lt_append (le4_lt p0) (lt_append (le4_lt p1) (lt_append (le4_lt p2) (lt_append (le4_lt p3) (lt_append (le4_lt p4) (lt_append (le4_lt p5) (lt_append (le4_lt p6) (lt_append (le4_lt p7) (lt_append (le4_lt p8) hz))))))))))))
end Go.Proofs.YtfkobamemehkdaaDoor
