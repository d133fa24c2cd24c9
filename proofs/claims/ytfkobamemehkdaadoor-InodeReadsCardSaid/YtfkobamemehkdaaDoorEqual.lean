/-
  The walks of bytes.Equal; a region all of whose orders end alike; parts of a slice of bytes.
-/
import Derived.Test.YtfkobamemehkdaaDoorBaseOpen
import Derived.Deep.RegionWith
namespace Go.Proofs.YtfkobamemehkdaaDoor
open Go.RowKit

set_option maxHeartbeats 400000 in
theorem equal_same (l : List Nat) (n : Nat) (hn : n = l.length) (a1 a2 : Option Addr) (c1 c2 : Nat) (w : World) (h1 : Bytes w a1 l) (h2 : Bytes w a2 l) :
    Calls Tryd.prog 26 #[.slice a1 n c1, .slice a2 n c2] w fun e w' => e = .returned (.bool true) ∧ w = w' := by
  have s1 := run_str w 27 9 5 Tryd.underlying27 Tryd.underlying5 Tryd.underlying9 l a1 n c1 hn h1
  have s2 := run_str w 27 9 5 Tryd.underlying27 Tryd.underlying5 Tryd.underlying9 l a2 n c2 hn h2
  clear h1 h2 hn
  go_enter Tryd.func26, Tryd.ntmps26
  go_wp2
  go_ret
  exact ⟨rfl, rfl⟩
set_option maxHeartbeats 400000 in
theorem equal_ne (l m : List Nat) (n k : Nat) (hn : n = l.length) (hk : k = m.length) (hne : l ≠ m) (a1 a2 : Option Addr) (c1 c2 : Nat) (w : World) (h1 : Bytes w a1 l) (h2 : Bytes w a2 m) :
    Calls Tryd.prog 26 #[.slice a1 n c1, .slice a2 k c2] w fun e w' => e = .returned (.bool false) ∧ w = w' := by
  have s1 := run_str w 27 9 5 Tryd.underlying27 Tryd.underlying5 Tryd.underlying9 l a1 n c1 hn h1
  have s2 := run_str w 27 9 5 Tryd.underlying27 Tryd.underlying5 Tryd.underlying9 m a2 k c2 hk h2
  have hs := str_ne h1.1 h2.1 hne
  clear h1 h2 hn hk hne
  generalize strOf l = x at *
  generalize strOf m = y at *
  go_enter Tryd.func26, Tryd.ntmps26
  go_wp2
  go_ret
  exact ⟨by simp [hs], rfl⟩
theorem region_one {P : Program} {c : Code} {Q : Exit → Act → World → Prop} {a : Act} {w : World} (A : Act) (W : World) (h : c.wp P (Exit.then (fun a' w' => a' = A ∧ w' = W) (fun _ _ _ => False)) a w) (t : Q .normal A W) : c.wp P Q a w := by
  refine Code.wp_mono (fun e a' w' hq => ?_) h
  cases e with
  | normal => obtain ⟨rfl, rfl⟩ := hq; exact t
  | _ => exact hq.elim
/-- 'x[lo:]'. -/
theorem cut_from (b o n cap lo o' n' c' : Nat) (v : Int) (hv : v = (lo : Int)) (hlo : lo < n) (hn : n ≤ cap) (hc : n ≤ 1000000) (ho : o' = o + lo) (hn' : n' = n - lo) (hc' : c' = cap - lo) (W : World) :
    (Instr.slice 27 (.slice (some ⟨b, o, none⟩) n cap) (some (.int .i64 v)) none none).run Tryd.prog W = .ok (.slice (some ⟨b, o', none⟩) n' c') W := by
  have ht' : Tryd.prog.underlying 27 = some (.slice (Tryd.prog.elem 27)) := by simp [Program.elem, Tryd.underlying27]
  have he : Tryd.prog.elem 27 = 5 := by simp [Program.elem, Tryd.underlying27]
  have e2 : ¬ cap = lo := by omega
  subst ho hn' hc' hv
  rw [run_slice_l W 27 _ _ _ ht' .i64 _ (by omega) (by omega), he, size_u8]
  simp [Result.andThen, sliced, Addr.add_lit, e2]
/-- 'x[:hi]'. -/
theorem cut_upto (b o n cap hi : Nat) (v : Int) (hv : v = (hi : Int)) (hhi : hi ≤ n) (hn : n ≤ cap) (hpos : 0 < cap) (hc : n ≤ 1000000) (W : World) :
    (Instr.slice 27 (.slice (some ⟨b, o, none⟩) n cap) none (some (.int .i64 v)) none).run Tryd.prog W = .ok (.slice (some ⟨b, o, none⟩) hi cap) W := by
  have ht' : Tryd.prog.underlying 27 = some (.slice (Tryd.prog.elem 27)) := by simp [Program.elem, Tryd.underlying27]
  have he : Tryd.prog.elem 27 = 5 := by simp [Program.elem, Tryd.underlying27]
  have e2 : ¬ cap = 0 := by omega
  subst hv
  rw [run_slice_h W 27 _ _ _ ht' .i64 _ (by omega) (by omega), he, size_u8]
  simp [Result.andThen, sliced, Addr.add, e2]
end Go.Proofs.YtfkobamemehkdaaDoor
