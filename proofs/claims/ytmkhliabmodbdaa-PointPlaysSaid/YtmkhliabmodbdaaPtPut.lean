/-
  The walks of points: put, get.
-/
import Derived.Test.YtmkhliabmodbdaaPtSmall
import Derived.Test.YtmkhliabmodbdaaSumTellsMath
import Derived.Test.YtmkhliabmodbdaaDkRead
import Derived.Deep.QuietTactic
import Derived.BigQuiet
namespace Go.Proofs.Ytmkhliabmodbdaa
open Go.RowKit

theorem ptd (w : World) (q : Nat) : Below w.heap.size w (w.drewN q) := ⟨rfl, rfl, rfl, Nat.le_refl _, fun _ _ => rfl⟩
theorem or_sum (a b k : Nat) (ha : a < 2 ^ k) : a ||| b * 2 ^ k = a + b * 2 ^ k := by
  rw [Nat.or_comm, ← Nat.shiftLeft_eq, ← Nat.shiftLeft_add_eq_or_of_lt ha, Nat.add_comm]
theorem or16 (a b : Nat) (ha : a < 256) (hb : b < 256) : bits .or .i64 (a : Int) ((b : Int) * 256) = ((a + b * 256 : Nat) : Int) := by
  have hx : a ||| b * 256 < 2 ^ 63 := Nat.or_lt_two_pow (by omega) (by omega)
  have h1 : a ||| b * 256 = a + b * 256 := or_sum a b 8 ha
  have h2 : bits .or .i64 (a : Int) ((b * 256 : Nat) : Int) = ((a ||| b * 256 : Nat) : Int) := by
    show IntKind.i64.wrap ((BitVec.ofInt 64 (a : Int) ||| BitVec.ofInt 64 ((b * 256 : Nat) : Int)).toNat : Int) = _
    rw [BitVec.toNat_or, ofInt_u64 a (by omega), ofInt_u64 (b * 256) (by omega), IntKind.wrap_i64]
    omega
  rw [h1] at h2
  simpa using h2
theorem bset {w : World} {g : Nat} {l : List Nat} (h : BBlk w g l) (k v : Nat) (hv : v < 256) : BBlk (w.setCell ⟨g, k, none⟩ (.int .u8 (v : Int))) g (l.set k v) := ⟨by
  have := h.1.put k (.int .u8 (v : Int))
  rw [List.setIfInBounds_toArray] at this
  rwa [show (cellsB l).set k (.int .u8 (v : Int)) = cellsB (l.set k v) by simp [cellsB, List.map_set]] at this, by rw [List.length_set]; exact h.2.1, fun x hx => by
  rcases List.mem_or_eq_of_mem_set hx with h' | h'
  · exact h.2.2 x h'
  · rw [h']; exact hv⟩
theorem bcell {w : World} {g : Nat} {l : List Nat} (h : BBlk w g l) {k : Nat} (hk : k < 64) : w.cell? ⟨g, k, none⟩ = some (.int .u8 (l.getD k 0 : Nat)) := by
  rw [h.1.cell, List.getElem?_toArray, cellsB_get _ _ (by rw [h.2.1]; exact hk)]
set_option maxHeartbeats 1000000 in
theorem put_any (v g k n cap : Nat) (l : List Nat) (w : World) (hv : v < 65536) (hk : k + 1 < 64) (hn : 2 ≤ n) (hn2 : n ≤ 1000) (h : BBlk w g l) :
    Calls Try.prog 49 #[.slice (some ⟨g, k, none⟩) n cap, .int .i64 v] w fun e w' => e = .returned (.tuple #[]) ∧ BBlk w' g ((l.set k (v % 256)).set (k + 1) (v / 256)) ∧ Out (fun j => j = g) w w' := by
  have HH := Lib.hid (bset (bset h k (v % 256) (by omega)) (k + 1) (v / 256) (by omega))
  have HO : Hid (Out (fun j => j = g) w ((w.setCell ⟨g, k, none⟩ (.int .u8 ((v % 256 : Nat) : Int))).setCell ⟨g, k + 1, none⟩ (.int .u8 ((v / 256 : Nat) : Int)))) :=
    (out_put (X := fun j => j = g) w ⟨g, k, none⟩ _ rfl).trans (out_put (X := fun j => j = g) _ ⟨g, k + 1, none⟩ _ rfl) (fun _ _ h => h)
  have c0 := bcell h (k := k) (by omega)
  have c1 := bcell h hk
  have f0 := h.1.frozen k
  have f1 := h.1.frozen (k + 1)
  clear h
  generalize l.getD k 0 = x0 at *
  generalize l.getD (k + 1) 0 = x1 at *
  go_enter Try.func49, Try.ntmps49
  go_wp2
  go_end0
  have e1 : (v : Int) / 256 % 256 = (v : Int) / 256 := by omega
  first
    | exact ⟨rfl, HH.out, HO.out⟩
    | (have hh := HH.out; have ho := HO.out; simp only [Int.natCast_emod, Int.natCast_ediv] at hh ho; trace_state; exact ⟨rfl, by simpa [e1] using hh, by simpa [e1] using ho⟩)
set_option maxHeartbeats 1000000 in
theorem get_any (x0 x1 g k n cap : Nat) (w : World) (hn : 2 ≤ n) (hn2 : n ≤ 1000) (h0 : x0 < 256) (h1 : x1 < 256) (c0 : w.cell? ⟨g, k, none⟩ = some (.int .u8 (x0 : Int))) (c1 : w.cell? ⟨g, k + 1, none⟩ = some (.int .u8 (x1 : Int))) :
    Calls Try.prog 51 #[.slice (some ⟨g, k, none⟩) n cap] w fun e w' => e = .returned (.int .i64 ((x0 + x1 * 256 : Nat) : Int)) ∧ Below w.heap.size w w' := by
  have hor := or16 x0 x1 h0 h1
  have n1 : (1 : Int) < (n : Int) := by omega
  have n0 : (0 : Int) < (n : Int) := by omega
  have HOr := Lib.hid hor
  clear hor
  go_enter Try.func51, Try.ntmps51
  go_wp2_with fail
  go_quiet (fail)
  go_wp2
  go_ret
  refine ⟨?_, (Below.refl _ _).trans (ptd _ nq)⟩
  show Ending.returned (Value.int .i64 (bits BinOp.or IntKind.i64 (x0 : Int) ((x1 : Int) * 256))) = _
  rw [HOr.out]
end Go.Proofs.Ytmkhliabmodbdaa
