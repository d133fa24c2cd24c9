/-
  A row stored into a new block; bytes that came in.
-/
import Derived.Test.YtbacfbdeeogkgaaImRdMap
namespace Go.Proofs.Ytbacfbdeeogkgaa
open Go.RowKit

theorem stored (w : World) (T : TypeId) (z cs : Array Value) : Blo ((w.alloc (.cells z T)).setRow w.heap.size cs) w.heap.size T cs ∧ Below w.heap.size w ((w.alloc (.cells z T)).setRow w.heap.size cs) :=
  ⟨setRow_heap _ w.heap.size _ _ _ _ (blo_laid w T z), below_setRow (sup_en w (.cells z T)) (Nat.le_refl _) _⟩
end Go.Proofs.Ytbacfbdeeogkgaa
