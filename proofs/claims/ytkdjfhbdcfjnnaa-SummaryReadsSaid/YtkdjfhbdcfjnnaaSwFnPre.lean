/-
  What the document's list of blocks of pointers is told in: a block's path in numbers.
-/
import Derived.Test.YtkdjfhbdcfjnnaaIxLev
import Derived.Test.YtkdjfhbdcfjnnaaMem
import Derived.Deep.RegionHeld3
import Derived.Deep.RegionLaw
import Derived.Deep.DeepCutAuto
import Derived.KernelRfl
import Derived.OpenShut
namespace Go.Proofs.Ytkdjfhbdcfjnnaa
open Go.RowKit

def numM (f lv : Int) : Int := if lv = 0 then f else -f - (lv - 1)
def stepsM : Nat → Int → Int → Int → List (Int × Int)
  | 0, _, _, _ => []
  | k + 1, f, F, L => (numM F L, (f - F) / spanM (L - 1)) :: stepsM k f (F + (f - F) / spanM (L - 1) * spanM (L - 1)) (L - 1)
def pathM (f lv : Int) : List (Int × Int) := stepsM (rLev f - lv).toNat f (rFst f) (rLev f)
def metasM (f lv : Int) : List Int := (pathM f lv).map (·.1)
def slotsM (f lv : Int) : List Int := (pathM f lv).map (·.2)
theorem info_int : (Try.prog.info? 3).map (fun i => (i.zero, i.size, i.bytes)) = some (some (.int .i64 0), 1, 8) := by kernel_rfl
end Go.Proofs.Ytkdjfhbdcfjnnaa
