/-
  The document's array of map entries.
-/
import Derived.Test.YtbacfbdeeogkgaaImSame
namespace Go.Proofs.Ytbacfbdeeogkgaa
open Go.RowKit

abbrev R8T := 64
theorem info_r8 (F G : Nat → Int) : (Try.prog.info? R8T).map (·.size) = some (cells16 F G).size := by
  show _ = some 16
  kernel_rfl
end Go.Proofs.Ytbacfbdeeogkgaa
