/-
  Pack: a piece's Blocks.
-/
import Derived.Test.YtonlhkhjdnaojaaPcMem
import Derived.Deep.QuietTactic
import Derived.BigQuiet
import Derived.StillTailTactics
namespace Go.Proofs.Ytonlhkhjdnaojaa
open Go.RowKit

section
variable {w : World} {l : List Fi} (fa : Option Addr) (fn fc : Nat) (ia : Option Addr) (inn ic : Nat)
/-- A piece's. -/
theorem blocks_any (b : Bool) (hF : Fis w fa l) (hn : fn = l.length) (hs : szF l ≤ 1000000000) (hi : inn ≤ 1000000000) :
    Calls Try.prog 17 #[.agg #[.bool b, .slice fa fn fc, .slice ia inn ic]] w fun en w' => en = .returned (.int .i64 ((2 + inn + blF l : Nat) : Int)) ∧ Below w.heap.size w w' := by
  have hb := sup_pc w (.cells #[.bool b, .slice fa fn fc, .slice ia inn ic] PC)
  have HC := Lib.hid (sblocks_any 0 0 0 0 0 fa fn fc ia inn ic (hF.later hb) hn hs hi)
  have HB := Lib.hid hb
  clear hF hn hs hi hb
  go_enter Try.func17, Try.ntmps17
  go_wp2_with fail
  refine HC.out.mono ?_
  rintro en w2 ⟨rfl, h2⟩
  have HB2 := Lib.hid (HB.out.trans (h2.mono HB.out.size))
  clear h2 HB HC
  go_wp2
  go_ret
  exact ⟨rfl, HB2.out⟩
end
end Go.Proofs.Ytonlhkhjdnaojaa
