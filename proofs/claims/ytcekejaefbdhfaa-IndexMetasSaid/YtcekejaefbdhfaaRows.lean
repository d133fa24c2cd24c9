/-
  No cell of these rows narrows 'for every input' (looked for: loops, veiled, ifaces, maps, wideKeys, modest, calm, conditions, laid).
  DERIVED. THE GIVEN ROWS OF THIS SEAT. 7 by the template 'for every input the law returns true; each argument reads behind the call as it read before'; 0 by the template 'total and deterministic' (their statements: YtcekejaefbdhfaaTotals.lean).
  GIVEN WITH THE SEED: the statements are not yours to turn. If you find one false, say at which input.
  Laid BY PROGRAM, IN A SANDBOX (cutbox-rows.mjs): the forced cells as the released guide's own fill.sh prints them over the translation 06a0b539b44ef797… (all of the seat's roots in one cut). By AI agents, Wed Nov 11 2026. No macro, syntax, notation, axiom, sorry.
-/
import Derived.Test.YtcekejaefbdhfaaChecked
import GoSem.Claim
import GoSem.ClaimJoined
import GoSem.ClaimMapViews
import Derived.JoinedTies
import Derived.KernelRfl
namespace Go.Proofs.Ytcekejaefbdhfaa
/- THE CELL 'sum', in the pinned program and in every row, IS THE sha256 OF THE DUMP (.gsa) THAT YtcekejaefbdhfaaProg.lean LOADS. Nothing in Lean hashes anything: it is a label: what it is worth is what the hold of that sum in a sandbox is worth. -/
noncomputable def Try.pinned : Pinned := { name := "ytcekejaefbdhfaa", sum := "06a0b539b44ef797dd0351a9d5812473608b88becb6b11f4430cb3736a15649e", checked := Try.checked }
namespace Rows
def none {H : Type} : Left H := { results := [], args := [] }

/-- 'marllaw04.IndexPaths': WHATEVER THE INPUT: true; the input reads as it did. -/
def indexPathsSpec : ChangeSpec := { name := "indexPaths", fn := fun _ => fun
  | [d] => { results := [.lit (.bool true)], args := [d] }
  | _ => none }
def indexPathsRow : OpenClaim := { program := "ytcekejaefbdhfaa", sum := "06a0b539b44ef797dd0351a9d5812473608b88becb6b11f4430cb3736a15649e", func := "marl/marllaw04.IndexPaths", spec := "indexPaths", recurses := true, apart := false }
def IndexPathsSaid : Prop := indexPathsRow.holds Try.pinned (OpenSpec.ofChange indexPathsSpec)

/-- ITS FALSE NEIGHBOUR: 'it returns false'. Refute it at one input. -/
def indexPathsWrong : ChangeSpec := { name := "indexPaths", fn := fun _ => fun
  | [d] => { results := [.lit (.bool false)], args := [d] }
  | _ => none }
def IndexPathsWrongFalsely : Prop := indexPathsRow.holds Try.pinned (OpenSpec.ofChange indexPathsWrong)

/-- 'marllaw04.IndexParents': WHATEVER THE INPUT: true; the input reads as it did. -/
def indexParentsSpec : ChangeSpec := { name := "indexParents", fn := fun _ => fun
  | [d] => { results := [.lit (.bool true)], args := [d] }
  | _ => none }
def indexParentsRow : OpenClaim := { program := "ytcekejaefbdhfaa", sum := "06a0b539b44ef797dd0351a9d5812473608b88becb6b11f4430cb3736a15649e", func := "marl/marllaw04.IndexParents", spec := "indexParents", recurses := true, apart := false }
def IndexParentsSaid : Prop := indexParentsRow.holds Try.pinned (OpenSpec.ofChange indexParentsSpec)

/-- ITS FALSE NEIGHBOUR: 'it returns false'. Refute it at one input. -/
def indexParentsWrong : ChangeSpec := { name := "indexParents", fn := fun _ => fun
  | [d] => { results := [.lit (.bool false)], args := [d] }
  | _ => none }
def IndexParentsWrongFalsely : Prop := indexParentsRow.holds Try.pinned (OpenSpec.ofChange indexParentsWrong)

/-- 'marllaw04.IndexMetas': WHATEVER THE INPUT: true; the input reads as it did. -/
def indexMetasSpec : ChangeSpec := { name := "indexMetas", fn := fun _ => fun
  | [d1, d2] => { results := [.lit (.bool true)], args := [d1, d2] }
  | _ => none }
def indexMetasRow : OpenClaim := { program := "ytcekejaefbdhfaa", sum := "06a0b539b44ef797dd0351a9d5812473608b88becb6b11f4430cb3736a15649e", func := "marl/marllaw04.IndexMetas", spec := "indexMetas", recurses := true, apart := false }
def IndexMetasSaid : Prop := indexMetasRow.holds Try.pinned (OpenSpec.ofChange indexMetasSpec)

/-- ITS FALSE NEIGHBOUR: 'it returns false'. Refute it at one input. -/
def indexMetasWrong : ChangeSpec := { name := "indexMetas", fn := fun _ => fun
  | [d1, d2] => { results := [.lit (.bool false)], args := [d1, d2] }
  | _ => none }
def IndexMetasWrongFalsely : Prop := indexMetasRow.holds Try.pinned (OpenSpec.ofChange indexMetasWrong)

/-- 'marllaw04.IndexOne': WHATEVER THE INPUT: true; the input reads as it did. -/
def indexOneSpec : ChangeSpec := { name := "indexOne", fn := fun _ => fun
  | [d1, d2] => { results := [.lit (.bool true)], args := [d1, d2] }
  | _ => none }
def indexOneRow : OpenClaim := { program := "ytcekejaefbdhfaa", sum := "06a0b539b44ef797dd0351a9d5812473608b88becb6b11f4430cb3736a15649e", func := "marl/marllaw04.IndexOne", spec := "indexOne", apart := false }
def IndexOneSaid : Prop := indexOneRow.holds Try.pinned (OpenSpec.ofChange indexOneSpec)

/-- ITS FALSE NEIGHBOUR: 'it returns false'. Refute it at one input. -/
def indexOneWrong : ChangeSpec := { name := "indexOne", fn := fun _ => fun
  | [d1, d2] => { results := [.lit (.bool false)], args := [d1, d2] }
  | _ => none }
def IndexOneWrongFalsely : Prop := indexOneRow.holds Try.pinned (OpenSpec.ofChange indexOneWrong)

/-- 'marllaw04.IndexAll': WHATEVER THE INPUT: true; the input reads as it did. -/
def indexAllSpec : ChangeSpec := { name := "indexAll", fn := fun _ => fun
  | [d] => { results := [.lit (.bool true)], args := [d] }
  | _ => none }
def indexAllRow : OpenClaim := { program := "ytcekejaefbdhfaa", sum := "06a0b539b44ef797dd0351a9d5812473608b88becb6b11f4430cb3736a15649e", func := "marl/marllaw04.IndexAll", spec := "indexAll", apart := false }
def IndexAllSaid : Prop := indexAllRow.holds Try.pinned (OpenSpec.ofChange indexAllSpec)

/-- ITS FALSE NEIGHBOUR: 'it returns false'. Refute it at one input. -/
def indexAllWrong : ChangeSpec := { name := "indexAll", fn := fun _ => fun
  | [d] => { results := [.lit (.bool false)], args := [d] }
  | _ => none }
def IndexAllWrongFalsely : Prop := indexAllRow.holds Try.pinned (OpenSpec.ofChange indexAllWrong)

/-- 'marllaw04.IndexFalls': WHATEVER THE INPUT: true; the input reads as it did. -/
def indexFallsSpec : ChangeSpec := { name := "indexFalls", fn := fun _ => fun
  | [d1, d2] => { results := [.lit (.bool true)], args := [d1, d2] }
  | _ => none }
def indexFallsRow : OpenClaim := { program := "ytcekejaefbdhfaa", sum := "06a0b539b44ef797dd0351a9d5812473608b88becb6b11f4430cb3736a15649e", func := "marl/marllaw04.IndexFalls", spec := "indexFalls", apart := false }
def IndexFallsSaid : Prop := indexFallsRow.holds Try.pinned (OpenSpec.ofChange indexFallsSpec)

/-- ITS FALSE NEIGHBOUR: 'it returns false'. Refute it at one input. -/
def indexFallsWrong : ChangeSpec := { name := "indexFalls", fn := fun _ => fun
  | [d1, d2] => { results := [.lit (.bool false)], args := [d1, d2] }
  | _ => none }
def IndexFallsWrongFalsely : Prop := indexFallsRow.holds Try.pinned (OpenSpec.ofChange indexFallsWrong)

/-- 'marllaw04.IndexEvery': WHATEVER THE INPUT: true; the input reads as it did. -/
def indexEverySpec : ChangeSpec := { name := "indexEvery", fn := fun _ => fun
  | [d1, d2] => { results := [.lit (.bool true)], args := [d1, d2] }
  | _ => none }
def indexEveryRow : OpenClaim := { program := "ytcekejaefbdhfaa", sum := "06a0b539b44ef797dd0351a9d5812473608b88becb6b11f4430cb3736a15649e", func := "marl/marllaw04.IndexEvery", spec := "indexEvery", apart := false }
def IndexEverySaid : Prop := indexEveryRow.holds Try.pinned (OpenSpec.ofChange indexEverySpec)

/-- ITS FALSE NEIGHBOUR: 'it returns false'. Refute it at one input. -/
def indexEveryWrong : ChangeSpec := { name := "indexEvery", fn := fun _ => fun
  | [d1, d2] => { results := [.lit (.bool false)], args := [d1, d2] }
  | _ => none }
def IndexEveryWrongFalsely : Prop := indexEveryRow.holds Try.pinned (OpenSpec.ofChange indexEveryWrong)

/- THE SECOND FORM. 'bulk': how many values and letters a reading holds, each counted each time it is reached (what is shared counts as often as it is met; a slice's spare places count too). A statement '..UptoSaid' is the law's where the arguments, and the package variables that the reading takes, are together of bulk at most 1048576: NARROWER than '..Said'. Prove '..Said' where nothing that the law and all that it calls make is longer than what came in: it says more and counts as full. Else prove '..UptoSaid'. A law counts once. -/
mutual
def uptoBulk {H : Type} : DataW H → Nat
  | .lit (.string bytes) => bytes.length + 1
  | .lit _ => 1
  | .nil => 1
  | .ptr d => uptoBulk d + 1
  | .slice elems spare => uptoBulkAll elems + uptoBulkAll spare + 1
  | .agg parts => uptoBulkAll parts + 1
  | .iface _ d => uptoBulk d + 1
  | .map entries => uptoBulkEntries entries + 1
  | .held _ => 1
def uptoBulkAll {H : Type} : List (DataW H) → Nat
  | [] => 0
  | d :: r => uptoBulk d + uptoBulkAll r
def uptoBulkEntries {H : Type} : List (Lit × DataW H) → Nat
  | [] => 0
  | x :: r => uptoBulkEntry x + uptoBulkEntries r
def uptoBulkEntry {H : Type} : Lit × DataW H → Nat
  | (.string bytes, d) => bytes.length + uptoBulk d + 1
  | (_, d) => uptoBulk d + 1
 end
def uptoSmall : (H : Type) → List (DataW H) → Bool := fun _ ds => decide (uptoBulkAll ds ≤ 1048576)
def OpenSpec.upto (s : _root_.Go.ChangeSpec) : _root_.Go.OpenSpec := { _root_.Go.OpenSpec.ofChange s with cond := some uptoSmall }

/-- 'marllaw04.IndexPaths', WHERE WHAT IT READS IS OF BULK AT MOST 1048576: true; the input reads as it did. -/
def indexPathsUptoRow : OpenClaim := { program := "ytcekejaefbdhfaa", sum := "06a0b539b44ef797dd0351a9d5812473608b88becb6b11f4430cb3736a15649e", func := "marl/marllaw04.IndexPaths", spec := "indexPaths", recurses := true, apart := false, narrowed := true }
def IndexPathsUptoSaid : Prop := indexPathsUptoRow.holds Try.pinned (OpenSpec.upto indexPathsSpec)

/-- 'marllaw04.IndexParents', WHERE WHAT IT READS IS OF BULK AT MOST 1048576: true; the input reads as it did. -/
def indexParentsUptoRow : OpenClaim := { program := "ytcekejaefbdhfaa", sum := "06a0b539b44ef797dd0351a9d5812473608b88becb6b11f4430cb3736a15649e", func := "marl/marllaw04.IndexParents", spec := "indexParents", recurses := true, apart := false, narrowed := true }
def IndexParentsUptoSaid : Prop := indexParentsUptoRow.holds Try.pinned (OpenSpec.upto indexParentsSpec)

/-- 'marllaw04.IndexMetas', WHERE WHAT IT READS IS OF BULK AT MOST 1048576: true; the input reads as it did. -/
def indexMetasUptoRow : OpenClaim := { program := "ytcekejaefbdhfaa", sum := "06a0b539b44ef797dd0351a9d5812473608b88becb6b11f4430cb3736a15649e", func := "marl/marllaw04.IndexMetas", spec := "indexMetas", recurses := true, apart := false, narrowed := true }
def IndexMetasUptoSaid : Prop := indexMetasUptoRow.holds Try.pinned (OpenSpec.upto indexMetasSpec)

/-- 'marllaw04.IndexOne', WHERE WHAT IT READS IS OF BULK AT MOST 1048576: true; the input reads as it did. -/
def indexOneUptoRow : OpenClaim := { program := "ytcekejaefbdhfaa", sum := "06a0b539b44ef797dd0351a9d5812473608b88becb6b11f4430cb3736a15649e", func := "marl/marllaw04.IndexOne", spec := "indexOne", apart := false, narrowed := true }
def IndexOneUptoSaid : Prop := indexOneUptoRow.holds Try.pinned (OpenSpec.upto indexOneSpec)

/-- 'marllaw04.IndexAll', WHERE WHAT IT READS IS OF BULK AT MOST 1048576: true; the input reads as it did. -/
def indexAllUptoRow : OpenClaim := { program := "ytcekejaefbdhfaa", sum := "06a0b539b44ef797dd0351a9d5812473608b88becb6b11f4430cb3736a15649e", func := "marl/marllaw04.IndexAll", spec := "indexAll", apart := false, narrowed := true }
def IndexAllUptoSaid : Prop := indexAllUptoRow.holds Try.pinned (OpenSpec.upto indexAllSpec)

/-- 'marllaw04.IndexFalls', WHERE WHAT IT READS IS OF BULK AT MOST 1048576: true; the input reads as it did. -/
def indexFallsUptoRow : OpenClaim := { program := "ytcekejaefbdhfaa", sum := "06a0b539b44ef797dd0351a9d5812473608b88becb6b11f4430cb3736a15649e", func := "marl/marllaw04.IndexFalls", spec := "indexFalls", apart := false, narrowed := true }
def IndexFallsUptoSaid : Prop := indexFallsUptoRow.holds Try.pinned (OpenSpec.upto indexFallsSpec)

/-- 'marllaw04.IndexEvery', WHERE WHAT IT READS IS OF BULK AT MOST 1048576: true; the input reads as it did. -/
def indexEveryUptoRow : OpenClaim := { program := "ytcekejaefbdhfaa", sum := "06a0b539b44ef797dd0351a9d5812473608b88becb6b11f4430cb3736a15649e", func := "marl/marllaw04.IndexEvery", spec := "indexEvery", apart := false, narrowed := true }
def IndexEveryUptoSaid : Prop := indexEveryUptoRow.holds Try.pinned (OpenSpec.upto indexEverySpec)

end Rows
end Go.Proofs.Ytcekejaefbdhfaa
