/-
  No cell of these rows narrows 'for every input' (looked for: loops, veiled, ifaces, maps, wideKeys, modest, calm, conditions, laid).
  DERIVED. THE GIVEN ROWS OF THIS SEAT. 6 by the template 'for every input the law returns true; each argument reads behind the call as it read before'; 0 by the template 'total and deterministic' (their statements: YtnlmpnpelnmpeaaTotals.lean).
  GIVEN WITH THE SEED: the statements are not yours to turn. If you find one false, say at which input.
  Laid BY PROGRAM, IN A SANDBOX (cutbox-rows.mjs): the forced cells as the released guide's own fill.sh prints them over the translation 3c7f6116d179fb9e… (all of the seat's roots in one cut). By AI agents, Wed Nov 11 2026. No macro, syntax, notation, axiom, sorry.
-/
import Derived.Test.YtnlmpnpelnmpeaaChecked
import GoSem.Claim
import GoSem.ClaimJoined
import GoSem.ClaimMapViews
import Derived.JoinedTies
import Derived.KernelRfl
namespace Go.Proofs.Ytnlmpnpelnmpeaa
/- THE CELL 'sum', in the pinned program and in every row, IS THE sha256 OF THE DUMP (.gsa) THAT YtnlmpnpelnmpeaaProg.lean LOADS. Nothing in Lean hashes anything: it is a label: what it is worth is what the hold of that sum in a sandbox is worth. -/
noncomputable def Try.pinned : Pinned := { name := "ytnlmpnpelnmpeaa", sum := "3c7f6116d179fb9ed5fcc8a510592ab614a962397cc4afc6e987a630698aa03a", checked := Try.checked }
namespace Rows
def none {H : Type} : Left H := { results := [], args := [] }

/-- 'marllaw16.FileBack': WHATEVER THE INPUT: true; the input reads as it did. -/
def fileBackSpec : ChangeSpec := { name := "fileBack", fn := fun _ => fun
  | [d] => { results := [.lit (.bool true)], args := [d] }
  | _ => none }
def fileBackRow : OpenClaim := { program := "ytnlmpnpelnmpeaa", sum := "3c7f6116d179fb9ed5fcc8a510592ab614a962397cc4afc6e987a630698aa03a", func := "marl/marllaw16.FileBack", spec := "fileBack", unfollowed := true, recurses := true, apart := false }
def FileBackSaid : Prop := fileBackRow.holds Try.pinned (OpenSpec.ofChange fileBackSpec)

/-- ITS FALSE NEIGHBOUR: 'it returns false'. Refute it at one input. -/
def fileBackWrong : ChangeSpec := { name := "fileBack", fn := fun _ => fun
  | [d] => { results := [.lit (.bool false)], args := [d] }
  | _ => none }
def FileBackWrongFalsely : Prop := fileBackRow.holds Try.pinned (OpenSpec.ofChange fileBackWrong)

/-- 'marllaw16.FileLoads': WHATEVER THE INPUT: true; the input reads as it did. -/
def fileLoadsSpec : ChangeSpec := { name := "fileLoads", fn := fun _ => fun
  | [d1, d2, d3] => { results := [.lit (.bool true)], args := [d1, d2, d3] }
  | _ => none }
def fileLoadsRow : OpenClaim := { program := "ytnlmpnpelnmpeaa", sum := "3c7f6116d179fb9ed5fcc8a510592ab614a962397cc4afc6e987a630698aa03a", func := "marl/marllaw16.FileLoads", spec := "fileLoads", unfollowed := true, recurses := true, apart := false }
def FileLoadsSaid : Prop := fileLoadsRow.holds Try.pinned (OpenSpec.ofChange fileLoadsSpec)

/-- ITS FALSE NEIGHBOUR: 'it returns false'. Refute it at one input. -/
def fileLoadsWrong : ChangeSpec := { name := "fileLoads", fn := fun _ => fun
  | [d1, d2, d3] => { results := [.lit (.bool false)], args := [d1, d2, d3] }
  | _ => none }
def FileLoadsWrongFalsely : Prop := fileLoadsRow.holds Try.pinned (OpenSpec.ofChange fileLoadsWrong)

/-- 'marllaw16.FileOnce': WHATEVER THE INPUT: true; the input reads as it did. -/
def fileOnceSpec : ChangeSpec := { name := "fileOnce", fn := fun _ => fun
  | [d] => { results := [.lit (.bool true)], args := [d] }
  | _ => none }
def fileOnceRow : OpenClaim := { program := "ytnlmpnpelnmpeaa", sum := "3c7f6116d179fb9ed5fcc8a510592ab614a962397cc4afc6e987a630698aa03a", func := "marl/marllaw16.FileOnce", spec := "fileOnce", recurses := true, apart := false }
def FileOnceSaid : Prop := fileOnceRow.holds Try.pinned (OpenSpec.ofChange fileOnceSpec)

/-- ITS FALSE NEIGHBOUR: 'it returns false'. Refute it at one input. -/
def fileOnceWrong : ChangeSpec := { name := "fileOnce", fn := fun _ => fun
  | [d] => { results := [.lit (.bool false)], args := [d] }
  | _ => none }
def FileOnceWrongFalsely : Prop := fileOnceRow.holds Try.pinned (OpenSpec.ofChange fileOnceWrong)

/-- 'marllaw16.FileNeeds': WHATEVER THE INPUT: true; the input reads as it did. -/
def fileNeedsSpec : ChangeSpec := { name := "fileNeeds", fn := fun _ => fun
  | [d1, d2] => { results := [.lit (.bool true)], args := [d1, d2] }
  | _ => none }
def fileNeedsRow : OpenClaim := { program := "ytnlmpnpelnmpeaa", sum := "3c7f6116d179fb9ed5fcc8a510592ab614a962397cc4afc6e987a630698aa03a", func := "marl/marllaw16.FileNeeds", spec := "fileNeeds", recurses := true, apart := false }
def FileNeedsSaid : Prop := fileNeedsRow.holds Try.pinned (OpenSpec.ofChange fileNeedsSpec)

/-- ITS FALSE NEIGHBOUR: 'it returns false'. Refute it at one input. -/
def fileNeedsWrong : ChangeSpec := { name := "fileNeeds", fn := fun _ => fun
  | [d1, d2] => { results := [.lit (.bool false)], args := [d1, d2] }
  | _ => none }
def FileNeedsWrongFalsely : Prop := fileNeedsRow.holds Try.pinned (OpenSpec.ofChange fileNeedsWrong)

/-- 'marllaw16.FileMoves': WHATEVER THE INPUT: true; the input reads as it did. -/
def fileMovesSpec : ChangeSpec := { name := "fileMoves", fn := fun _ => fun
  | [d1, d2, d3] => { results := [.lit (.bool true)], args := [d1, d2, d3] }
  | _ => none }
def fileMovesRow : OpenClaim := { program := "ytnlmpnpelnmpeaa", sum := "3c7f6116d179fb9ed5fcc8a510592ab614a962397cc4afc6e987a630698aa03a", func := "marl/marllaw16.FileMoves", spec := "fileMoves", recurses := true, apart := false }
def FileMovesSaid : Prop := fileMovesRow.holds Try.pinned (OpenSpec.ofChange fileMovesSpec)

/-- ITS FALSE NEIGHBOUR: 'it returns false'. Refute it at one input. -/
def fileMovesWrong : ChangeSpec := { name := "fileMoves", fn := fun _ => fun
  | [d1, d2, d3] => { results := [.lit (.bool false)], args := [d1, d2, d3] }
  | _ => none }
def FileMovesWrongFalsely : Prop := fileMovesRow.holds Try.pinned (OpenSpec.ofChange fileMovesWrong)

/-- 'marllaw16.FileCuts': WHATEVER THE INPUT: true; the input reads as it did. -/
def fileCutsSpec : ChangeSpec := { name := "fileCuts", fn := fun _ => fun
  | [d1, d2] => { results := [.lit (.bool true)], args := [d1, d2] }
  | _ => none }
def fileCutsRow : OpenClaim := { program := "ytnlmpnpelnmpeaa", sum := "3c7f6116d179fb9ed5fcc8a510592ab614a962397cc4afc6e987a630698aa03a", func := "marl/marllaw16.FileCuts", spec := "fileCuts", recurses := true, apart := false }
def FileCutsSaid : Prop := fileCutsRow.holds Try.pinned (OpenSpec.ofChange fileCutsSpec)

/-- ITS FALSE NEIGHBOUR: 'it returns false'. Refute it at one input. -/
def fileCutsWrong : ChangeSpec := { name := "fileCuts", fn := fun _ => fun
  | [d1, d2] => { results := [.lit (.bool false)], args := [d1, d2] }
  | _ => none }
def FileCutsWrongFalsely : Prop := fileCutsRow.holds Try.pinned (OpenSpec.ofChange fileCutsWrong)

/- THE SECOND FORM. 'bulk': how many values and letters a reading holds, each counted each time it is reached (what is shared counts as often as it is met; a slice's spare places count too). A statement '..UptoSaid' is the law's where the arguments, and the package variables that the reading takes, are together of bulk at most 1048576: NARROWER than '..Said'. Prove '..Said' where nothing that the law and all that it calls make is longer than what came in: it says more and counts as full. Else prove '..UptoSaid'. A law counts once. -/
mutual
def uptoBulk {H : Type} : DataW H → Nat
  | .lit (.string bytes) => bytes.length + 1
  | .lit _ => 1
  | .nil => 1
  | .ptr d => uptoBulk d + 1
  | .slice elems spare => uptoBulkAll elems + uptoBulkAll spare + 1
  | .agg parts => uptoBulkAll parts + 1
  | .iface _ d => uptoBulk d + 1
  | .map entries => uptoBulkEntries entries + 1
  | .held _ => 1
def uptoBulkAll {H : Type} : List (DataW H) → Nat
  | [] => 0
  | d :: r => uptoBulk d + uptoBulkAll r
def uptoBulkEntries {H : Type} : List (Lit × DataW H) → Nat
  | [] => 0
  | x :: r => uptoBulkEntry x + uptoBulkEntries r
def uptoBulkEntry {H : Type} : Lit × DataW H → Nat
  | (.string bytes, d) => bytes.length + uptoBulk d + 1
  | (_, d) => uptoBulk d + 1
 end
def uptoSmall : (H : Type) → List (DataW H) → Bool := fun _ ds => decide (uptoBulkAll ds ≤ 1048576)
def OpenSpec.upto (s : _root_.Go.ChangeSpec) : _root_.Go.OpenSpec := { _root_.Go.OpenSpec.ofChange s with cond := some uptoSmall }

/-- 'marllaw16.FileBack', WHERE WHAT IT READS IS OF BULK AT MOST 1048576: true; the input reads as it did. -/
def fileBackUptoRow : OpenClaim := { program := "ytnlmpnpelnmpeaa", sum := "3c7f6116d179fb9ed5fcc8a510592ab614a962397cc4afc6e987a630698aa03a", func := "marl/marllaw16.FileBack", spec := "fileBack", unfollowed := true, recurses := true, apart := false, narrowed := true }
def FileBackUptoSaid : Prop := fileBackUptoRow.holds Try.pinned (OpenSpec.upto fileBackSpec)

/-- 'marllaw16.FileLoads', WHERE WHAT IT READS IS OF BULK AT MOST 1048576: true; the input reads as it did. -/
def fileLoadsUptoRow : OpenClaim := { program := "ytnlmpnpelnmpeaa", sum := "3c7f6116d179fb9ed5fcc8a510592ab614a962397cc4afc6e987a630698aa03a", func := "marl/marllaw16.FileLoads", spec := "fileLoads", unfollowed := true, recurses := true, apart := false, narrowed := true }
def FileLoadsUptoSaid : Prop := fileLoadsUptoRow.holds Try.pinned (OpenSpec.upto fileLoadsSpec)

/-- 'marllaw16.FileOnce', WHERE WHAT IT READS IS OF BULK AT MOST 1048576: true; the input reads as it did. -/
def fileOnceUptoRow : OpenClaim := { program := "ytnlmpnpelnmpeaa", sum := "3c7f6116d179fb9ed5fcc8a510592ab614a962397cc4afc6e987a630698aa03a", func := "marl/marllaw16.FileOnce", spec := "fileOnce", recurses := true, apart := false, narrowed := true }
def FileOnceUptoSaid : Prop := fileOnceUptoRow.holds Try.pinned (OpenSpec.upto fileOnceSpec)

/-- 'marllaw16.FileNeeds', WHERE WHAT IT READS IS OF BULK AT MOST 1048576: true; the input reads as it did. -/
def fileNeedsUptoRow : OpenClaim := { program := "ytnlmpnpelnmpeaa", sum := "3c7f6116d179fb9ed5fcc8a510592ab614a962397cc4afc6e987a630698aa03a", func := "marl/marllaw16.FileNeeds", spec := "fileNeeds", recurses := true, apart := false, narrowed := true }
def FileNeedsUptoSaid : Prop := fileNeedsUptoRow.holds Try.pinned (OpenSpec.upto fileNeedsSpec)

/-- 'marllaw16.FileMoves', WHERE WHAT IT READS IS OF BULK AT MOST 1048576: true; the input reads as it did. -/
def fileMovesUptoRow : OpenClaim := { program := "ytnlmpnpelnmpeaa", sum := "3c7f6116d179fb9ed5fcc8a510592ab614a962397cc4afc6e987a630698aa03a", func := "marl/marllaw16.FileMoves", spec := "fileMoves", recurses := true, apart := false, narrowed := true }
def FileMovesUptoSaid : Prop := fileMovesUptoRow.holds Try.pinned (OpenSpec.upto fileMovesSpec)

/-- 'marllaw16.FileCuts', WHERE WHAT IT READS IS OF BULK AT MOST 1048576: true; the input reads as it did. -/
def fileCutsUptoRow : OpenClaim := { program := "ytnlmpnpelnmpeaa", sum := "3c7f6116d179fb9ed5fcc8a510592ab614a962397cc4afc6e987a630698aa03a", func := "marl/marllaw16.FileCuts", spec := "fileCuts", recurses := true, apart := false, narrowed := true }
def FileCutsUptoSaid : Prop := fileCutsUptoRow.holds Try.pinned (OpenSpec.upto fileCutsSpec)

end Rows
end Go.Proofs.Ytnlmpnpelnmpeaa
