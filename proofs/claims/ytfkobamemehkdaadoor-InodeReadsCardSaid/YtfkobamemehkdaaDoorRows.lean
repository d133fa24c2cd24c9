/-
  NARROWER THAN 'FOR EVERY INPUT', by the rows' own cells (each row's printed sentence says how): InodeWrites: laid · InodeReads: laid · InodePointers: laid · InodeBlocks: laid · InodeSealed: laid · InodeOne: laid · InodeLists: laid.
  DERIVED. THE GIVEN ROWS OF THIS SEAT. 7 by the template 'for every input the law returns true; each argument reads behind the call as it read before'; 0 by the template 'total and deterministic' (their statements: YtfkobamemehkdaaDoorTotals.lean).
  GIVEN WITH THE SEED: the statements are not yours to turn. If you find one false, say at which input.
  Laid BY PROGRAM, IN A SANDBOX (cutbox-rows.mjs): the forced cells as the released guide's own fill.sh prints them over the translation a2b9f40256a5fd8b… (all of the seat's roots in one cut). By AI agents, Wed Nov 11 2026. No macro, syntax, notation, axiom, sorry.
-/
import Derived.Test.YtfkobamemehkdaaDoorChecked
import GoSem.Claim
import GoSem.ClaimJoined
import GoSem.ClaimMapViews
import Derived.JoinedTies
import Derived.KernelRfl
namespace Go.Proofs.YtfkobamemehkdaaDoor
/- THE CELL 'sum', in the pinned program and in every row, IS THE sha256 OF THE DUMP (.gsa) THAT YtfkobamemehkdaaDoorProg.lean LOADS. Nothing in Lean hashes anything: it is a label: what it is worth is what the hold of that sum in a sandbox is worth. -/
noncomputable def Tryd.pinned : Pinned := { name := "ytfkobamemehkdaadoor", sum := "a2b9f40256a5fd8b7c88819a30c66cc78b6ed87163ed756a7dd322ba995d2041", checked := Tryd.checked }
namespace Rows
def none {H : Type} : Left H := { results := [], args := [] }

/- WHAT THE LISTED PACKAGE-LEVEL VARIABLES READ AS WHEN THE CALL BEGINS. Each datum BY PROGRAM (the guide's laid-datum.mjs) off the statement by which the dump's own 'gosem.cut.vars' lays the variable. In a bare row this is a premise. The card (YtfkobamemehkdaaDoorCards.lean) ties it to the program's text. -/
def laid_marl_sum_ahead {H : Type} : DataW H := .agg [.lit (.int .u32 0), .lit (.int .u32 498536548), .lit (.int .u32 997073096), .lit (.int .u32 651767980), .lit (.int .u32 1994146192), .lit (.int .u32 1802195444), .lit (.int .u32 1303535960), .lit (.int .u32 1342533948), .lit (.int .u32 3988292384), .lit (.int .u32 4027552580), .lit (.int .u32 3604390888), .lit (.int .u32 3412177804), .lit (.int .u32 2607071920), .lit (.int .u32 2262029012), .lit (.int .u32 2685067896), .lit (.int .u32 3183342108)]

/-- 'marllaw05.InodeWrites': WHATEVER THE INPUT: true; the input reads as it did. -/
def inodeWritesSpec : ChangeSpec := { name := "inodeWrites", fn := fun _ => fun
  | [d] => { results := [.lit (.bool true)], args := [d] }
  | _ => none }
def inodeWritesRow : OpenClaim := { program := "ytfkobamemehkdaadoor", sum := "a2b9f40256a5fd8b7c88819a30c66cc78b6ed87163ed756a7dd322ba995d2041", func := "marl/marllaw05.InodeWrites", spec := "inodeWrites", named := ["marl/sum.ahead"], apart := false, laid := [("marl/sum.ahead", laid_marl_sum_ahead)] }
def InodeWritesSaid : Prop := inodeWritesRow.holds Tryd.pinned (OpenSpec.ofChange inodeWritesSpec)

/-- ITS FALSE NEIGHBOUR: 'it returns false'. Refute it at one input. -/
def inodeWritesWrong : ChangeSpec := { name := "inodeWrites", fn := fun _ => fun
  | [d] => { results := [.lit (.bool false)], args := [d] }
  | _ => none }
def InodeWritesWrongFalsely : Prop := inodeWritesRow.holds Tryd.pinned (OpenSpec.ofChange inodeWritesWrong)

/-- 'marllaw05.InodeReads': WHATEVER THE INPUT: true; the input reads as it did. -/
def inodeReadsSpec : ChangeSpec := { name := "inodeReads", fn := fun _ => fun
  | [d] => { results := [.lit (.bool true)], args := [d] }
  | _ => none }
def inodeReadsRow : OpenClaim := { program := "ytfkobamemehkdaadoor", sum := "a2b9f40256a5fd8b7c88819a30c66cc78b6ed87163ed756a7dd322ba995d2041", func := "marl/marllaw05.InodeReads", spec := "inodeReads", named := ["marl/sum.ahead"], apart := false, laid := [("marl/sum.ahead", laid_marl_sum_ahead)] }
def InodeReadsSaid : Prop := inodeReadsRow.holds Tryd.pinned (OpenSpec.ofChange inodeReadsSpec)

/-- ITS FALSE NEIGHBOUR: 'it returns false'. Refute it at one input. -/
def inodeReadsWrong : ChangeSpec := { name := "inodeReads", fn := fun _ => fun
  | [d] => { results := [.lit (.bool false)], args := [d] }
  | _ => none }
def InodeReadsWrongFalsely : Prop := inodeReadsRow.holds Tryd.pinned (OpenSpec.ofChange inodeReadsWrong)

/-- 'marllaw05.InodePointers': WHATEVER THE INPUT: true; the input reads as it did. -/
def inodePointersSpec : ChangeSpec := { name := "inodePointers", fn := fun _ => fun
  | [d1, d2] => { results := [.lit (.bool true)], args := [d1, d2] }
  | _ => none }
def inodePointersRow : OpenClaim := { program := "ytfkobamemehkdaadoor", sum := "a2b9f40256a5fd8b7c88819a30c66cc78b6ed87163ed756a7dd322ba995d2041", func := "marl/marllaw05.InodePointers", spec := "inodePointers", named := ["marl/sum.ahead"], apart := false, laid := [("marl/sum.ahead", laid_marl_sum_ahead)] }
def InodePointersSaid : Prop := inodePointersRow.holds Tryd.pinned (OpenSpec.ofChange inodePointersSpec)

/-- ITS FALSE NEIGHBOUR: 'it returns false'. Refute it at one input. -/
def inodePointersWrong : ChangeSpec := { name := "inodePointers", fn := fun _ => fun
  | [d1, d2] => { results := [.lit (.bool false)], args := [d1, d2] }
  | _ => none }
def InodePointersWrongFalsely : Prop := inodePointersRow.holds Tryd.pinned (OpenSpec.ofChange inodePointersWrong)

/-- 'marllaw05.InodeBlocks': WHATEVER THE INPUT: true; the input reads as it did. -/
def inodeBlocksSpec : ChangeSpec := { name := "inodeBlocks", fn := fun _ => fun
  | [d] => { results := [.lit (.bool true)], args := [d] }
  | _ => none }
def inodeBlocksRow : OpenClaim := { program := "ytfkobamemehkdaadoor", sum := "a2b9f40256a5fd8b7c88819a30c66cc78b6ed87163ed756a7dd322ba995d2041", func := "marl/marllaw05.InodeBlocks", spec := "inodeBlocks", named := ["marl/sum.ahead"], apart := false, laid := [("marl/sum.ahead", laid_marl_sum_ahead)] }
def InodeBlocksSaid : Prop := inodeBlocksRow.holds Tryd.pinned (OpenSpec.ofChange inodeBlocksSpec)

/-- ITS FALSE NEIGHBOUR: 'it returns false'. Refute it at one input. -/
def inodeBlocksWrong : ChangeSpec := { name := "inodeBlocks", fn := fun _ => fun
  | [d] => { results := [.lit (.bool false)], args := [d] }
  | _ => none }
def InodeBlocksWrongFalsely : Prop := inodeBlocksRow.holds Tryd.pinned (OpenSpec.ofChange inodeBlocksWrong)

/-- 'marllaw05.InodeSealed': WHATEVER THE INPUT: true; the input reads as it did. -/
def inodeSealedSpec : ChangeSpec := { name := "inodeSealed", fn := fun _ => fun
  | [d1, d2] => { results := [.lit (.bool true)], args := [d1, d2] }
  | _ => none }
def inodeSealedRow : OpenClaim := { program := "ytfkobamemehkdaadoor", sum := "a2b9f40256a5fd8b7c88819a30c66cc78b6ed87163ed756a7dd322ba995d2041", func := "marl/marllaw05.InodeSealed", spec := "inodeSealed", named := ["marl/sum.ahead"], apart := false, laid := [("marl/sum.ahead", laid_marl_sum_ahead)] }
def InodeSealedSaid : Prop := inodeSealedRow.holds Tryd.pinned (OpenSpec.ofChange inodeSealedSpec)

/-- ITS FALSE NEIGHBOUR: 'it returns false'. Refute it at one input. -/
def inodeSealedWrong : ChangeSpec := { name := "inodeSealed", fn := fun _ => fun
  | [d1, d2] => { results := [.lit (.bool false)], args := [d1, d2] }
  | _ => none }
def InodeSealedWrongFalsely : Prop := inodeSealedRow.holds Tryd.pinned (OpenSpec.ofChange inodeSealedWrong)

/-- 'marllaw05.InodeOne': WHATEVER THE INPUT: true; the input reads as it did. -/
def inodeOneSpec : ChangeSpec := { name := "inodeOne", fn := fun _ => fun
  | [d1, d2] => { results := [.lit (.bool true)], args := [d1, d2] }
  | _ => none }
def inodeOneRow : OpenClaim := { program := "ytfkobamemehkdaadoor", sum := "a2b9f40256a5fd8b7c88819a30c66cc78b6ed87163ed756a7dd322ba995d2041", func := "marl/marllaw05.InodeOne", spec := "inodeOne", named := ["marl/sum.ahead"], apart := false, laid := [("marl/sum.ahead", laid_marl_sum_ahead)] }
def InodeOneSaid : Prop := inodeOneRow.holds Tryd.pinned (OpenSpec.ofChange inodeOneSpec)

/-- ITS FALSE NEIGHBOUR: 'it returns false'. Refute it at one input. -/
def inodeOneWrong : ChangeSpec := { name := "inodeOne", fn := fun _ => fun
  | [d1, d2] => { results := [.lit (.bool false)], args := [d1, d2] }
  | _ => none }
def InodeOneWrongFalsely : Prop := inodeOneRow.holds Tryd.pinned (OpenSpec.ofChange inodeOneWrong)

/-- 'marllaw05.InodeLists': WHATEVER THE INPUT: true; the input reads as it did. -/
def inodeListsSpec : ChangeSpec := { name := "inodeLists", fn := fun _ => fun
  | [d1, d2] => { results := [.lit (.bool true)], args := [d1, d2] }
  | _ => none }
def inodeListsRow : OpenClaim := { program := "ytfkobamemehkdaadoor", sum := "a2b9f40256a5fd8b7c88819a30c66cc78b6ed87163ed756a7dd322ba995d2041", func := "marl/marllaw05.InodeLists", spec := "inodeLists", named := ["marl/sum.ahead"], apart := false, laid := [("marl/sum.ahead", laid_marl_sum_ahead)] }
def InodeListsSaid : Prop := inodeListsRow.holds Tryd.pinned (OpenSpec.ofChange inodeListsSpec)

/-- ITS FALSE NEIGHBOUR: 'it returns false'. Refute it at one input. -/
def inodeListsWrong : ChangeSpec := { name := "inodeLists", fn := fun _ => fun
  | [d1, d2] => { results := [.lit (.bool false)], args := [d1, d2] }
  | _ => none }
def InodeListsWrongFalsely : Prop := inodeListsRow.holds Tryd.pinned (OpenSpec.ofChange inodeListsWrong)

/- THE SECOND FORM. 'bulk': how many values and letters a reading holds, each counted each time it is reached (what is shared counts as often as it is met; a slice's spare places count too). A statement '..UptoSaid' is the law's where the arguments, and the package variables that the reading takes, are together of bulk at most 1048576: NARROWER than '..Said'. Prove '..Said' where nothing that the law and all that it calls make is longer than what came in: it says more and counts as full. Else prove '..UptoSaid'. A law counts once. -/
mutual
def uptoBulk {H : Type} : DataW H → Nat
  | .lit (.string bytes) => bytes.length + 1
  | .lit _ => 1
  | .nil => 1
  | .ptr d => uptoBulk d + 1
  | .slice elems spare => uptoBulkAll elems + uptoBulkAll spare + 1
  | .agg parts => uptoBulkAll parts + 1
  | .iface _ d => uptoBulk d + 1
  | .map entries => uptoBulkEntries entries + 1
  | .held _ => 1
def uptoBulkAll {H : Type} : List (DataW H) → Nat
  | [] => 0
  | d :: r => uptoBulk d + uptoBulkAll r
def uptoBulkEntries {H : Type} : List (Lit × DataW H) → Nat
  | [] => 0
  | x :: r => uptoBulkEntry x + uptoBulkEntries r
def uptoBulkEntry {H : Type} : Lit × DataW H → Nat
  | (.string bytes, d) => bytes.length + uptoBulk d + 1
  | (_, d) => uptoBulk d + 1
 end
def uptoSmall : (H : Type) → List (DataW H) → Bool := fun _ ds => decide (uptoBulkAll ds ≤ 1048576)
def OpenSpec.upto (s : _root_.Go.ChangeSpec) : _root_.Go.OpenSpec := { _root_.Go.OpenSpec.ofChange s with cond := some uptoSmall }

/-- 'marllaw05.InodeWrites', WHERE WHAT IT READS IS OF BULK AT MOST 1048576: true; the input reads as it did. -/
def inodeWritesUptoRow : OpenClaim := { program := "ytfkobamemehkdaadoor", sum := "a2b9f40256a5fd8b7c88819a30c66cc78b6ed87163ed756a7dd322ba995d2041", func := "marl/marllaw05.InodeWrites", spec := "inodeWrites", named := ["marl/sum.ahead"], apart := false, laid := [("marl/sum.ahead", laid_marl_sum_ahead)], narrowed := true }
def InodeWritesUptoSaid : Prop := inodeWritesUptoRow.holds Tryd.pinned (OpenSpec.upto inodeWritesSpec)

/-- 'marllaw05.InodeReads', WHERE WHAT IT READS IS OF BULK AT MOST 1048576: true; the input reads as it did. -/
def inodeReadsUptoRow : OpenClaim := { program := "ytfkobamemehkdaadoor", sum := "a2b9f40256a5fd8b7c88819a30c66cc78b6ed87163ed756a7dd322ba995d2041", func := "marl/marllaw05.InodeReads", spec := "inodeReads", named := ["marl/sum.ahead"], apart := false, laid := [("marl/sum.ahead", laid_marl_sum_ahead)], narrowed := true }
def InodeReadsUptoSaid : Prop := inodeReadsUptoRow.holds Tryd.pinned (OpenSpec.upto inodeReadsSpec)

/-- 'marllaw05.InodePointers', WHERE WHAT IT READS IS OF BULK AT MOST 1048576: true; the input reads as it did. -/
def inodePointersUptoRow : OpenClaim := { program := "ytfkobamemehkdaadoor", sum := "a2b9f40256a5fd8b7c88819a30c66cc78b6ed87163ed756a7dd322ba995d2041", func := "marl/marllaw05.InodePointers", spec := "inodePointers", named := ["marl/sum.ahead"], apart := false, laid := [("marl/sum.ahead", laid_marl_sum_ahead)], narrowed := true }
def InodePointersUptoSaid : Prop := inodePointersUptoRow.holds Tryd.pinned (OpenSpec.upto inodePointersSpec)

/-- 'marllaw05.InodeBlocks', WHERE WHAT IT READS IS OF BULK AT MOST 1048576: true; the input reads as it did. -/
def inodeBlocksUptoRow : OpenClaim := { program := "ytfkobamemehkdaadoor", sum := "a2b9f40256a5fd8b7c88819a30c66cc78b6ed87163ed756a7dd322ba995d2041", func := "marl/marllaw05.InodeBlocks", spec := "inodeBlocks", named := ["marl/sum.ahead"], apart := false, laid := [("marl/sum.ahead", laid_marl_sum_ahead)], narrowed := true }
def InodeBlocksUptoSaid : Prop := inodeBlocksUptoRow.holds Tryd.pinned (OpenSpec.upto inodeBlocksSpec)

/-- 'marllaw05.InodeSealed', WHERE WHAT IT READS IS OF BULK AT MOST 1048576: true; the input reads as it did. -/
def inodeSealedUptoRow : OpenClaim := { program := "ytfkobamemehkdaadoor", sum := "a2b9f40256a5fd8b7c88819a30c66cc78b6ed87163ed756a7dd322ba995d2041", func := "marl/marllaw05.InodeSealed", spec := "inodeSealed", named := ["marl/sum.ahead"], apart := false, laid := [("marl/sum.ahead", laid_marl_sum_ahead)], narrowed := true }
def InodeSealedUptoSaid : Prop := inodeSealedUptoRow.holds Tryd.pinned (OpenSpec.upto inodeSealedSpec)

/-- 'marllaw05.InodeOne', WHERE WHAT IT READS IS OF BULK AT MOST 1048576: true; the input reads as it did. -/
def inodeOneUptoRow : OpenClaim := { program := "ytfkobamemehkdaadoor", sum := "a2b9f40256a5fd8b7c88819a30c66cc78b6ed87163ed756a7dd322ba995d2041", func := "marl/marllaw05.InodeOne", spec := "inodeOne", named := ["marl/sum.ahead"], apart := false, laid := [("marl/sum.ahead", laid_marl_sum_ahead)], narrowed := true }
def InodeOneUptoSaid : Prop := inodeOneUptoRow.holds Tryd.pinned (OpenSpec.upto inodeOneSpec)

/-- 'marllaw05.InodeLists', WHERE WHAT IT READS IS OF BULK AT MOST 1048576: true; the input reads as it did. -/
def inodeListsUptoRow : OpenClaim := { program := "ytfkobamemehkdaadoor", sum := "a2b9f40256a5fd8b7c88819a30c66cc78b6ed87163ed756a7dd322ba995d2041", func := "marl/marllaw05.InodeLists", spec := "inodeLists", named := ["marl/sum.ahead"], apart := false, laid := [("marl/sum.ahead", laid_marl_sum_ahead)], narrowed := true }
def InodeListsUptoSaid : Prop := inodeListsUptoRow.holds Tryd.pinned (OpenSpec.upto inodeListsSpec)

end Rows
end Go.Proofs.YtfkobamemehkdaaDoor
