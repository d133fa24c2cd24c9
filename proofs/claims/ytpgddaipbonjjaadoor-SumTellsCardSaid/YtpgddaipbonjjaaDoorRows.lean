/-
  NARROWER THAN 'FOR EVERY INPUT', by the rows' own cells (each row's printed sentence says how): SumBits: laid · SumMore: laid · SumSeals: laid · SumOpens: laid · SumParts: laid · SumTells: laid · SumLinear: laid.
  DERIVED. THE GIVEN ROWS OF THIS SEAT. 7 by the template 'for every input the law returns true; each argument reads behind the call as it read before'; 0 by the template 'total and deterministic' (their statements: YtpgddaipbonjjaaDoorTotals.lean).
  GIVEN WITH THE SEED: the statements are not yours to turn. If you find one false, say at which input.
  Laid BY PROGRAM, IN A SANDBOX (cutbox-rows.mjs): the forced cells as the released guide's own fill.sh prints them over the translation 8bc76252200e1f28… (all of the seat's roots in one cut). By AI agents, Wed Nov 11 2026. No macro, syntax, notation, axiom, sorry.
-/
import Derived.Test.YtpgddaipbonjjaaDoorChecked
import GoSem.Claim
import GoSem.ClaimJoined
import GoSem.ClaimMapViews
import Derived.JoinedTies
import Derived.KernelRfl
namespace Go.Proofs.YtpgddaipbonjjaaDoor
/- THE CELL 'sum', in the pinned program and in every row, IS THE sha256 OF THE DUMP (.gsa) THAT YtpgddaipbonjjaaDoorProg.lean LOADS. Nothing in Lean hashes anything: it is a label: what it is worth is what the hold of that sum in a sandbox is worth. -/
noncomputable def Tryd.pinned : Pinned := { name := "ytpgddaipbonjjaadoor", sum := "8bc76252200e1f287e411c5d93ab0dbd9feac008e6ae1a91c4adfff0358738da", checked := Tryd.checked }
namespace Rows
def none {H : Type} : Left H := { results := [], args := [] }

/- WHAT THE LISTED PACKAGE-LEVEL VARIABLES READ AS WHEN THE CALL BEGINS. Each datum BY PROGRAM (the guide's laid-datum.mjs) off the statement by which the dump's own 'gosem.cut.vars' lays the variable. In a bare row this is a premise. The card (YtpgddaipbonjjaaDoorCards.lean) ties it to the program's text. -/
def laid_marl_sum_ahead {H : Type} : DataW H := .agg [.lit (.int .u32 0), .lit (.int .u32 498536548), .lit (.int .u32 997073096), .lit (.int .u32 651767980), .lit (.int .u32 1994146192), .lit (.int .u32 1802195444), .lit (.int .u32 1303535960), .lit (.int .u32 1342533948), .lit (.int .u32 3988292384), .lit (.int .u32 4027552580), .lit (.int .u32 3604390888), .lit (.int .u32 3412177804), .lit (.int .u32 2607071920), .lit (.int .u32 2262029012), .lit (.int .u32 2685067896), .lit (.int .u32 3183342108)]

/-- 'marllaw01.SumBits': WHATEVER THE INPUT: true; the input reads as it did. -/
def sumBitsSpec : ChangeSpec := { name := "sumBits", fn := fun _ => fun
  | [d] => { results := [.lit (.bool true)], args := [d] }
  | _ => none }
def sumBitsRow : OpenClaim := { program := "ytpgddaipbonjjaadoor", sum := "8bc76252200e1f287e411c5d93ab0dbd9feac008e6ae1a91c4adfff0358738da", func := "marl/marllaw01.SumBits", spec := "sumBits", named := ["marl/sum.ahead"], apart := false, laid := [("marl/sum.ahead", laid_marl_sum_ahead)] }
def SumBitsSaid : Prop := sumBitsRow.holds Tryd.pinned (OpenSpec.ofChange sumBitsSpec)

/-- ITS FALSE NEIGHBOUR: 'it returns false'. Refute it at one input. -/
def sumBitsWrong : ChangeSpec := { name := "sumBits", fn := fun _ => fun
  | [d] => { results := [.lit (.bool false)], args := [d] }
  | _ => none }
def SumBitsWrongFalsely : Prop := sumBitsRow.holds Tryd.pinned (OpenSpec.ofChange sumBitsWrong)

/-- 'marllaw01.SumMore': WHATEVER THE INPUT: true; the input reads as it did. -/
def sumMoreSpec : ChangeSpec := { name := "sumMore", fn := fun _ => fun
  | [d1, d2] => { results := [.lit (.bool true)], args := [d1, d2] }
  | _ => none }
def sumMoreRow : OpenClaim := { program := "ytpgddaipbonjjaadoor", sum := "8bc76252200e1f287e411c5d93ab0dbd9feac008e6ae1a91c4adfff0358738da", func := "marl/marllaw01.SumMore", spec := "sumMore", named := ["marl/sum.ahead"], apart := false, laid := [("marl/sum.ahead", laid_marl_sum_ahead)] }
def SumMoreSaid : Prop := sumMoreRow.holds Tryd.pinned (OpenSpec.ofChange sumMoreSpec)

/-- ITS FALSE NEIGHBOUR: 'it returns false'. Refute it at one input. -/
def sumMoreWrong : ChangeSpec := { name := "sumMore", fn := fun _ => fun
  | [d1, d2] => { results := [.lit (.bool false)], args := [d1, d2] }
  | _ => none }
def SumMoreWrongFalsely : Prop := sumMoreRow.holds Tryd.pinned (OpenSpec.ofChange sumMoreWrong)

/-- 'marllaw01.SumSeals': WHATEVER THE INPUT: true; the input reads as it did. -/
def sumSealsSpec : ChangeSpec := { name := "sumSeals", fn := fun _ => fun
  | [d] => { results := [.lit (.bool true)], args := [d] }
  | _ => none }
def sumSealsRow : OpenClaim := { program := "ytpgddaipbonjjaadoor", sum := "8bc76252200e1f287e411c5d93ab0dbd9feac008e6ae1a91c4adfff0358738da", func := "marl/marllaw01.SumSeals", spec := "sumSeals", named := ["marl/sum.ahead"], apart := false, laid := [("marl/sum.ahead", laid_marl_sum_ahead)] }
def SumSealsSaid : Prop := sumSealsRow.holds Tryd.pinned (OpenSpec.ofChange sumSealsSpec)

/-- ITS FALSE NEIGHBOUR: 'it returns false'. Refute it at one input. -/
def sumSealsWrong : ChangeSpec := { name := "sumSeals", fn := fun _ => fun
  | [d] => { results := [.lit (.bool false)], args := [d] }
  | _ => none }
def SumSealsWrongFalsely : Prop := sumSealsRow.holds Tryd.pinned (OpenSpec.ofChange sumSealsWrong)

/-- 'marllaw01.SumOpens': WHATEVER THE INPUT: true; the input reads as it did. -/
def sumOpensSpec : ChangeSpec := { name := "sumOpens", fn := fun _ => fun
  | [d] => { results := [.lit (.bool true)], args := [d] }
  | _ => none }
def sumOpensRow : OpenClaim := { program := "ytpgddaipbonjjaadoor", sum := "8bc76252200e1f287e411c5d93ab0dbd9feac008e6ae1a91c4adfff0358738da", func := "marl/marllaw01.SumOpens", spec := "sumOpens", named := ["marl/sum.ahead"], apart := false, laid := [("marl/sum.ahead", laid_marl_sum_ahead)] }
def SumOpensSaid : Prop := sumOpensRow.holds Tryd.pinned (OpenSpec.ofChange sumOpensSpec)

/-- ITS FALSE NEIGHBOUR: 'it returns false'. Refute it at one input. -/
def sumOpensWrong : ChangeSpec := { name := "sumOpens", fn := fun _ => fun
  | [d] => { results := [.lit (.bool false)], args := [d] }
  | _ => none }
def SumOpensWrongFalsely : Prop := sumOpensRow.holds Tryd.pinned (OpenSpec.ofChange sumOpensWrong)

/-- 'marllaw01.SumParts': WHATEVER THE INPUT: true; the input reads as it did. -/
def sumPartsSpec : ChangeSpec := { name := "sumParts", fn := fun _ => fun
  | [d] => { results := [.lit (.bool true)], args := [d] }
  | _ => none }
def sumPartsRow : OpenClaim := { program := "ytpgddaipbonjjaadoor", sum := "8bc76252200e1f287e411c5d93ab0dbd9feac008e6ae1a91c4adfff0358738da", func := "marl/marllaw01.SumParts", spec := "sumParts", named := ["marl/sum.ahead"], apart := false, laid := [("marl/sum.ahead", laid_marl_sum_ahead)] }
def SumPartsSaid : Prop := sumPartsRow.holds Tryd.pinned (OpenSpec.ofChange sumPartsSpec)

/-- ITS FALSE NEIGHBOUR: 'it returns false'. Refute it at one input. -/
def sumPartsWrong : ChangeSpec := { name := "sumParts", fn := fun _ => fun
  | [d] => { results := [.lit (.bool false)], args := [d] }
  | _ => none }
def SumPartsWrongFalsely : Prop := sumPartsRow.holds Tryd.pinned (OpenSpec.ofChange sumPartsWrong)

/-- 'marllaw01.SumTells': WHATEVER THE INPUT: true; the input reads as it did. -/
def sumTellsSpec : ChangeSpec := { name := "sumTells", fn := fun _ => fun
  | [d1, d2, d3] => { results := [.lit (.bool true)], args := [d1, d2, d3] }
  | _ => none }
def sumTellsRow : OpenClaim := { program := "ytpgddaipbonjjaadoor", sum := "8bc76252200e1f287e411c5d93ab0dbd9feac008e6ae1a91c4adfff0358738da", func := "marl/marllaw01.SumTells", spec := "sumTells", unfollowed := true, recurses := true, named := ["marl/sum.ahead"], apart := false, laid := [("marl/sum.ahead", laid_marl_sum_ahead)] }
def SumTellsSaid : Prop := sumTellsRow.holds Tryd.pinned (OpenSpec.ofChange sumTellsSpec)

/-- ITS FALSE NEIGHBOUR: 'it returns false'. Refute it at one input. -/
def sumTellsWrong : ChangeSpec := { name := "sumTells", fn := fun _ => fun
  | [d1, d2, d3] => { results := [.lit (.bool false)], args := [d1, d2, d3] }
  | _ => none }
def SumTellsWrongFalsely : Prop := sumTellsRow.holds Tryd.pinned (OpenSpec.ofChange sumTellsWrong)

/-- 'marllaw01.SumLinear': WHATEVER THE INPUT: true; the input reads as it did. -/
def sumLinearSpec : ChangeSpec := { name := "sumLinear", fn := fun _ => fun
  | [d1, d2, d3] => { results := [.lit (.bool true)], args := [d1, d2, d3] }
  | _ => none }
def sumLinearRow : OpenClaim := { program := "ytpgddaipbonjjaadoor", sum := "8bc76252200e1f287e411c5d93ab0dbd9feac008e6ae1a91c4adfff0358738da", func := "marl/marllaw01.SumLinear", spec := "sumLinear", unfollowed := true, recurses := true, named := ["marl/sum.ahead"], apart := false, laid := [("marl/sum.ahead", laid_marl_sum_ahead)] }
def SumLinearSaid : Prop := sumLinearRow.holds Tryd.pinned (OpenSpec.ofChange sumLinearSpec)

/-- ITS FALSE NEIGHBOUR: 'it returns false'. Refute it at one input. -/
def sumLinearWrong : ChangeSpec := { name := "sumLinear", fn := fun _ => fun
  | [d1, d2, d3] => { results := [.lit (.bool false)], args := [d1, d2, d3] }
  | _ => none }
def SumLinearWrongFalsely : Prop := sumLinearRow.holds Tryd.pinned (OpenSpec.ofChange sumLinearWrong)

/- THE SECOND FORM. 'bulk': how many values and letters a reading holds, each counted each time it is reached (what is shared counts as often as it is met; a slice's spare places count too). A statement '..UptoSaid' is the law's where the arguments, and the package variables that the reading takes, are together of bulk at most 1048576: NARROWER than '..Said'. Prove '..Said' where nothing that the law and all that it calls make is longer than what came in: it says more and counts as full. Else prove '..UptoSaid'. A law counts once. -/
mutual
def uptoBulk {H : Type} : DataW H → Nat
  | .lit (.string bytes) => bytes.length + 1
  | .lit _ => 1
  | .nil => 1
  | .ptr d => uptoBulk d + 1
  | .slice elems spare => uptoBulkAll elems + uptoBulkAll spare + 1
  | .agg parts => uptoBulkAll parts + 1
  | .iface _ d => uptoBulk d + 1
  | .map entries => uptoBulkEntries entries + 1
  | .held _ => 1
def uptoBulkAll {H : Type} : List (DataW H) → Nat
  | [] => 0
  | d :: r => uptoBulk d + uptoBulkAll r
def uptoBulkEntries {H : Type} : List (Lit × DataW H) → Nat
  | [] => 0
  | x :: r => uptoBulkEntry x + uptoBulkEntries r
def uptoBulkEntry {H : Type} : Lit × DataW H → Nat
  | (.string bytes, d) => bytes.length + uptoBulk d + 1
  | (_, d) => uptoBulk d + 1
 end
def uptoSmall : (H : Type) → List (DataW H) → Bool := fun _ ds => decide (uptoBulkAll ds ≤ 1048576)
def OpenSpec.upto (s : _root_.Go.ChangeSpec) : _root_.Go.OpenSpec := { _root_.Go.OpenSpec.ofChange s with cond := some uptoSmall }

/-- 'marllaw01.SumBits', WHERE WHAT IT READS IS OF BULK AT MOST 1048576: true; the input reads as it did. -/
def sumBitsUptoRow : OpenClaim := { program := "ytpgddaipbonjjaadoor", sum := "8bc76252200e1f287e411c5d93ab0dbd9feac008e6ae1a91c4adfff0358738da", func := "marl/marllaw01.SumBits", spec := "sumBits", named := ["marl/sum.ahead"], apart := false, laid := [("marl/sum.ahead", laid_marl_sum_ahead)], narrowed := true }
def SumBitsUptoSaid : Prop := sumBitsUptoRow.holds Tryd.pinned (OpenSpec.upto sumBitsSpec)

/-- 'marllaw01.SumMore', WHERE WHAT IT READS IS OF BULK AT MOST 1048576: true; the input reads as it did. -/
def sumMoreUptoRow : OpenClaim := { program := "ytpgddaipbonjjaadoor", sum := "8bc76252200e1f287e411c5d93ab0dbd9feac008e6ae1a91c4adfff0358738da", func := "marl/marllaw01.SumMore", spec := "sumMore", named := ["marl/sum.ahead"], apart := false, laid := [("marl/sum.ahead", laid_marl_sum_ahead)], narrowed := true }
def SumMoreUptoSaid : Prop := sumMoreUptoRow.holds Tryd.pinned (OpenSpec.upto sumMoreSpec)

/-- 'marllaw01.SumSeals', WHERE WHAT IT READS IS OF BULK AT MOST 1048576: true; the input reads as it did. -/
def sumSealsUptoRow : OpenClaim := { program := "ytpgddaipbonjjaadoor", sum := "8bc76252200e1f287e411c5d93ab0dbd9feac008e6ae1a91c4adfff0358738da", func := "marl/marllaw01.SumSeals", spec := "sumSeals", named := ["marl/sum.ahead"], apart := false, laid := [("marl/sum.ahead", laid_marl_sum_ahead)], narrowed := true }
def SumSealsUptoSaid : Prop := sumSealsUptoRow.holds Tryd.pinned (OpenSpec.upto sumSealsSpec)

/-- 'marllaw01.SumOpens', WHERE WHAT IT READS IS OF BULK AT MOST 1048576: true; the input reads as it did. -/
def sumOpensUptoRow : OpenClaim := { program := "ytpgddaipbonjjaadoor", sum := "8bc76252200e1f287e411c5d93ab0dbd9feac008e6ae1a91c4adfff0358738da", func := "marl/marllaw01.SumOpens", spec := "sumOpens", named := ["marl/sum.ahead"], apart := false, laid := [("marl/sum.ahead", laid_marl_sum_ahead)], narrowed := true }
def SumOpensUptoSaid : Prop := sumOpensUptoRow.holds Tryd.pinned (OpenSpec.upto sumOpensSpec)

/-- 'marllaw01.SumParts', WHERE WHAT IT READS IS OF BULK AT MOST 1048576: true; the input reads as it did. -/
def sumPartsUptoRow : OpenClaim := { program := "ytpgddaipbonjjaadoor", sum := "8bc76252200e1f287e411c5d93ab0dbd9feac008e6ae1a91c4adfff0358738da", func := "marl/marllaw01.SumParts", spec := "sumParts", named := ["marl/sum.ahead"], apart := false, laid := [("marl/sum.ahead", laid_marl_sum_ahead)], narrowed := true }
def SumPartsUptoSaid : Prop := sumPartsUptoRow.holds Tryd.pinned (OpenSpec.upto sumPartsSpec)

/-- 'marllaw01.SumTells', WHERE WHAT IT READS IS OF BULK AT MOST 1048576: true; the input reads as it did. -/
def sumTellsUptoRow : OpenClaim := { program := "ytpgddaipbonjjaadoor", sum := "8bc76252200e1f287e411c5d93ab0dbd9feac008e6ae1a91c4adfff0358738da", func := "marl/marllaw01.SumTells", spec := "sumTells", unfollowed := true, recurses := true, named := ["marl/sum.ahead"], apart := false, laid := [("marl/sum.ahead", laid_marl_sum_ahead)], narrowed := true }
def SumTellsUptoSaid : Prop := sumTellsUptoRow.holds Tryd.pinned (OpenSpec.upto sumTellsSpec)

/-- 'marllaw01.SumLinear', WHERE WHAT IT READS IS OF BULK AT MOST 1048576: true; the input reads as it did. -/
def sumLinearUptoRow : OpenClaim := { program := "ytpgddaipbonjjaadoor", sum := "8bc76252200e1f287e411c5d93ab0dbd9feac008e6ae1a91c4adfff0358738da", func := "marl/marllaw01.SumLinear", spec := "sumLinear", unfollowed := true, recurses := true, named := ["marl/sum.ahead"], apart := false, laid := [("marl/sum.ahead", laid_marl_sum_ahead)], narrowed := true }
def SumLinearUptoSaid : Prop := sumLinearUptoRow.holds Tryd.pinned (OpenSpec.upto sumLinearSpec)

end Rows
end Go.Proofs.YtpgddaipbonjjaaDoor
