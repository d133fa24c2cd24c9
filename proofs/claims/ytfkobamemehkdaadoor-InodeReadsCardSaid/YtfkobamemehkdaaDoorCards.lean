/-
  DERIVED. GIVEN WITH THE SEED: THE CARDS: each row of YtfkobamemehkdaaDoorRows.lean that lists a variable, with what it lists TIED to the program's text (the seventh form; the later family's looks); each row that meets fmt, with fmt's text TOLD by the authors' own Lean function (tested against real Go, not proved from fmt's source: count such statements apart). THE CARD IS WHAT COUNTS. Prove the row's statement (the work); the ties are given (YtfkobamemehkdaaDoorTie.lean); close each card by the builder's one call (the guide's Derived/Test/ToyasCard.lean, 'card_holds'). Laid BY PROGRAM, IN A SANDBOX (cutbox-door.mjs). By AI agents, Wed Nov 11 2026. No macro, syntax, notation, axiom, sorry.
-/
import Derived.Test.YtfkobamemehkdaaDoorRows
import GoSem.ClaimSeven
namespace Go.Proofs.YtfkobamemehkdaaDoor
namespace Rows

/-- THE TIED CARD OF 'marllaw05.InodeWrites'. -/
def inodeWritesCard : Claim7 := { stood := { row := inodeWritesRow, standIns := [], harness := (true, "75dbb6cab35ffa5e61c61c44ebbae524bb651952c110ab0dc852715376daec3f"), looks := false }, kinds := [], alts := [], laidByText := true, laidKinds := [.data], laidTests := true, laidLooks := .later }
def InodeWritesCardSaid : Prop := Claim7.holds Tryd.pinned (.plain (OpenSpec.ofChange inodeWritesSpec)) inodeWritesCard

/-- THE TIED CARD OF 'marllaw05.InodeReads'. -/
def inodeReadsCard : Claim7 := { stood := { row := inodeReadsRow, standIns := [], harness := (true, "75dbb6cab35ffa5e61c61c44ebbae524bb651952c110ab0dc852715376daec3f"), looks := false }, kinds := [], alts := [], laidByText := true, laidKinds := [.data], laidTests := true, laidLooks := .later }
def InodeReadsCardSaid : Prop := Claim7.holds Tryd.pinned (.plain (OpenSpec.ofChange inodeReadsSpec)) inodeReadsCard

/-- THE TIED CARD OF 'marllaw05.InodePointers'. -/
def inodePointersCard : Claim7 := { stood := { row := inodePointersRow, standIns := [], harness := (true, "75dbb6cab35ffa5e61c61c44ebbae524bb651952c110ab0dc852715376daec3f"), looks := false }, kinds := [], alts := [], laidByText := true, laidKinds := [.data], laidTests := true, laidLooks := .later }
def InodePointersCardSaid : Prop := Claim7.holds Tryd.pinned (.plain (OpenSpec.ofChange inodePointersSpec)) inodePointersCard

/-- THE TIED CARD OF 'marllaw05.InodeBlocks'. -/
def inodeBlocksCard : Claim7 := { stood := { row := inodeBlocksRow, standIns := [], harness := (true, "75dbb6cab35ffa5e61c61c44ebbae524bb651952c110ab0dc852715376daec3f"), looks := false }, kinds := [], alts := [], laidByText := true, laidKinds := [.data], laidTests := true, laidLooks := .later }
def InodeBlocksCardSaid : Prop := Claim7.holds Tryd.pinned (.plain (OpenSpec.ofChange inodeBlocksSpec)) inodeBlocksCard

/-- THE TIED CARD OF 'marllaw05.InodeSealed'. -/
def inodeSealedCard : Claim7 := { stood := { row := inodeSealedRow, standIns := [], harness := (true, "75dbb6cab35ffa5e61c61c44ebbae524bb651952c110ab0dc852715376daec3f"), looks := false }, kinds := [], alts := [], laidByText := true, laidKinds := [.data], laidTests := true, laidLooks := .later }
def InodeSealedCardSaid : Prop := Claim7.holds Tryd.pinned (.plain (OpenSpec.ofChange inodeSealedSpec)) inodeSealedCard

/-- THE TIED CARD OF 'marllaw05.InodeOne'. -/
def inodeOneCard : Claim7 := { stood := { row := inodeOneRow, standIns := [], harness := (true, "75dbb6cab35ffa5e61c61c44ebbae524bb651952c110ab0dc852715376daec3f"), looks := false }, kinds := [], alts := [], laidByText := true, laidKinds := [.data], laidTests := true, laidLooks := .later }
def InodeOneCardSaid : Prop := Claim7.holds Tryd.pinned (.plain (OpenSpec.ofChange inodeOneSpec)) inodeOneCard

/-- THE TIED CARD OF 'marllaw05.InodeLists'. -/
def inodeListsCard : Claim7 := { stood := { row := inodeListsRow, standIns := [], harness := (true, "75dbb6cab35ffa5e61c61c44ebbae524bb651952c110ab0dc852715376daec3f"), looks := false }, kinds := [], alts := [], laidByText := true, laidKinds := [.data], laidTests := true, laidLooks := .later }
def InodeListsCardSaid : Prop := Claim7.holds Tryd.pinned (.plain (OpenSpec.ofChange inodeListsSpec)) inodeListsCard

/-- THE SECOND FORM's CARD OF 'marllaw05.InodeWrites'. -/
def inodeWritesUptoCard : Claim7 := { stood := { row := inodeWritesUptoRow, standIns := [], harness := (true, "75dbb6cab35ffa5e61c61c44ebbae524bb651952c110ab0dc852715376daec3f"), looks := false }, kinds := [], alts := [], laidByText := true, laidKinds := [.data], laidTests := true, laidLooks := .later }
def InodeWritesUptoCardSaid : Prop := Claim7.holds Tryd.pinned (.plain (OpenSpec.upto inodeWritesSpec)) inodeWritesUptoCard

/-- THE SECOND FORM's CARD OF 'marllaw05.InodeReads'. -/
def inodeReadsUptoCard : Claim7 := { stood := { row := inodeReadsUptoRow, standIns := [], harness := (true, "75dbb6cab35ffa5e61c61c44ebbae524bb651952c110ab0dc852715376daec3f"), looks := false }, kinds := [], alts := [], laidByText := true, laidKinds := [.data], laidTests := true, laidLooks := .later }
def InodeReadsUptoCardSaid : Prop := Claim7.holds Tryd.pinned (.plain (OpenSpec.upto inodeReadsSpec)) inodeReadsUptoCard

/-- THE SECOND FORM's CARD OF 'marllaw05.InodePointers'. -/
def inodePointersUptoCard : Claim7 := { stood := { row := inodePointersUptoRow, standIns := [], harness := (true, "75dbb6cab35ffa5e61c61c44ebbae524bb651952c110ab0dc852715376daec3f"), looks := false }, kinds := [], alts := [], laidByText := true, laidKinds := [.data], laidTests := true, laidLooks := .later }
def InodePointersUptoCardSaid : Prop := Claim7.holds Tryd.pinned (.plain (OpenSpec.upto inodePointersSpec)) inodePointersUptoCard

/-- THE SECOND FORM's CARD OF 'marllaw05.InodeBlocks'. -/
def inodeBlocksUptoCard : Claim7 := { stood := { row := inodeBlocksUptoRow, standIns := [], harness := (true, "75dbb6cab35ffa5e61c61c44ebbae524bb651952c110ab0dc852715376daec3f"), looks := false }, kinds := [], alts := [], laidByText := true, laidKinds := [.data], laidTests := true, laidLooks := .later }
def InodeBlocksUptoCardSaid : Prop := Claim7.holds Tryd.pinned (.plain (OpenSpec.upto inodeBlocksSpec)) inodeBlocksUptoCard

/-- THE SECOND FORM's CARD OF 'marllaw05.InodeSealed'. -/
def inodeSealedUptoCard : Claim7 := { stood := { row := inodeSealedUptoRow, standIns := [], harness := (true, "75dbb6cab35ffa5e61c61c44ebbae524bb651952c110ab0dc852715376daec3f"), looks := false }, kinds := [], alts := [], laidByText := true, laidKinds := [.data], laidTests := true, laidLooks := .later }
def InodeSealedUptoCardSaid : Prop := Claim7.holds Tryd.pinned (.plain (OpenSpec.upto inodeSealedSpec)) inodeSealedUptoCard

/-- THE SECOND FORM's CARD OF 'marllaw05.InodeOne'. -/
def inodeOneUptoCard : Claim7 := { stood := { row := inodeOneUptoRow, standIns := [], harness := (true, "75dbb6cab35ffa5e61c61c44ebbae524bb651952c110ab0dc852715376daec3f"), looks := false }, kinds := [], alts := [], laidByText := true, laidKinds := [.data], laidTests := true, laidLooks := .later }
def InodeOneUptoCardSaid : Prop := Claim7.holds Tryd.pinned (.plain (OpenSpec.upto inodeOneSpec)) inodeOneUptoCard

/-- THE SECOND FORM's CARD OF 'marllaw05.InodeLists'. -/
def inodeListsUptoCard : Claim7 := { stood := { row := inodeListsUptoRow, standIns := [], harness := (true, "75dbb6cab35ffa5e61c61c44ebbae524bb651952c110ab0dc852715376daec3f"), looks := false }, kinds := [], alts := [], laidByText := true, laidKinds := [.data], laidTests := true, laidLooks := .later }
def InodeListsUptoCardSaid : Prop := Claim7.holds Tryd.pinned (.plain (OpenSpec.upto inodeListsSpec)) inodeListsUptoCard
end Rows
end Go.Proofs.YtfkobamemehkdaaDoor
