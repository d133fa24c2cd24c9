/-
  DERIVED. GIVEN WITH THE SEED: THE CARDS: each row of YtdfppilancimhaaDoorRows.lean that lists a variable, with what it lists TIED to the program's text (the seventh form; the later family's looks); each row that meets fmt, with fmt's text TOLD by the authors' own Lean function (tested against real Go, not proved from fmt's source: count such statements apart). THE CARD IS WHAT COUNTS. Prove the row's statement (the work); the ties are given (YtdfppilancimhaaDoorTie.lean); close each card by the builder's one call (the guide's Derived/Test/ToyasCard.lean, 'card_holds'). Laid BY PROGRAM, IN A SANDBOX (cutbox-door.mjs). By AI agents, Wed Nov 11 2026. No macro, syntax, notation, axiom, sorry.
-/
import Derived.Test.YtdfppilancimhaaDoorRows
import GoSem.ClaimSeven
namespace Go.Proofs.YtdfppilancimhaaDoor
namespace Rows

/-- THE TIED CARD OF 'marllaw03.GeomChecks'. -/
def geomChecksCard : Claim7 := { stood := { row := geomChecksRow, standIns := [], harness := (true, "e46164582d9f8a58bbf5ebf23048bdd8a44bda73dbc96678b18815f1290405f2"), looks := false }, kinds := [], alts := [], laidByText := true, laidKinds := [.data], laidTests := true, laidLooks := .later }
def GeomChecksCardSaid : Prop := Claim7.holds Tryd.pinned (.plain (OpenSpec.ofChange geomChecksSpec)) geomChecksCard

/-- THE TIED CARD OF 'marllaw03.GeomReads'. -/
def geomReadsCard : Claim7 := { stood := { row := geomReadsRow, standIns := [], harness := (true, "e46164582d9f8a58bbf5ebf23048bdd8a44bda73dbc96678b18815f1290405f2"), looks := false }, kinds := [], alts := [], laidByText := true, laidKinds := [.data], laidTests := true, laidLooks := .later }
def GeomReadsCardSaid : Prop := Claim7.holds Tryd.pinned (.plain (OpenSpec.ofChange geomReadsSpec)) geomReadsCard

/-- THE TIED CARD OF 'marllaw03.GeomSealed'. -/
def geomSealedCard : Claim7 := { stood := { row := geomSealedRow, standIns := [], harness := (true, "e46164582d9f8a58bbf5ebf23048bdd8a44bda73dbc96678b18815f1290405f2"), looks := false }, kinds := [], alts := [], laidByText := true, laidKinds := [.data], laidTests := true, laidLooks := .later }
def GeomSealedCardSaid : Prop := Claim7.holds Tryd.pinned (.plain (OpenSpec.ofChange geomSealedSpec)) geomSealedCard

/-- THE SECOND FORM's CARD OF 'marllaw03.GeomChecks'. -/
def geomChecksUptoCard : Claim7 := { stood := { row := geomChecksUptoRow, standIns := [], harness := (true, "e46164582d9f8a58bbf5ebf23048bdd8a44bda73dbc96678b18815f1290405f2"), looks := false }, kinds := [], alts := [], laidByText := true, laidKinds := [.data], laidTests := true, laidLooks := .later }
def GeomChecksUptoCardSaid : Prop := Claim7.holds Tryd.pinned (.plain (OpenSpec.upto geomChecksSpec)) geomChecksUptoCard

/-- THE SECOND FORM's CARD OF 'marllaw03.GeomReads'. -/
def geomReadsUptoCard : Claim7 := { stood := { row := geomReadsUptoRow, standIns := [], harness := (true, "e46164582d9f8a58bbf5ebf23048bdd8a44bda73dbc96678b18815f1290405f2"), looks := false }, kinds := [], alts := [], laidByText := true, laidKinds := [.data], laidTests := true, laidLooks := .later }
def GeomReadsUptoCardSaid : Prop := Claim7.holds Tryd.pinned (.plain (OpenSpec.upto geomReadsSpec)) geomReadsUptoCard

/-- THE SECOND FORM's CARD OF 'marllaw03.GeomSealed'. -/
def geomSealedUptoCard : Claim7 := { stood := { row := geomSealedUptoRow, standIns := [], harness := (true, "e46164582d9f8a58bbf5ebf23048bdd8a44bda73dbc96678b18815f1290405f2"), looks := false }, kinds := [], alts := [], laidByText := true, laidKinds := [.data], laidTests := true, laidLooks := .later }
def GeomSealedUptoCardSaid : Prop := Claim7.holds Tryd.pinned (.plain (OpenSpec.upto geomSealedSpec)) geomSealedUptoCard
end Rows
end Go.Proofs.YtdfppilancimhaaDoor
