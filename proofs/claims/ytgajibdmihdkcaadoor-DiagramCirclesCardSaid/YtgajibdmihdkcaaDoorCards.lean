/-
  DERIVED. GIVEN WITH THE SEED: THE CARDS: each row of YtgajibdmihdkcaaDoorRows.lean that lists a variable, with what it lists TIED to the program's text (the seventh form; the later family's looks); each row that meets fmt, with fmt's text TOLD by the authors' own Lean function (tested against real Go, not proved from fmt's source: count such statements apart). THE CARD IS WHAT COUNTS. Prove the row's statement (the work); the ties are given (YtgajibdmihdkcaaDoorTie.lean); close each card by the builder's one call (the guide's Derived/Test/ToyasCard.lean, 'card_holds'). Laid BY PROGRAM, IN A SANDBOX (cutbox-door.mjs). By AI agents, Wed Nov 11 2026. No macro, syntax, notation, axiom, sorry.
-/
import Derived.Test.YtgajibdmihdkcaaDoorRows
import GoSem.ClaimSeven
namespace Go.Proofs.YtgajibdmihdkcaaDoor
namespace Rows

/-- THE TIED CARD OF 'commutatorlaw10.DiagramChecks'. -/
def diagramChecksCard : Claim7 := { stood := { row := diagramChecksRow, standIns := [], harness := (true, "0a4f3e500317e0ed3ba424dfa704aec1e4f0113350799e3bf4319d6d027068c6"), looks := true }, kinds := [], alts := [], laidByText := true, laidKinds := [.data], laidTests := true, laidLooks := .later }
def DiagramChecksCardSaid : Prop := Claim7.holds Tryd.pinned (.plain (OpenSpec.ofChange diagramChecksSpec)) diagramChecksCard

/-- THE TIED CARD OF 'commutatorlaw10.DiagramOrders'. -/
def diagramOrdersCard : Claim7 := { stood := { row := diagramOrdersRow, standIns := [], harness := (true, "0a4f3e500317e0ed3ba424dfa704aec1e4f0113350799e3bf4319d6d027068c6"), looks := true }, kinds := [], alts := [], laidByText := true, laidKinds := [.data], laidTests := true, laidLooks := .later }
def DiagramOrdersCardSaid : Prop := Claim7.holds Tryd.pinned (.plain (OpenSpec.ofChange diagramOrdersSpec)) diagramOrdersCard

/-- THE TIED CARD OF 'commutatorlaw10.DiagramUses'. -/
def diagramUsesCard : Claim7 := { stood := { row := diagramUsesRow, standIns := [], harness := (true, "0a4f3e500317e0ed3ba424dfa704aec1e4f0113350799e3bf4319d6d027068c6"), looks := true }, kinds := [], alts := [], laidByText := true, laidKinds := [.data], laidTests := true, laidLooks := .later }
def DiagramUsesCardSaid : Prop := Claim7.holds Tryd.pinned (.plain (OpenSpec.ofChange diagramUsesSpec)) diagramUsesCard

/-- THE TIED CARD OF 'commutatorlaw10.DiagramPrunes'. -/
def diagramPrunesCard : Claim7 := { stood := { row := diagramPrunesRow, standIns := [], harness := (true, "0a4f3e500317e0ed3ba424dfa704aec1e4f0113350799e3bf4319d6d027068c6"), looks := true }, kinds := [], alts := [], laidByText := true, laidKinds := [.data], laidTests := true, laidLooks := .later }
def DiagramPrunesCardSaid : Prop := Claim7.holds Tryd.pinned (.plain (OpenSpec.ofChange diagramPrunesSpec)) diagramPrunesCard

/-- THE TIED CARD OF 'commutatorlaw10.DiagramFollows'. -/
def diagramFollowsCard : Claim7 := { stood := { row := diagramFollowsRow, standIns := [], harness := (true, "0a4f3e500317e0ed3ba424dfa704aec1e4f0113350799e3bf4319d6d027068c6"), looks := true }, kinds := [], alts := [], laidByText := true, laidKinds := [.data], laidTests := true, laidLooks := .later }
def DiagramFollowsCardSaid : Prop := Claim7.holds Tryd.pinned (.plain (OpenSpec.ofChange diagramFollowsSpec)) diagramFollowsCard

/-- THE TIED CARD OF 'commutatorlaw10.DiagramCircles'. -/
def diagramCirclesCard : Claim7 := { stood := { row := diagramCirclesRow, standIns := [], harness := (true, "0a4f3e500317e0ed3ba424dfa704aec1e4f0113350799e3bf4319d6d027068c6"), looks := true }, kinds := [], alts := [], laidByText := true, laidKinds := [.data], laidTests := true, laidLooks := .later }
def DiagramCirclesCardSaid : Prop := Claim7.holds Tryd.pinned (.plain (OpenSpec.ofChange diagramCirclesSpec)) diagramCirclesCard

/-- THE TIED CARD OF 'commutatorlaw10.DiagramAgain'. -/
def diagramAgainCard : Claim7 := { stood := { row := diagramAgainRow, standIns := [], harness := (true, "0a4f3e500317e0ed3ba424dfa704aec1e4f0113350799e3bf4319d6d027068c6"), looks := true }, kinds := [], alts := [], laidByText := true, laidKinds := [.data], laidTests := true, laidLooks := .later }
def DiagramAgainCardSaid : Prop := Claim7.holds Tryd.pinned (.plain (OpenSpec.ofChange diagramAgainSpec)) diagramAgainCard

/-- THE TIED CARD OF 'commutatorlaw10.DiagramDepends'. -/
def diagramDependsCard : Claim7 := { stood := { row := diagramDependsRow, standIns := [], harness := (true, "0a4f3e500317e0ed3ba424dfa704aec1e4f0113350799e3bf4319d6d027068c6"), looks := true }, kinds := [], alts := [], laidByText := true, laidKinds := [.data], laidTests := true, laidLooks := .later }
def DiagramDependsCardSaid : Prop := Claim7.holds Tryd.pinned (.plain (OpenSpec.ofChange diagramDependsSpec)) diagramDependsCard

/-- THE SECOND FORM's CARD OF 'commutatorlaw10.DiagramChecks'. -/
def diagramChecksUptoCard : Claim7 := { stood := { row := diagramChecksUptoRow, standIns := [], harness := (true, "0a4f3e500317e0ed3ba424dfa704aec1e4f0113350799e3bf4319d6d027068c6"), looks := true }, kinds := [], alts := [], laidByText := true, laidKinds := [.data], laidTests := true, laidLooks := .later }
def DiagramChecksUptoCardSaid : Prop := Claim7.holds Tryd.pinned (.plain (OpenSpec.upto diagramChecksSpec)) diagramChecksUptoCard

/-- THE SECOND FORM's CARD OF 'commutatorlaw10.DiagramOrders'. -/
def diagramOrdersUptoCard : Claim7 := { stood := { row := diagramOrdersUptoRow, standIns := [], harness := (true, "0a4f3e500317e0ed3ba424dfa704aec1e4f0113350799e3bf4319d6d027068c6"), looks := true }, kinds := [], alts := [], laidByText := true, laidKinds := [.data], laidTests := true, laidLooks := .later }
def DiagramOrdersUptoCardSaid : Prop := Claim7.holds Tryd.pinned (.plain (OpenSpec.upto diagramOrdersSpec)) diagramOrdersUptoCard

/-- THE SECOND FORM's CARD OF 'commutatorlaw10.DiagramUses'. -/
def diagramUsesUptoCard : Claim7 := { stood := { row := diagramUsesUptoRow, standIns := [], harness := (true, "0a4f3e500317e0ed3ba424dfa704aec1e4f0113350799e3bf4319d6d027068c6"), looks := true }, kinds := [], alts := [], laidByText := true, laidKinds := [.data], laidTests := true, laidLooks := .later }
def DiagramUsesUptoCardSaid : Prop := Claim7.holds Tryd.pinned (.plain (OpenSpec.upto diagramUsesSpec)) diagramUsesUptoCard

/-- THE SECOND FORM's CARD OF 'commutatorlaw10.DiagramPrunes'. -/
def diagramPrunesUptoCard : Claim7 := { stood := { row := diagramPrunesUptoRow, standIns := [], harness := (true, "0a4f3e500317e0ed3ba424dfa704aec1e4f0113350799e3bf4319d6d027068c6"), looks := true }, kinds := [], alts := [], laidByText := true, laidKinds := [.data], laidTests := true, laidLooks := .later }
def DiagramPrunesUptoCardSaid : Prop := Claim7.holds Tryd.pinned (.plain (OpenSpec.upto diagramPrunesSpec)) diagramPrunesUptoCard

/-- THE SECOND FORM's CARD OF 'commutatorlaw10.DiagramFollows'. -/
def diagramFollowsUptoCard : Claim7 := { stood := { row := diagramFollowsUptoRow, standIns := [], harness := (true, "0a4f3e500317e0ed3ba424dfa704aec1e4f0113350799e3bf4319d6d027068c6"), looks := true }, kinds := [], alts := [], laidByText := true, laidKinds := [.data], laidTests := true, laidLooks := .later }
def DiagramFollowsUptoCardSaid : Prop := Claim7.holds Tryd.pinned (.plain (OpenSpec.upto diagramFollowsSpec)) diagramFollowsUptoCard

/-- THE SECOND FORM's CARD OF 'commutatorlaw10.DiagramCircles'. -/
def diagramCirclesUptoCard : Claim7 := { stood := { row := diagramCirclesUptoRow, standIns := [], harness := (true, "0a4f3e500317e0ed3ba424dfa704aec1e4f0113350799e3bf4319d6d027068c6"), looks := true }, kinds := [], alts := [], laidByText := true, laidKinds := [.data], laidTests := true, laidLooks := .later }
def DiagramCirclesUptoCardSaid : Prop := Claim7.holds Tryd.pinned (.plain (OpenSpec.upto diagramCirclesSpec)) diagramCirclesUptoCard

/-- THE SECOND FORM's CARD OF 'commutatorlaw10.DiagramAgain'. -/
def diagramAgainUptoCard : Claim7 := { stood := { row := diagramAgainUptoRow, standIns := [], harness := (true, "0a4f3e500317e0ed3ba424dfa704aec1e4f0113350799e3bf4319d6d027068c6"), looks := true }, kinds := [], alts := [], laidByText := true, laidKinds := [.data], laidTests := true, laidLooks := .later }
def DiagramAgainUptoCardSaid : Prop := Claim7.holds Tryd.pinned (.plain (OpenSpec.upto diagramAgainSpec)) diagramAgainUptoCard

/-- THE SECOND FORM's CARD OF 'commutatorlaw10.DiagramDepends'. -/
def diagramDependsUptoCard : Claim7 := { stood := { row := diagramDependsUptoRow, standIns := [], harness := (true, "0a4f3e500317e0ed3ba424dfa704aec1e4f0113350799e3bf4319d6d027068c6"), looks := true }, kinds := [], alts := [], laidByText := true, laidKinds := [.data], laidTests := true, laidLooks := .later }
def DiagramDependsUptoCardSaid : Prop := Claim7.holds Tryd.pinned (.plain (OpenSpec.upto diagramDependsSpec)) diagramDependsUptoCard
end Rows
end Go.Proofs.YtgajibdmihdkcaaDoor
