/-
  DERIVED. GIVEN WITH THE SEED: THE CARDS: each row of YtgnaljnmjphleaaDoorRows.lean that lists a variable, with what it lists TIED to the program's text (the seventh form; the later family's looks); each row that meets fmt, with fmt's text TOLD by the authors' own Lean function (tested against real Go, not proved from fmt's source: count such statements apart). THE CARD IS WHAT COUNTS. Prove the row's statement (the work); the ties are given (YtgnaljnmjphleaaDoorTie.lean); close each card by the builder's one call (the guide's Derived/Test/ToyasCard.lean, 'card_holds'). Laid BY PROGRAM, IN A SANDBOX (cutbox-door.mjs). By AI agents, Wed Nov 11 2026. No macro, syntax, notation, axiom, sorry.
-/
import Derived.Test.YtgnaljnmjphleaaDoorRows
import GoSem.ClaimSeven
namespace Go.Proofs.YtgnaljnmjphleaaDoor
namespace Rows

/-- THE TIED CARD OF 'commutatorlaw10.DiagramPrunes'. -/
def diagramPrunesCard : Claim7 := { stood := { row := diagramPrunesRow, standIns := [], harness := (true, "2243f3ac59edb29595ba2177a08198e5caebf9240df7a7156c963e788d607b42"), looks := true }, kinds := [], alts := [], laidByText := true, laidKinds := [.data], laidTests := true, laidLooks := .later }
def DiagramPrunesCardSaid : Prop := Claim7.holds Tryd.pinned (.plain (OpenSpec.ofChange diagramPrunesSpec)) diagramPrunesCard

/-- THE TIED CARD OF 'commutatorlaw10.DiagramAgain'. -/
def diagramAgainCard : Claim7 := { stood := { row := diagramAgainRow, standIns := [], harness := (true, "2243f3ac59edb29595ba2177a08198e5caebf9240df7a7156c963e788d607b42"), looks := true }, kinds := [], alts := [], laidByText := true, laidKinds := [.data], laidTests := true, laidLooks := .later }
def DiagramAgainCardSaid : Prop := Claim7.holds Tryd.pinned (.plain (OpenSpec.ofChange diagramAgainSpec)) diagramAgainCard

/-- THE TIED CARD OF 'commutatorlaw11.ExactValues'. -/
def exactValuesCard : Claim7 := { stood := { row := exactValuesRow, standIns := [], harness := (true, "2243f3ac59edb29595ba2177a08198e5caebf9240df7a7156c963e788d607b42"), looks := true }, kinds := [], alts := [], laidByText := true, laidKinds := [.data], laidTests := true, laidLooks := .later }
def ExactValuesCardSaid : Prop := Claim7.holds Tryd.pinned (.plain (OpenSpec.ofChange exactValuesSpec)) exactValuesCard

/-- THE SECOND FORM's CARD OF 'commutatorlaw10.DiagramPrunes'. -/
def diagramPrunesUptoCard : Claim7 := { stood := { row := diagramPrunesUptoRow, standIns := [], harness := (true, "2243f3ac59edb29595ba2177a08198e5caebf9240df7a7156c963e788d607b42"), looks := true }, kinds := [], alts := [], laidByText := true, laidKinds := [.data], laidTests := true, laidLooks := .later }
def DiagramPrunesUptoCardSaid : Prop := Claim7.holds Tryd.pinned (.plain (OpenSpec.upto diagramPrunesSpec)) diagramPrunesUptoCard

/-- THE SECOND FORM's CARD OF 'commutatorlaw10.DiagramAgain'. -/
def diagramAgainUptoCard : Claim7 := { stood := { row := diagramAgainUptoRow, standIns := [], harness := (true, "2243f3ac59edb29595ba2177a08198e5caebf9240df7a7156c963e788d607b42"), looks := true }, kinds := [], alts := [], laidByText := true, laidKinds := [.data], laidTests := true, laidLooks := .later }
def DiagramAgainUptoCardSaid : Prop := Claim7.holds Tryd.pinned (.plain (OpenSpec.upto diagramAgainSpec)) diagramAgainUptoCard

/-- THE SECOND FORM's CARD OF 'commutatorlaw11.ExactValues'. -/
def exactValuesUptoCard : Claim7 := { stood := { row := exactValuesUptoRow, standIns := [], harness := (true, "2243f3ac59edb29595ba2177a08198e5caebf9240df7a7156c963e788d607b42"), looks := true }, kinds := [], alts := [], laidByText := true, laidKinds := [.data], laidTests := true, laidLooks := .later }
def ExactValuesUptoCardSaid : Prop := Claim7.holds Tryd.pinned (.plain (OpenSpec.upto exactValuesSpec)) exactValuesUptoCard
end Rows
end Go.Proofs.YtgnaljnmjphleaaDoor
