/-
  DERIVED. GIVEN WITH THE SEED: THE CARDS: each row of YtcdkkohklhmpgaaDoorRows.lean that lists a variable, with what it lists TIED to the program's text (the seventh form; the later family's looks); each row that meets fmt, with fmt's text TOLD by the authors' own Lean function (tested against real Go, not proved from fmt's source: count such statements apart). THE CARD IS WHAT COUNTS. Prove the row's statement (the work); the ties are given (YtcdkkohklhmpgaaDoorTie.lean); close each card by the builder's one call (the guide's Derived/Test/ToyasCard.lean, 'card_holds'). Laid BY PROGRAM, IN A SANDBOX (cutbox-door.mjs). By AI agents, Wed Nov 11 2026. No macro, syntax, notation, axiom, sorry.
-/
import Derived.Test.YtcdkkohklhmpgaaDoorRows
import GoSem.ClaimSeven
namespace Go.Proofs.YtcdkkohklhmpgaaDoor
namespace Rows

/-- THE TIED CARD OF 'commutatorlaw10.DiagramAgain'. -/
def diagramAgainCard : Claim7 := { stood := { row := diagramAgainRow, standIns := [], harness := (true, "1f2b2650e7948629c6c395e92d08991898300ded303dcd39ec098986d9824074"), looks := true }, kinds := [], alts := [], laidByText := true, laidKinds := [.data], laidTests := true, laidLooks := .later }
def DiagramAgainCardSaid : Prop := Claim7.holds Tryd.pinned (.plain (OpenSpec.ofChange diagramAgainSpec)) diagramAgainCard

/-- THE SECOND FORM's CARD OF 'commutatorlaw10.DiagramAgain'. -/
def diagramAgainUptoCard : Claim7 := { stood := { row := diagramAgainUptoRow, standIns := [], harness := (true, "1f2b2650e7948629c6c395e92d08991898300ded303dcd39ec098986d9824074"), looks := true }, kinds := [], alts := [], laidByText := true, laidKinds := [.data], laidTests := true, laidLooks := .later }
def DiagramAgainUptoCardSaid : Prop := Claim7.holds Tryd.pinned (.plain (OpenSpec.upto diagramAgainSpec)) diagramAgainUptoCard
end Rows
end Go.Proofs.YtcdkkohklhmpgaaDoor
