/-
  DERIVED. GIVEN WITH THE SEED: THE CARDS: each row of YtkocmdpfknoiaaaDoorRows.lean that lists a variable, with what it lists TIED to the program's text (the seventh form; the later family's looks); each row that meets fmt, with fmt's text TOLD by the authors' own Lean function (tested against real Go, not proved from fmt's source: count such statements apart). THE CARD IS WHAT COUNTS. Prove the row's statement (the work); the ties are given (YtkocmdpfknoiaaaDoorTie.lean); close each card by the builder's one call (the guide's Derived/Test/ToyasCard.lean, 'card_holds'). Laid BY PROGRAM, IN A SANDBOX (cutbox-door.mjs). By AI agents, Wed Nov 11 2026. No macro, syntax, notation, axiom, sorry.
-/
import Derived.Test.YtkocmdpfknoiaaaDoorRows
import GoSem.ClaimSeven
namespace Go.Proofs.YtkocmdpfknoiaaaDoor
namespace Rows

/-- THE TIED CARD OF 'commutatorlaw15.CompileRaw'. -/
def compileRawCard : Claim7 := { stood := { row := compileRawRow, standIns := [], harness := (true, "567cb1e3c89362bcd4c2138050799be44d40115876bddebc9df07b9ee6b2af90"), looks := true }, kinds := [], alts := [], laidByText := true, laidKinds := [.data, .data], laidTests := true, laidLooks := .later }
def CompileRawCardSaid : Prop := Claim7.holds Tryd.pinned (.plain (OpenSpec.ofChange compileRawSpec)) compileRawCard

/-- THE TIED CARD OF 'commutatorlaw15.CompileFine'. -/
def compileFineCard : Claim7 := { stood := { row := compileFineRow, standIns := [], harness := (true, "567cb1e3c89362bcd4c2138050799be44d40115876bddebc9df07b9ee6b2af90"), looks := true }, kinds := [], alts := [], laidByText := true, laidKinds := [.data, .data], laidTests := true, laidLooks := .later }
def CompileFineCardSaid : Prop := Claim7.holds Tryd.pinned (.plain (OpenSpec.ofChange compileFineSpec)) compileFineCard

/-- THE SECOND FORM's CARD OF 'commutatorlaw15.CompileRaw'. -/
def compileRawUptoCard : Claim7 := { stood := { row := compileRawUptoRow, standIns := [], harness := (true, "567cb1e3c89362bcd4c2138050799be44d40115876bddebc9df07b9ee6b2af90"), looks := true }, kinds := [], alts := [], laidByText := true, laidKinds := [.data, .data], laidTests := true, laidLooks := .later }
def CompileRawUptoCardSaid : Prop := Claim7.holds Tryd.pinned (.plain (OpenSpec.upto compileRawSpec)) compileRawUptoCard

/-- THE SECOND FORM's CARD OF 'commutatorlaw15.CompileFine'. -/
def compileFineUptoCard : Claim7 := { stood := { row := compileFineUptoRow, standIns := [], harness := (true, "567cb1e3c89362bcd4c2138050799be44d40115876bddebc9df07b9ee6b2af90"), looks := true }, kinds := [], alts := [], laidByText := true, laidKinds := [.data, .data], laidTests := true, laidLooks := .later }
def CompileFineUptoCardSaid : Prop := Claim7.holds Tryd.pinned (.plain (OpenSpec.upto compileFineSpec)) compileFineUptoCard
end Rows
end Go.Proofs.YtkocmdpfknoiaaaDoor
