/-
  DERIVED. GIVEN WITH THE SEED: THE CARDS: each row of YtkocmdpfknoiaaaGreatDoorRows.lean that lists a variable, with what it lists TIED to the program's text (the seventh form; the later family's looks); each row that meets fmt, with fmt's text TOLD by the authors' own Lean function (tested against real Go, not proved from fmt's source: count such statements apart). THE CARD IS WHAT COUNTS. Prove the row's statement (the work); the ties are given (YtkocmdpfknoiaaaGreatDoorTie.lean); close each card by the builder's one call (the guide's Derived/Test/ToyasCard.lean, 'card_holds'). Laid BY PROGRAM, IN A SANDBOX (cutbox-door.mjs). By AI agents, Wed Nov 11 2026. No macro, syntax, notation, axiom, sorry.
-/
import Derived.Test.YtkocmdpfknoiaaaGreatDoorRows
import GoSem.ClaimSeven
namespace Go.Proofs.YtkocmdpfknoiaaaGreatDoor
namespace Rows

/-- THE TIED CARD OF 'commutatorlaw15.CompileMakes'. -/
def compileMakesCard : Claim7 := { stood := { row := compileMakesRow, standIns := [], harness := (true, "857050b3168a563e26f6e154243bfc60420cab29506b268df2d816425ac0b815"), looks := true }, kinds := [], alts := [], laidByText := true, laidKinds := [.data, .data], laidTests := true, laidLooks := .later }
def CompileMakesCardSaid : Prop := Claim7.holds Tryz.pinned (.plain (OpenSpec.ofChange compileMakesSpec)) compileMakesCard

/-- THE TIED CARD OF 'commutatorlaw15.CompileWhole'. -/
def compileWholeCard : Claim7 := { stood := { row := compileWholeRow, standIns := [], harness := (true, "857050b3168a563e26f6e154243bfc60420cab29506b268df2d816425ac0b815"), looks := true }, kinds := [], alts := [], laidByText := true, laidKinds := [.data, .data], laidTests := true, laidLooks := .later }
def CompileWholeCardSaid : Prop := Claim7.holds Tryz.pinned (.plain (OpenSpec.ofChange compileWholeSpec)) compileWholeCard

/-- THE TIED CARD OF 'commutatorlaw15.CompileNear'. -/
def compileNearCard : Claim7 := { stood := { row := compileNearRow, standIns := [], harness := (true, "857050b3168a563e26f6e154243bfc60420cab29506b268df2d816425ac0b815"), looks := true }, kinds := [], alts := [], laidByText := true, laidKinds := [.data, .data], laidTests := true, laidLooks := .later }
def CompileNearCardSaid : Prop := Claim7.holds Tryz.pinned (.plain (OpenSpec.ofChange compileNearSpec)) compileNearCard

/-- THE TIED CARD OF 'commutatorlaw15.CompileCells'. -/
def compileCellsCard : Claim7 := { stood := { row := compileCellsRow, standIns := [], harness := (true, "857050b3168a563e26f6e154243bfc60420cab29506b268df2d816425ac0b815"), looks := true }, kinds := [], alts := [], laidByText := true, laidKinds := [.data, .data], laidTests := true, laidLooks := .later }
def CompileCellsCardSaid : Prop := Claim7.holds Tryz.pinned (.plain (OpenSpec.ofChange compileCellsSpec)) compileCellsCard

/-- THE SECOND FORM's CARD OF 'commutatorlaw15.CompileMakes'. -/
def compileMakesUptoCard : Claim7 := { stood := { row := compileMakesUptoRow, standIns := [], harness := (true, "857050b3168a563e26f6e154243bfc60420cab29506b268df2d816425ac0b815"), looks := true }, kinds := [], alts := [], laidByText := true, laidKinds := [.data, .data], laidTests := true, laidLooks := .later }
def CompileMakesUptoCardSaid : Prop := Claim7.holds Tryz.pinned (.plain (OpenSpec.upto compileMakesSpec)) compileMakesUptoCard

/-- THE SECOND FORM's CARD OF 'commutatorlaw15.CompileWhole'. -/
def compileWholeUptoCard : Claim7 := { stood := { row := compileWholeUptoRow, standIns := [], harness := (true, "857050b3168a563e26f6e154243bfc60420cab29506b268df2d816425ac0b815"), looks := true }, kinds := [], alts := [], laidByText := true, laidKinds := [.data, .data], laidTests := true, laidLooks := .later }
def CompileWholeUptoCardSaid : Prop := Claim7.holds Tryz.pinned (.plain (OpenSpec.upto compileWholeSpec)) compileWholeUptoCard

/-- THE SECOND FORM's CARD OF 'commutatorlaw15.CompileNear'. -/
def compileNearUptoCard : Claim7 := { stood := { row := compileNearUptoRow, standIns := [], harness := (true, "857050b3168a563e26f6e154243bfc60420cab29506b268df2d816425ac0b815"), looks := true }, kinds := [], alts := [], laidByText := true, laidKinds := [.data, .data], laidTests := true, laidLooks := .later }
def CompileNearUptoCardSaid : Prop := Claim7.holds Tryz.pinned (.plain (OpenSpec.upto compileNearSpec)) compileNearUptoCard

/-- THE SECOND FORM's CARD OF 'commutatorlaw15.CompileCells'. -/
def compileCellsUptoCard : Claim7 := { stood := { row := compileCellsUptoRow, standIns := [], harness := (true, "857050b3168a563e26f6e154243bfc60420cab29506b268df2d816425ac0b815"), looks := true }, kinds := [], alts := [], laidByText := true, laidKinds := [.data, .data], laidTests := true, laidLooks := .later }
def CompileCellsUptoCardSaid : Prop := Claim7.holds Tryz.pinned (.plain (OpenSpec.upto compileCellsSpec)) compileCellsUptoCard
end Rows
end Go.Proofs.YtkocmdpfknoiaaaGreatDoor
