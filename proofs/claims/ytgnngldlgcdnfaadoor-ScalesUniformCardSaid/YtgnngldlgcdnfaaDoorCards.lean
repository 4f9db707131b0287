/-
  DERIVED. GIVEN WITH THE SEED: THE CARDS: each row of YtgnngldlgcdnfaaDoorRows.lean that lists a variable, with what it lists TIED to the program's text (the seventh form; the later family's looks); each row that meets fmt, with fmt's text TOLD by the authors' own Lean function (tested against real Go, not proved from fmt's source: count such statements apart). THE CARD IS WHAT COUNTS. Prove the row's statement (the work); the ties are given (YtgnngldlgcdnfaaDoorTie.lean); close each card by the builder's one call (the guide's Derived/Test/ToyasCard.lean, 'card_holds'). Laid BY PROGRAM, IN A SANDBOX (cutbox-door.mjs). By AI agents, Wed Nov 11 2026. No macro, syntax, notation, axiom, sorry.
-/
import Derived.Test.YtgnngldlgcdnfaaDoorRows
import GoSem.ClaimSeven
namespace Go.Proofs.YtgnngldlgcdnfaaDoor
namespace Rows

/-- THE TIED CARD OF 'commutatorlaw13.ScalesGreatest'. -/
def scalesGreatestCard : Claim7 := { stood := { row := scalesGreatestRow, standIns := [], harness := (true, "044506e5094ca1f9486cecd1297345964fc5860ada11feb16d30a8f72c7f6ab1"), looks := true }, kinds := [], alts := [], laidByText := true, laidKinds := [.data], laidTests := true, laidLooks := .later }
def ScalesGreatestCardSaid : Prop := Claim7.holds Tryd.pinned (.plain (OpenSpec.ofChange scalesGreatestSpec)) scalesGreatestCard

/-- THE TIED CARD OF 'commutatorlaw13.ScalesUniform'. -/
def scalesUniformCard : Claim7 := { stood := { row := scalesUniformRow, standIns := [], harness := (true, "044506e5094ca1f9486cecd1297345964fc5860ada11feb16d30a8f72c7f6ab1"), looks := true }, kinds := [], alts := [], laidByText := true, laidKinds := [.data], laidTests := true, laidLooks := .later }
def ScalesUniformCardSaid : Prop := Claim7.holds Tryd.pinned (.plain (OpenSpec.ofChange scalesUniformSpec)) scalesUniformCard

/-- THE TIED CARD OF 'commutatorlaw13.ScalesNarrow'. -/
def scalesNarrowCard : Claim7 := { stood := { row := scalesNarrowRow, standIns := [], harness := (true, "044506e5094ca1f9486cecd1297345964fc5860ada11feb16d30a8f72c7f6ab1"), looks := true }, kinds := [], alts := [], laidByText := true, laidKinds := [.data], laidTests := true, laidLooks := .later }
def ScalesNarrowCardSaid : Prop := Claim7.holds Tryd.pinned (.plain (OpenSpec.ofChange scalesNarrowSpec)) scalesNarrowCard

/-- THE TIED CARD OF 'commutatorlaw13.ScalesMoves'. -/
def scalesMovesCard : Claim7 := { stood := { row := scalesMovesRow, standIns := [], harness := (true, "044506e5094ca1f9486cecd1297345964fc5860ada11feb16d30a8f72c7f6ab1"), looks := true }, kinds := [], alts := [], laidByText := true, laidKinds := [.data], laidTests := true, laidLooks := .later }
def ScalesMovesCardSaid : Prop := Claim7.holds Tryd.pinned (.plain (OpenSpec.ofChange scalesMovesSpec)) scalesMovesCard

/-- THE SECOND FORM's CARD OF 'commutatorlaw13.ScalesGreatest'. -/
def scalesGreatestUptoCard : Claim7 := { stood := { row := scalesGreatestUptoRow, standIns := [], harness := (true, "044506e5094ca1f9486cecd1297345964fc5860ada11feb16d30a8f72c7f6ab1"), looks := true }, kinds := [], alts := [], laidByText := true, laidKinds := [.data], laidTests := true, laidLooks := .later }
def ScalesGreatestUptoCardSaid : Prop := Claim7.holds Tryd.pinned (.plain (OpenSpec.upto scalesGreatestSpec)) scalesGreatestUptoCard

/-- THE SECOND FORM's CARD OF 'commutatorlaw13.ScalesUniform'. -/
def scalesUniformUptoCard : Claim7 := { stood := { row := scalesUniformUptoRow, standIns := [], harness := (true, "044506e5094ca1f9486cecd1297345964fc5860ada11feb16d30a8f72c7f6ab1"), looks := true }, kinds := [], alts := [], laidByText := true, laidKinds := [.data], laidTests := true, laidLooks := .later }
def ScalesUniformUptoCardSaid : Prop := Claim7.holds Tryd.pinned (.plain (OpenSpec.upto scalesUniformSpec)) scalesUniformUptoCard

/-- THE SECOND FORM's CARD OF 'commutatorlaw13.ScalesNarrow'. -/
def scalesNarrowUptoCard : Claim7 := { stood := { row := scalesNarrowUptoRow, standIns := [], harness := (true, "044506e5094ca1f9486cecd1297345964fc5860ada11feb16d30a8f72c7f6ab1"), looks := true }, kinds := [], alts := [], laidByText := true, laidKinds := [.data], laidTests := true, laidLooks := .later }
def ScalesNarrowUptoCardSaid : Prop := Claim7.holds Tryd.pinned (.plain (OpenSpec.upto scalesNarrowSpec)) scalesNarrowUptoCard

/-- THE SECOND FORM's CARD OF 'commutatorlaw13.ScalesMoves'. -/
def scalesMovesUptoCard : Claim7 := { stood := { row := scalesMovesUptoRow, standIns := [], harness := (true, "044506e5094ca1f9486cecd1297345964fc5860ada11feb16d30a8f72c7f6ab1"), looks := true }, kinds := [], alts := [], laidByText := true, laidKinds := [.data], laidTests := true, laidLooks := .later }
def ScalesMovesUptoCardSaid : Prop := Claim7.holds Tryd.pinned (.plain (OpenSpec.upto scalesMovesSpec)) scalesMovesUptoCard
end Rows
end Go.Proofs.YtgnngldlgcdnfaaDoor
