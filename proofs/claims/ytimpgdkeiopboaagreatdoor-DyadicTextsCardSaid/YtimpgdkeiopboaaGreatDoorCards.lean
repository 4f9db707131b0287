/-
  DERIVED. GIVEN WITH THE SEED: THE CARDS: each row of YtimpgdkeiopboaaGreatDoorRows.lean that lists a variable, with what it lists TIED to the program's text (the seventh form; the later family's looks); each row that meets fmt, with fmt's text TOLD by the authors' own Lean function (tested against real Go, not proved from fmt's source: count such statements apart). THE CARD IS WHAT COUNTS. Prove the row's statement (the work); the ties are given (YtimpgdkeiopboaaGreatDoorTie.lean); close each card by the builder's one call (the guide's Derived/Test/ToyasCard.lean, 'card_holds'). Laid BY PROGRAM, IN A SANDBOX (cutbox-door.mjs). By AI agents, Wed Nov 11 2026. No macro, syntax, notation, axiom, sorry.
-/
import Derived.Test.YtimpgdkeiopboaaGreatDoorRows
import GoSem.ClaimSeven
namespace Go.Proofs.YtimpgdkeiopboaaGreatDoor
namespace Rows

/-- THE TIED CARD OF 'commutatorlaw02.DyadicTexts'. -/
def dyadicTextsCard : Claim7 := { stood := { row := dyadicTextsRow, standIns := [], harness := (true, "dac4ad10e0b99226b734ad00b27a427c7e719f956b864735e702966dd8e41800"), looks := true }, kinds := [], alts := [], laidByText := true, laidKinds := [.data, .data, .data, .sentinel, .sentinel], laidTests := true, laidLooks := .later }
def DyadicTextsCardSaid : Prop := Claim7.holds Tryz.pinned (.plain (OpenSpec.ofChange dyadicTextsSpec)) dyadicTextsCard

/-- THE TIED CARD OF 'commutatorlaw02.DyadicParses'. -/
def dyadicParsesCard : Claim7 := { stood := { row := dyadicParsesRow, standIns := [], harness := (true, "dac4ad10e0b99226b734ad00b27a427c7e719f956b864735e702966dd8e41800"), looks := true }, kinds := [], alts := [], laidByText := true, laidKinds := [.data, .data, .data, .sentinel, .sentinel], laidTests := true, laidLooks := .later }
def DyadicParsesCardSaid : Prop := Claim7.holds Tryz.pinned (.plain (OpenSpec.ofChange dyadicParsesSpec)) dyadicParsesCard

/-- THE SECOND FORM's CARD OF 'commutatorlaw02.DyadicTexts'. -/
def dyadicTextsUptoCard : Claim7 := { stood := { row := dyadicTextsUptoRow, standIns := [], harness := (true, "dac4ad10e0b99226b734ad00b27a427c7e719f956b864735e702966dd8e41800"), looks := true }, kinds := [], alts := [], laidByText := true, laidKinds := [.data, .data, .data, .sentinel, .sentinel], laidTests := true, laidLooks := .later }
def DyadicTextsUptoCardSaid : Prop := Claim7.holds Tryz.pinned (.plain (OpenSpec.upto dyadicTextsSpec)) dyadicTextsUptoCard

/-- THE SECOND FORM's CARD OF 'commutatorlaw02.DyadicParses'. -/
def dyadicParsesUptoCard : Claim7 := { stood := { row := dyadicParsesUptoRow, standIns := [], harness := (true, "dac4ad10e0b99226b734ad00b27a427c7e719f956b864735e702966dd8e41800"), looks := true }, kinds := [], alts := [], laidByText := true, laidKinds := [.data, .data, .data, .sentinel, .sentinel], laidTests := true, laidLooks := .later }
def DyadicParsesUptoCardSaid : Prop := Claim7.holds Tryz.pinned (.plain (OpenSpec.upto dyadicParsesSpec)) dyadicParsesUptoCard
end Rows
end Go.Proofs.YtimpgdkeiopboaaGreatDoor
