/-
  DERIVED. GIVEN WITH THE SEED: THE CARDS: each row of YtimpgdkeiopboaaDoorRows.lean that lists a variable, with what it lists TIED to the program's text (the seventh form; the later family's looks); each row that meets fmt, with fmt's text TOLD by the authors' own Lean function (tested against real Go, not proved from fmt's source: count such statements apart). THE CARD IS WHAT COUNTS. Prove the row's statement (the work); the ties are given (YtimpgdkeiopboaaDoorTie.lean); close each card by the builder's one call (the guide's Derived/Test/ToyasCard.lean, 'card_holds'). Laid BY PROGRAM, IN A SANDBOX (cutbox-door.mjs). By AI agents, Wed Nov 11 2026. No macro, syntax, notation, axiom, sorry.
-/
import Derived.Test.YtimpgdkeiopboaaDoorRows
import GoSem.ClaimSeven
namespace Go.Proofs.YtimpgdkeiopboaaDoor
namespace Rows

/-- THE TIED CARD OF 'commutatorlaw02.DyadicQuos'. -/
def dyadicQuosCard : Claim7 := { stood := { row := dyadicQuosRow, standIns := [], harness := (true, "1b86aad6c1bdae0b0b31fbf1d067624f04974adbeedbcd4ace2c5d68f656315e"), looks := true }, kinds := [], alts := [], laidByText := true, laidKinds := [.data, .data, .data], laidTests := true, laidLooks := .later }
def DyadicQuosCardSaid : Prop := Claim7.holds Tryd.pinned (.plain (OpenSpec.ofChange dyadicQuosSpec)) dyadicQuosCard

/-- THE SECOND FORM's CARD OF 'commutatorlaw02.DyadicQuos'. -/
def dyadicQuosUptoCard : Claim7 := { stood := { row := dyadicQuosUptoRow, standIns := [], harness := (true, "1b86aad6c1bdae0b0b31fbf1d067624f04974adbeedbcd4ace2c5d68f656315e"), looks := true }, kinds := [], alts := [], laidByText := true, laidKinds := [.data, .data, .data], laidTests := true, laidLooks := .later }
def DyadicQuosUptoCardSaid : Prop := Claim7.holds Tryd.pinned (.plain (OpenSpec.upto dyadicQuosSpec)) dyadicQuosUptoCard
end Rows
end Go.Proofs.YtimpgdkeiopboaaDoor
