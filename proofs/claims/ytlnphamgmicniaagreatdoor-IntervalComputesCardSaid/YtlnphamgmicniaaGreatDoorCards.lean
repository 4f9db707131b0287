/-
  DERIVED. GIVEN WITH THE SEED: THE CARDS: each row of YtlnphamgmicniaaGreatDoorRows.lean that lists a variable, with what it lists TIED to the program's text (the seventh form; the later family's looks); each row that meets fmt, with fmt's text TOLD by the authors' own Lean function (tested against real Go, not proved from fmt's source: count such statements apart). THE CARD IS WHAT COUNTS. Prove the row's statement (the work); the ties are given (YtlnphamgmicniaaGreatDoorTie.lean); close each card by the builder's one call (the guide's Derived/Test/ToyasCard.lean, 'card_holds'). Laid BY PROGRAM, IN A SANDBOX (cutbox-door.mjs). By AI agents, Wed Nov 11 2026. No macro, syntax, notation, axiom, sorry.
-/
import Derived.Test.YtlnphamgmicniaaGreatDoorRows
import GoSem.ClaimSeven
namespace Go.Proofs.YtlnphamgmicniaaGreatDoor
namespace Rows

/-- THE TIED CARD OF 'commutatorlaw02.DyadicParses'. -/
def dyadicParsesCard : Claim7 := { stood := { row := dyadicParsesRow, standIns := [], harness := (true, "b036d94a8c7e7e9a9dd96f01119e1f6a20d26a3ced28d660b1ef255f8a421f9d"), looks := true }, kinds := [], alts := [], laidByText := true, laidKinds := [.data, .data, .data, .sentinel, .sentinel], laidTests := true, laidLooks := .later }
def DyadicParsesCardSaid : Prop := Claim7.holds Tryz.pinned (.plain (OpenSpec.ofChange dyadicParsesSpec)) dyadicParsesCard

/-- THE TIED CARD OF 'commutatorlaw03.IntervalComputes'. -/
def intervalComputesCard : Claim7 := { stood := { row := intervalComputesRow, standIns := [], harness := (true, "b036d94a8c7e7e9a9dd96f01119e1f6a20d26a3ced28d660b1ef255f8a421f9d"), looks := true }, kinds := [], alts := [], laidByText := true, laidKinds := [.data, .data, .data], laidTests := true, laidLooks := .later }
def IntervalComputesCardSaid : Prop := Claim7.holds Tryz.pinned (.plain (OpenSpec.ofChange intervalComputesSpec)) intervalComputesCard

/-- THE TIED CARD OF 'commutatorlaw03.IntervalMakes'. -/
def intervalMakesCard : Claim7 := { stood := { row := intervalMakesRow, standIns := [], harness := (true, "b036d94a8c7e7e9a9dd96f01119e1f6a20d26a3ced28d660b1ef255f8a421f9d"), looks := true }, kinds := [], alts := [], laidByText := true, laidKinds := [.data, .data, .data], laidTests := true, laidLooks := .later }
def IntervalMakesCardSaid : Prop := Claim7.holds Tryz.pinned (.plain (OpenSpec.ofChange intervalMakesSpec)) intervalMakesCard

/-- THE TIED CARD OF 'commutatorlaw03.IntervalLimits'. -/
def intervalLimitsCard : Claim7 := { stood := { row := intervalLimitsRow, standIns := [], harness := (true, "b036d94a8c7e7e9a9dd96f01119e1f6a20d26a3ced28d660b1ef255f8a421f9d"), looks := true }, kinds := [], alts := [], laidByText := true, laidKinds := [.data, .data, .data], laidTests := true, laidLooks := .later }
def IntervalLimitsCardSaid : Prop := Claim7.holds Tryz.pinned (.plain (OpenSpec.ofChange intervalLimitsSpec)) intervalLimitsCard

/-- THE SECOND FORM's CARD OF 'commutatorlaw02.DyadicParses'. -/
def dyadicParsesUptoCard : Claim7 := { stood := { row := dyadicParsesUptoRow, standIns := [], harness := (true, "b036d94a8c7e7e9a9dd96f01119e1f6a20d26a3ced28d660b1ef255f8a421f9d"), looks := true }, kinds := [], alts := [], laidByText := true, laidKinds := [.data, .data, .data, .sentinel, .sentinel], laidTests := true, laidLooks := .later }
def DyadicParsesUptoCardSaid : Prop := Claim7.holds Tryz.pinned (.plain (OpenSpec.upto dyadicParsesSpec)) dyadicParsesUptoCard

/-- THE SECOND FORM's CARD OF 'commutatorlaw03.IntervalComputes'. -/
def intervalComputesUptoCard : Claim7 := { stood := { row := intervalComputesUptoRow, standIns := [], harness := (true, "b036d94a8c7e7e9a9dd96f01119e1f6a20d26a3ced28d660b1ef255f8a421f9d"), looks := true }, kinds := [], alts := [], laidByText := true, laidKinds := [.data, .data, .data], laidTests := true, laidLooks := .later }
def IntervalComputesUptoCardSaid : Prop := Claim7.holds Tryz.pinned (.plain (OpenSpec.upto intervalComputesSpec)) intervalComputesUptoCard

/-- THE SECOND FORM's CARD OF 'commutatorlaw03.IntervalMakes'. -/
def intervalMakesUptoCard : Claim7 := { stood := { row := intervalMakesUptoRow, standIns := [], harness := (true, "b036d94a8c7e7e9a9dd96f01119e1f6a20d26a3ced28d660b1ef255f8a421f9d"), looks := true }, kinds := [], alts := [], laidByText := true, laidKinds := [.data, .data, .data], laidTests := true, laidLooks := .later }
def IntervalMakesUptoCardSaid : Prop := Claim7.holds Tryz.pinned (.plain (OpenSpec.upto intervalMakesSpec)) intervalMakesUptoCard

/-- THE SECOND FORM's CARD OF 'commutatorlaw03.IntervalLimits'. -/
def intervalLimitsUptoCard : Claim7 := { stood := { row := intervalLimitsUptoRow, standIns := [], harness := (true, "b036d94a8c7e7e9a9dd96f01119e1f6a20d26a3ced28d660b1ef255f8a421f9d"), looks := true }, kinds := [], alts := [], laidByText := true, laidKinds := [.data, .data, .data], laidTests := true, laidLooks := .later }
def IntervalLimitsUptoCardSaid : Prop := Claim7.holds Tryz.pinned (.plain (OpenSpec.upto intervalLimitsSpec)) intervalLimitsUptoCard
end Rows
end Go.Proofs.YtlnphamgmicniaaGreatDoor
