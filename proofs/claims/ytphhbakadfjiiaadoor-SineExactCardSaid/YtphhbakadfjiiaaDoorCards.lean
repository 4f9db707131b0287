/-
  DERIVED. GIVEN WITH THE SEED: THE CARDS: each row of YtphhbakadfjiiaaDoorRows.lean that lists a variable, with what it lists TIED to the program's text (the seventh form; the later family's looks); each row that meets fmt, with fmt's text TOLD by the authors' own Lean function (tested against real Go, not proved from fmt's source: count such statements apart). THE CARD IS WHAT COUNTS. Prove the row's statement (the work); the ties are given (YtphhbakadfjiiaaDoorTie.lean); close each card by the builder's one call (the guide's Derived/Test/ToyasCard.lean, 'card_holds'). Laid BY PROGRAM, IN A SANDBOX (cutbox-door.mjs). By AI agents, Wed Nov 11 2026. No macro, syntax, notation, axiom, sorry.
-/
import Derived.Test.YtphhbakadfjiiaaDoorRows
import GoSem.ClaimSeven
namespace Go.Proofs.YtphhbakadfjiiaaDoor
namespace Rows

/-- THE TIED CARD OF 'commutatorlaw06.SineValues'. -/
def sineValuesCard : Claim7 := { stood := { row := sineValuesRow, standIns := [], harness := (true, "937d72c00eea0bb7eefc292342e9fb83ad38e9bf1f6faeb710cfaca3bd3a8eec"), looks := false }, kinds := [], alts := [], laidByText := true, laidKinds := [.data], laidTests := true, laidLooks := .later }
def SineValuesCardSaid : Prop := Claim7.holds Tryd.pinned (.plain (OpenSpec.ofChange sineValuesSpec)) sineValuesCard

/-- THE TIED CARD OF 'commutatorlaw06.SineTable'. -/
def sineTableCard : Claim7 := { stood := { row := sineTableRow, standIns := [], harness := (true, "937d72c00eea0bb7eefc292342e9fb83ad38e9bf1f6faeb710cfaca3bd3a8eec"), looks := false }, kinds := [], alts := [], laidByText := true, laidKinds := [.data], laidTests := true, laidLooks := .later }
def SineTableCardSaid : Prop := Claim7.holds Tryd.pinned (.plain (OpenSpec.ofChange sineTableSpec)) sineTableCard

/-- THE TIED CARD OF 'commutatorlaw06.SineLength'. -/
def sineLengthCard : Claim7 := { stood := { row := sineLengthRow, standIns := [], harness := (true, "937d72c00eea0bb7eefc292342e9fb83ad38e9bf1f6faeb710cfaca3bd3a8eec"), looks := false }, kinds := [], alts := [], laidByText := true, laidKinds := [.data], laidTests := true, laidLooks := .later }
def SineLengthCardSaid : Prop := Claim7.holds Tryd.pinned (.plain (OpenSpec.ofChange sineLengthSpec)) sineLengthCard

/-- THE TIED CARD OF 'commutatorlaw06.SineExact'. -/
def sineExactCard : Claim7 := { stood := { row := sineExactRow, standIns := [], harness := (true, "937d72c00eea0bb7eefc292342e9fb83ad38e9bf1f6faeb710cfaca3bd3a8eec"), looks := false }, kinds := [], alts := [], laidByText := true, laidKinds := [.data], laidTests := true, laidLooks := .later }
def SineExactCardSaid : Prop := Claim7.holds Tryd.pinned (.plain (OpenSpec.ofChange sineExactSpec)) sineExactCard

/-- THE TIED CARD OF 'commutatorlaw06.SineSymmetric'. -/
def sineSymmetricCard : Claim7 := { stood := { row := sineSymmetricRow, standIns := [], harness := (true, "937d72c00eea0bb7eefc292342e9fb83ad38e9bf1f6faeb710cfaca3bd3a8eec"), looks := false }, kinds := [], alts := [], laidByText := true, laidKinds := [.data], laidTests := true, laidLooks := .later }
def SineSymmetricCardSaid : Prop := Claim7.holds Tryd.pinned (.plain (OpenSpec.ofChange sineSymmetricSpec)) sineSymmetricCard

/-- THE TIED CARD OF 'commutatorlaw06.SineSteps'. -/
def sineStepsCard : Claim7 := { stood := { row := sineStepsRow, standIns := [], harness := (true, "937d72c00eea0bb7eefc292342e9fb83ad38e9bf1f6faeb710cfaca3bd3a8eec"), looks := false }, kinds := [], alts := [], laidByText := true, laidKinds := [.data], laidTests := true, laidLooks := .later }
def SineStepsCardSaid : Prop := Claim7.holds Tryd.pinned (.plain (OpenSpec.ofChange sineStepsSpec)) sineStepsCard

/-- THE TIED CARD OF 'commutatorlaw06.SineTurns'. -/
def sineTurnsCard : Claim7 := { stood := { row := sineTurnsRow, standIns := [], harness := (true, "937d72c00eea0bb7eefc292342e9fb83ad38e9bf1f6faeb710cfaca3bd3a8eec"), looks := false }, kinds := [], alts := [], laidByText := true, laidKinds := [.data], laidTests := true, laidLooks := .later }
def SineTurnsCardSaid : Prop := Claim7.holds Tryd.pinned (.plain (OpenSpec.ofChange sineTurnsSpec)) sineTurnsCard

/-- THE TIED CARD OF 'commutatorlaw06.SineSums'. -/
def sineSumsCard : Claim7 := { stood := { row := sineSumsRow, standIns := [], harness := (true, "937d72c00eea0bb7eefc292342e9fb83ad38e9bf1f6faeb710cfaca3bd3a8eec"), looks := false }, kinds := [], alts := [], laidByText := true, laidKinds := [.data], laidTests := true, laidLooks := .later }
def SineSumsCardSaid : Prop := Claim7.holds Tryd.pinned (.plain (OpenSpec.ofChange sineSumsSpec)) sineSumsCard

/-- THE SECOND FORM's CARD OF 'commutatorlaw06.SineValues'. -/
def sineValuesUptoCard : Claim7 := { stood := { row := sineValuesUptoRow, standIns := [], harness := (true, "937d72c00eea0bb7eefc292342e9fb83ad38e9bf1f6faeb710cfaca3bd3a8eec"), looks := false }, kinds := [], alts := [], laidByText := true, laidKinds := [.data], laidTests := true, laidLooks := .later }
def SineValuesUptoCardSaid : Prop := Claim7.holds Tryd.pinned (.plain (OpenSpec.upto sineValuesSpec)) sineValuesUptoCard

/-- THE SECOND FORM's CARD OF 'commutatorlaw06.SineTable'. -/
def sineTableUptoCard : Claim7 := { stood := { row := sineTableUptoRow, standIns := [], harness := (true, "937d72c00eea0bb7eefc292342e9fb83ad38e9bf1f6faeb710cfaca3bd3a8eec"), looks := false }, kinds := [], alts := [], laidByText := true, laidKinds := [.data], laidTests := true, laidLooks := .later }
def SineTableUptoCardSaid : Prop := Claim7.holds Tryd.pinned (.plain (OpenSpec.upto sineTableSpec)) sineTableUptoCard

/-- THE SECOND FORM's CARD OF 'commutatorlaw06.SineLength'. -/
def sineLengthUptoCard : Claim7 := { stood := { row := sineLengthUptoRow, standIns := [], harness := (true, "937d72c00eea0bb7eefc292342e9fb83ad38e9bf1f6faeb710cfaca3bd3a8eec"), looks := false }, kinds := [], alts := [], laidByText := true, laidKinds := [.data], laidTests := true, laidLooks := .later }
def SineLengthUptoCardSaid : Prop := Claim7.holds Tryd.pinned (.plain (OpenSpec.upto sineLengthSpec)) sineLengthUptoCard

/-- THE SECOND FORM's CARD OF 'commutatorlaw06.SineExact'. -/
def sineExactUptoCard : Claim7 := { stood := { row := sineExactUptoRow, standIns := [], harness := (true, "937d72c00eea0bb7eefc292342e9fb83ad38e9bf1f6faeb710cfaca3bd3a8eec"), looks := false }, kinds := [], alts := [], laidByText := true, laidKinds := [.data], laidTests := true, laidLooks := .later }
def SineExactUptoCardSaid : Prop := Claim7.holds Tryd.pinned (.plain (OpenSpec.upto sineExactSpec)) sineExactUptoCard

/-- THE SECOND FORM's CARD OF 'commutatorlaw06.SineSymmetric'. -/
def sineSymmetricUptoCard : Claim7 := { stood := { row := sineSymmetricUptoRow, standIns := [], harness := (true, "937d72c00eea0bb7eefc292342e9fb83ad38e9bf1f6faeb710cfaca3bd3a8eec"), looks := false }, kinds := [], alts := [], laidByText := true, laidKinds := [.data], laidTests := true, laidLooks := .later }
def SineSymmetricUptoCardSaid : Prop := Claim7.holds Tryd.pinned (.plain (OpenSpec.upto sineSymmetricSpec)) sineSymmetricUptoCard

/-- THE SECOND FORM's CARD OF 'commutatorlaw06.SineSteps'. -/
def sineStepsUptoCard : Claim7 := { stood := { row := sineStepsUptoRow, standIns := [], harness := (true, "937d72c00eea0bb7eefc292342e9fb83ad38e9bf1f6faeb710cfaca3bd3a8eec"), looks := false }, kinds := [], alts := [], laidByText := true, laidKinds := [.data], laidTests := true, laidLooks := .later }
def SineStepsUptoCardSaid : Prop := Claim7.holds Tryd.pinned (.plain (OpenSpec.upto sineStepsSpec)) sineStepsUptoCard

/-- THE SECOND FORM's CARD OF 'commutatorlaw06.SineTurns'. -/
def sineTurnsUptoCard : Claim7 := { stood := { row := sineTurnsUptoRow, standIns := [], harness := (true, "937d72c00eea0bb7eefc292342e9fb83ad38e9bf1f6faeb710cfaca3bd3a8eec"), looks := false }, kinds := [], alts := [], laidByText := true, laidKinds := [.data], laidTests := true, laidLooks := .later }
def SineTurnsUptoCardSaid : Prop := Claim7.holds Tryd.pinned (.plain (OpenSpec.upto sineTurnsSpec)) sineTurnsUptoCard

/-- THE SECOND FORM's CARD OF 'commutatorlaw06.SineSums'. -/
def sineSumsUptoCard : Claim7 := { stood := { row := sineSumsUptoRow, standIns := [], harness := (true, "937d72c00eea0bb7eefc292342e9fb83ad38e9bf1f6faeb710cfaca3bd3a8eec"), looks := false }, kinds := [], alts := [], laidByText := true, laidKinds := [.data], laidTests := true, laidLooks := .later }
def SineSumsUptoCardSaid : Prop := Claim7.holds Tryd.pinned (.plain (OpenSpec.upto sineSumsSpec)) sineSumsUptoCard
end Rows
end Go.Proofs.YtphhbakadfjiiaaDoor
