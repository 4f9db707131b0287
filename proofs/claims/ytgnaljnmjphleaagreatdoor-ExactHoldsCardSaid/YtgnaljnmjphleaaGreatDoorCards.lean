/-
  DERIVED. GIVEN WITH THE SEED: THE CARDS: each row of YtgnaljnmjphleaaGreatDoorRows.lean that lists a variable, with what it lists TIED to the program's text (the seventh form; the later family's looks); each row that meets fmt, with fmt's text TOLD by the authors' own Lean function (tested against real Go, not proved from fmt's source: count such statements apart). THE CARD IS WHAT COUNTS. Prove the row's statement (the work); the ties are given (YtgnaljnmjphleaaGreatDoorTie.lean); close each card by the builder's one call (the guide's Derived/Test/ToyasCard.lean, 'card_holds'). Laid BY PROGRAM, IN A SANDBOX (cutbox-door.mjs). By AI agents, Wed Nov 11 2026. No macro, syntax, notation, axiom, sorry.
-/
import Derived.Test.YtgnaljnmjphleaaGreatDoorRows
import GoSem.ClaimSeven
namespace Go.Proofs.YtgnaljnmjphleaaGreatDoor
namespace Rows

/-- THE TIED CARD OF 'commutatorlaw11.ExactSteps'. -/
def exactStepsCard : Claim7 := { stood := { row := exactStepsRow, standIns := [], harness := (true, "da2764821d72eb82d7fc63f828d3b538b9f6b3ee10f3e6b328c22f7c9774a9df"), looks := true }, kinds := [], alts := [], laidByText := true, laidKinds := [.data], laidTests := true, laidLooks := .later }
def ExactStepsCardSaid : Prop := Claim7.holds Tryz.pinned (.plain (OpenSpec.ofChange exactStepsSpec)) exactStepsCard

/-- THE TIED CARD OF 'commutatorlaw11.ExactRuns'. -/
def exactRunsCard : Claim7 := { stood := { row := exactRunsRow, standIns := [], harness := (true, "da2764821d72eb82d7fc63f828d3b538b9f6b3ee10f3e6b328c22f7c9774a9df"), looks := true }, kinds := [], alts := [], laidByText := true, laidKinds := [.data], laidTests := true, laidLooks := .later }
def ExactRunsCardSaid : Prop := Claim7.holds Tryz.pinned (.plain (OpenSpec.ofChange exactRunsSpec)) exactRunsCard

/-- THE TIED CARD OF 'commutatorlaw11.ExactHolds'. -/
def exactHoldsCard : Claim7 := { stood := { row := exactHoldsRow, standIns := [], harness := (true, "da2764821d72eb82d7fc63f828d3b538b9f6b3ee10f3e6b328c22f7c9774a9df"), looks := true }, kinds := [], alts := [], laidByText := true, laidKinds := [.data], laidTests := true, laidLooks := .later }
def ExactHoldsCardSaid : Prop := Claim7.holds Tryz.pinned (.plain (OpenSpec.ofChange exactHoldsSpec)) exactHoldsCard

/-- THE TIED CARD OF 'commutatorlaw11.ExactPruned'. -/
def exactPrunedCard : Claim7 := { stood := { row := exactPrunedRow, standIns := [], harness := (true, "da2764821d72eb82d7fc63f828d3b538b9f6b3ee10f3e6b328c22f7c9774a9df"), looks := true }, kinds := [], alts := [], laidByText := true, laidKinds := [.data], laidTests := true, laidLooks := .later }
def ExactPrunedCardSaid : Prop := Claim7.holds Tryz.pinned (.plain (OpenSpec.ofChange exactPrunedSpec)) exactPrunedCard

/-- THE TIED CARD OF 'commutatorlaw11.ExactAffine'. -/
def exactAffineCard : Claim7 := { stood := { row := exactAffineRow, standIns := [], harness := (true, "da2764821d72eb82d7fc63f828d3b538b9f6b3ee10f3e6b328c22f7c9774a9df"), looks := true }, kinds := [], alts := [], laidByText := true, laidKinds := [.data], laidTests := true, laidLooks := .later }
def ExactAffineCardSaid : Prop := Claim7.holds Tryz.pinned (.plain (OpenSpec.ofChange exactAffineSpec)) exactAffineCard

/-- THE SECOND FORM's CARD OF 'commutatorlaw11.ExactSteps'. -/
def exactStepsUptoCard : Claim7 := { stood := { row := exactStepsUptoRow, standIns := [], harness := (true, "da2764821d72eb82d7fc63f828d3b538b9f6b3ee10f3e6b328c22f7c9774a9df"), looks := true }, kinds := [], alts := [], laidByText := true, laidKinds := [.data], laidTests := true, laidLooks := .later }
def ExactStepsUptoCardSaid : Prop := Claim7.holds Tryz.pinned (.plain (OpenSpec.upto exactStepsSpec)) exactStepsUptoCard

/-- THE SECOND FORM's CARD OF 'commutatorlaw11.ExactRuns'. -/
def exactRunsUptoCard : Claim7 := { stood := { row := exactRunsUptoRow, standIns := [], harness := (true, "da2764821d72eb82d7fc63f828d3b538b9f6b3ee10f3e6b328c22f7c9774a9df"), looks := true }, kinds := [], alts := [], laidByText := true, laidKinds := [.data], laidTests := true, laidLooks := .later }
def ExactRunsUptoCardSaid : Prop := Claim7.holds Tryz.pinned (.plain (OpenSpec.upto exactRunsSpec)) exactRunsUptoCard

/-- THE SECOND FORM's CARD OF 'commutatorlaw11.ExactHolds'. -/
def exactHoldsUptoCard : Claim7 := { stood := { row := exactHoldsUptoRow, standIns := [], harness := (true, "da2764821d72eb82d7fc63f828d3b538b9f6b3ee10f3e6b328c22f7c9774a9df"), looks := true }, kinds := [], alts := [], laidByText := true, laidKinds := [.data], laidTests := true, laidLooks := .later }
def ExactHoldsUptoCardSaid : Prop := Claim7.holds Tryz.pinned (.plain (OpenSpec.upto exactHoldsSpec)) exactHoldsUptoCard

/-- THE SECOND FORM's CARD OF 'commutatorlaw11.ExactPruned'. -/
def exactPrunedUptoCard : Claim7 := { stood := { row := exactPrunedUptoRow, standIns := [], harness := (true, "da2764821d72eb82d7fc63f828d3b538b9f6b3ee10f3e6b328c22f7c9774a9df"), looks := true }, kinds := [], alts := [], laidByText := true, laidKinds := [.data], laidTests := true, laidLooks := .later }
def ExactPrunedUptoCardSaid : Prop := Claim7.holds Tryz.pinned (.plain (OpenSpec.upto exactPrunedSpec)) exactPrunedUptoCard

/-- THE SECOND FORM's CARD OF 'commutatorlaw11.ExactAffine'. -/
def exactAffineUptoCard : Claim7 := { stood := { row := exactAffineUptoRow, standIns := [], harness := (true, "da2764821d72eb82d7fc63f828d3b538b9f6b3ee10f3e6b328c22f7c9774a9df"), looks := true }, kinds := [], alts := [], laidByText := true, laidKinds := [.data], laidTests := true, laidLooks := .later }
def ExactAffineUptoCardSaid : Prop := Claim7.holds Tryz.pinned (.plain (OpenSpec.upto exactAffineSpec)) exactAffineUptoCard
end Rows
end Go.Proofs.YtgnaljnmjphleaaGreatDoor
