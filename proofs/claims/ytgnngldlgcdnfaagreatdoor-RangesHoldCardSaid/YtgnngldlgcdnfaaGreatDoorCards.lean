/-
  DERIVED. GIVEN WITH THE SEED: THE CARDS: each row of YtgnngldlgcdnfaaGreatDoorRows.lean that lists a variable, with what it lists TIED to the program's text (the seventh form; the later family's looks); each row that meets fmt, with fmt's text TOLD by the authors' own Lean function (tested against real Go, not proved from fmt's source: count such statements apart). THE CARD IS WHAT COUNTS. Prove the row's statement (the work); the ties are given (YtgnngldlgcdnfaaGreatDoorTie.lean); close each card by the builder's one call (the guide's Derived/Test/ToyasCard.lean, 'card_holds'). Laid BY PROGRAM, IN A SANDBOX (cutbox-door.mjs). By AI agents, Wed Nov 11 2026. No macro, syntax, notation, axiom, sorry.
-/
import Derived.Test.YtgnngldlgcdnfaaGreatDoorRows
import GoSem.ClaimSeven
namespace Go.Proofs.YtgnngldlgcdnfaaGreatDoor
namespace Rows

/-- THE TIED CARD OF 'commutatorlaw12.RangesEvaluate'. -/
def rangesEvaluateCard : Claim7 := { stood := { row := rangesEvaluateRow, standIns := [], harness := (true, "55c462d391655a60405f3f06a1e3c9f02732ff03754f033f57476cb2baf4d6b5"), looks := true }, kinds := [], alts := [], laidByText := true, laidKinds := [.data], laidTests := true, laidLooks := .later }
def RangesEvaluateCardSaid : Prop := Claim7.holds Tryz.pinned (.plain (OpenSpec.ofChange rangesEvaluateSpec)) rangesEvaluateCard

/-- THE TIED CARD OF 'commutatorlaw12.RangesHold'. -/
def rangesHoldCard : Claim7 := { stood := { row := rangesHoldRow, standIns := [], harness := (true, "55c462d391655a60405f3f06a1e3c9f02732ff03754f033f57476cb2baf4d6b5"), looks := true }, kinds := [], alts := [], laidByText := true, laidKinds := [.data], laidTests := true, laidLooks := .later }
def RangesHoldCardSaid : Prop := Claim7.holds Tryz.pinned (.plain (OpenSpec.ofChange rangesHoldSpec)) rangesHoldCard

/-- THE TIED CARD OF 'commutatorlaw12.RangesContain'. -/
def rangesContainCard : Claim7 := { stood := { row := rangesContainRow, standIns := [], harness := (true, "55c462d391655a60405f3f06a1e3c9f02732ff03754f033f57476cb2baf4d6b5"), looks := true }, kinds := [], alts := [], laidByText := true, laidKinds := [.data], laidTests := true, laidLooks := .later }
def RangesContainCardSaid : Prop := Claim7.holds Tryz.pinned (.plain (OpenSpec.ofChange rangesContainSpec)) rangesContainCard

/-- THE TIED CARD OF 'commutatorlaw12.RangesKeep'. -/
def rangesKeepCard : Claim7 := { stood := { row := rangesKeepRow, standIns := [], harness := (true, "55c462d391655a60405f3f06a1e3c9f02732ff03754f033f57476cb2baf4d6b5"), looks := true }, kinds := [], alts := [], laidByText := true, laidKinds := [.data], laidTests := true, laidLooks := .later }
def RangesKeepCardSaid : Prop := Claim7.holds Tryz.pinned (.plain (OpenSpec.ofChange rangesKeepSpec)) rangesKeepCard

/-- THE TIED CARD OF 'commutatorlaw12.RangesWiden'. -/
def rangesWidenCard : Claim7 := { stood := { row := rangesWidenRow, standIns := [], harness := (true, "55c462d391655a60405f3f06a1e3c9f02732ff03754f033f57476cb2baf4d6b5"), looks := true }, kinds := [], alts := [], laidByText := true, laidKinds := [.data], laidTests := true, laidLooks := .later }
def RangesWidenCardSaid : Prop := Claim7.holds Tryz.pinned (.plain (OpenSpec.ofChange rangesWidenSpec)) rangesWidenCard

/-- THE TIED CARD OF 'commutatorlaw12.RangesLocal'. -/
def rangesLocalCard : Claim7 := { stood := { row := rangesLocalRow, standIns := [], harness := (true, "55c462d391655a60405f3f06a1e3c9f02732ff03754f033f57476cb2baf4d6b5"), looks := true }, kinds := [], alts := [], laidByText := true, laidKinds := [.data], laidTests := true, laidLooks := .later }
def RangesLocalCardSaid : Prop := Claim7.holds Tryz.pinned (.plain (OpenSpec.ofChange rangesLocalSpec)) rangesLocalCard

/-- THE TIED CARD OF 'commutatorlaw13.ScalesChoose'. -/
def scalesChooseCard : Claim7 := { stood := { row := scalesChooseRow, standIns := [], harness := (true, "55c462d391655a60405f3f06a1e3c9f02732ff03754f033f57476cb2baf4d6b5"), looks := true }, kinds := [], alts := [], laidByText := true, laidKinds := [.data], laidTests := true, laidLooks := .later }
def ScalesChooseCardSaid : Prop := Claim7.holds Tryz.pinned (.plain (OpenSpec.ofChange scalesChooseSpec)) scalesChooseCard

/-- THE TIED CARD OF 'commutatorlaw13.ScalesFit'. -/
def scalesFitCard : Claim7 := { stood := { row := scalesFitRow, standIns := [], harness := (true, "55c462d391655a60405f3f06a1e3c9f02732ff03754f033f57476cb2baf4d6b5"), looks := true }, kinds := [], alts := [], laidByText := true, laidKinds := [.data], laidTests := true, laidLooks := .later }
def ScalesFitCardSaid : Prop := Claim7.holds Tryz.pinned (.plain (OpenSpec.ofChange scalesFitSpec)) scalesFitCard

/-- THE SECOND FORM's CARD OF 'commutatorlaw12.RangesEvaluate'. -/
def rangesEvaluateUptoCard : Claim7 := { stood := { row := rangesEvaluateUptoRow, standIns := [], harness := (true, "55c462d391655a60405f3f06a1e3c9f02732ff03754f033f57476cb2baf4d6b5"), looks := true }, kinds := [], alts := [], laidByText := true, laidKinds := [.data], laidTests := true, laidLooks := .later }
def RangesEvaluateUptoCardSaid : Prop := Claim7.holds Tryz.pinned (.plain (OpenSpec.upto rangesEvaluateSpec)) rangesEvaluateUptoCard

/-- THE SECOND FORM's CARD OF 'commutatorlaw12.RangesHold'. -/
def rangesHoldUptoCard : Claim7 := { stood := { row := rangesHoldUptoRow, standIns := [], harness := (true, "55c462d391655a60405f3f06a1e3c9f02732ff03754f033f57476cb2baf4d6b5"), looks := true }, kinds := [], alts := [], laidByText := true, laidKinds := [.data], laidTests := true, laidLooks := .later }
def RangesHoldUptoCardSaid : Prop := Claim7.holds Tryz.pinned (.plain (OpenSpec.upto rangesHoldSpec)) rangesHoldUptoCard

/-- THE SECOND FORM's CARD OF 'commutatorlaw12.RangesContain'. -/
def rangesContainUptoCard : Claim7 := { stood := { row := rangesContainUptoRow, standIns := [], harness := (true, "55c462d391655a60405f3f06a1e3c9f02732ff03754f033f57476cb2baf4d6b5"), looks := true }, kinds := [], alts := [], laidByText := true, laidKinds := [.data], laidTests := true, laidLooks := .later }
def RangesContainUptoCardSaid : Prop := Claim7.holds Tryz.pinned (.plain (OpenSpec.upto rangesContainSpec)) rangesContainUptoCard

/-- THE SECOND FORM's CARD OF 'commutatorlaw12.RangesKeep'. -/
def rangesKeepUptoCard : Claim7 := { stood := { row := rangesKeepUptoRow, standIns := [], harness := (true, "55c462d391655a60405f3f06a1e3c9f02732ff03754f033f57476cb2baf4d6b5"), looks := true }, kinds := [], alts := [], laidByText := true, laidKinds := [.data], laidTests := true, laidLooks := .later }
def RangesKeepUptoCardSaid : Prop := Claim7.holds Tryz.pinned (.plain (OpenSpec.upto rangesKeepSpec)) rangesKeepUptoCard

/-- THE SECOND FORM's CARD OF 'commutatorlaw12.RangesWiden'. -/
def rangesWidenUptoCard : Claim7 := { stood := { row := rangesWidenUptoRow, standIns := [], harness := (true, "55c462d391655a60405f3f06a1e3c9f02732ff03754f033f57476cb2baf4d6b5"), looks := true }, kinds := [], alts := [], laidByText := true, laidKinds := [.data], laidTests := true, laidLooks := .later }
def RangesWidenUptoCardSaid : Prop := Claim7.holds Tryz.pinned (.plain (OpenSpec.upto rangesWidenSpec)) rangesWidenUptoCard

/-- THE SECOND FORM's CARD OF 'commutatorlaw12.RangesLocal'. -/
def rangesLocalUptoCard : Claim7 := { stood := { row := rangesLocalUptoRow, standIns := [], harness := (true, "55c462d391655a60405f3f06a1e3c9f02732ff03754f033f57476cb2baf4d6b5"), looks := true }, kinds := [], alts := [], laidByText := true, laidKinds := [.data], laidTests := true, laidLooks := .later }
def RangesLocalUptoCardSaid : Prop := Claim7.holds Tryz.pinned (.plain (OpenSpec.upto rangesLocalSpec)) rangesLocalUptoCard

/-- THE SECOND FORM's CARD OF 'commutatorlaw13.ScalesChoose'. -/
def scalesChooseUptoCard : Claim7 := { stood := { row := scalesChooseUptoRow, standIns := [], harness := (true, "55c462d391655a60405f3f06a1e3c9f02732ff03754f033f57476cb2baf4d6b5"), looks := true }, kinds := [], alts := [], laidByText := true, laidKinds := [.data], laidTests := true, laidLooks := .later }
def ScalesChooseUptoCardSaid : Prop := Claim7.holds Tryz.pinned (.plain (OpenSpec.upto scalesChooseSpec)) scalesChooseUptoCard

/-- THE SECOND FORM's CARD OF 'commutatorlaw13.ScalesFit'. -/
def scalesFitUptoCard : Claim7 := { stood := { row := scalesFitUptoRow, standIns := [], harness := (true, "55c462d391655a60405f3f06a1e3c9f02732ff03754f033f57476cb2baf4d6b5"), looks := true }, kinds := [], alts := [], laidByText := true, laidKinds := [.data], laidTests := true, laidLooks := .later }
def ScalesFitUptoCardSaid : Prop := Claim7.holds Tryz.pinned (.plain (OpenSpec.upto scalesFitSpec)) scalesFitUptoCard
end Rows
end Go.Proofs.YtgnngldlgcdnfaaGreatDoor
