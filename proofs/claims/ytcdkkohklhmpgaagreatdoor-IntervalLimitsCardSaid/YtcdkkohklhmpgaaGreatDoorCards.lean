/-
  DERIVED. GIVEN WITH THE SEED: THE CARDS: each row of YtcdkkohklhmpgaaGreatDoorRows.lean that lists a variable, with what it lists TIED to the program's text (the seventh form; the later family's looks); each row that meets fmt, with fmt's text TOLD by the authors' own Lean function (tested against real Go, not proved from fmt's source: count such statements apart). THE CARD IS WHAT COUNTS. Prove the row's statement (the work); the ties are given (YtcdkkohklhmpgaaGreatDoorTie.lean); close each card by the builder's one call (the guide's Derived/Test/ToyasCard.lean, 'card_holds'). Laid BY PROGRAM, IN A SANDBOX (cutbox-door.mjs). By AI agents, Wed Nov 11 2026. No macro, syntax, notation, axiom, sorry.
-/
import Derived.Test.YtcdkkohklhmpgaaGreatDoorRows
import GoSem.ClaimSeven
namespace Go.Proofs.YtcdkkohklhmpgaaGreatDoor
namespace Rows

/-- THE TIED CARD OF 'commutatorlaw03.IntervalLimits'. -/
def intervalLimitsCard : Claim7 := { stood := { row := intervalLimitsRow, standIns := [], harness := (true, "4a8906d95980f5030a5410662eeff4fe8ffe0a7668a10a06f01a1f0ac9c403ef"), looks := true }, kinds := [], alts := [], laidByText := true, laidKinds := [.data, .data, .data], laidTests := true, laidLooks := .later }
def IntervalLimitsCardSaid : Prop := Claim7.holds Tryz.pinned (.plain (OpenSpec.ofChange intervalLimitsSpec)) intervalLimitsCard

/-- THE TIED CARD OF 'commutatorlaw11.ExactAffine'. -/
def exactAffineCard : Claim7 := { stood := { row := exactAffineRow, standIns := [], harness := (true, "4a8906d95980f5030a5410662eeff4fe8ffe0a7668a10a06f01a1f0ac9c403ef"), looks := true }, kinds := [], alts := [], laidByText := true, laidKinds := [.data], laidTests := true, laidLooks := .later }
def ExactAffineCardSaid : Prop := Claim7.holds Tryz.pinned (.plain (OpenSpec.ofChange exactAffineSpec)) exactAffineCard

/-- THE TIED CARD OF 'commutatorlaw11.ExactPruned'. -/
def exactPrunedCard : Claim7 := { stood := { row := exactPrunedRow, standIns := [], harness := (true, "4a8906d95980f5030a5410662eeff4fe8ffe0a7668a10a06f01a1f0ac9c403ef"), looks := true }, kinds := [], alts := [], laidByText := true, laidKinds := [.data], laidTests := true, laidLooks := .later }
def ExactPrunedCardSaid : Prop := Claim7.holds Tryz.pinned (.plain (OpenSpec.ofChange exactPrunedSpec)) exactPrunedCard

/-- THE TIED CARD OF 'commutatorlaw12.RangesContain'. -/
def rangesContainCard : Claim7 := { stood := { row := rangesContainRow, standIns := [], harness := (true, "4a8906d95980f5030a5410662eeff4fe8ffe0a7668a10a06f01a1f0ac9c403ef"), looks := true }, kinds := [], alts := [], laidByText := true, laidKinds := [.data], laidTests := true, laidLooks := .later }
def RangesContainCardSaid : Prop := Claim7.holds Tryz.pinned (.plain (OpenSpec.ofChange rangesContainSpec)) rangesContainCard

/-- THE TIED CARD OF 'commutatorlaw12.RangesEvaluate'. -/
def rangesEvaluateCard : Claim7 := { stood := { row := rangesEvaluateRow, standIns := [], harness := (true, "4a8906d95980f5030a5410662eeff4fe8ffe0a7668a10a06f01a1f0ac9c403ef"), looks := true }, kinds := [], alts := [], laidByText := true, laidKinds := [.data], laidTests := true, laidLooks := .later }
def RangesEvaluateCardSaid : Prop := Claim7.holds Tryz.pinned (.plain (OpenSpec.ofChange rangesEvaluateSpec)) rangesEvaluateCard

/-- THE TIED CARD OF 'commutatorlaw12.RangesHold'. -/
def rangesHoldCard : Claim7 := { stood := { row := rangesHoldRow, standIns := [], harness := (true, "4a8906d95980f5030a5410662eeff4fe8ffe0a7668a10a06f01a1f0ac9c403ef"), looks := true }, kinds := [], alts := [], laidByText := true, laidKinds := [.data], laidTests := true, laidLooks := .later }
def RangesHoldCardSaid : Prop := Claim7.holds Tryz.pinned (.plain (OpenSpec.ofChange rangesHoldSpec)) rangesHoldCard

/-- THE TIED CARD OF 'commutatorlaw12.RangesKeep'. -/
def rangesKeepCard : Claim7 := { stood := { row := rangesKeepRow, standIns := [], harness := (true, "4a8906d95980f5030a5410662eeff4fe8ffe0a7668a10a06f01a1f0ac9c403ef"), looks := true }, kinds := [], alts := [], laidByText := true, laidKinds := [.data], laidTests := true, laidLooks := .later }
def RangesKeepCardSaid : Prop := Claim7.holds Tryz.pinned (.plain (OpenSpec.ofChange rangesKeepSpec)) rangesKeepCard

/-- THE TIED CARD OF 'commutatorlaw12.RangesLocal'. -/
def rangesLocalCard : Claim7 := { stood := { row := rangesLocalRow, standIns := [], harness := (true, "4a8906d95980f5030a5410662eeff4fe8ffe0a7668a10a06f01a1f0ac9c403ef"), looks := true }, kinds := [], alts := [], laidByText := true, laidKinds := [.data], laidTests := true, laidLooks := .later }
def RangesLocalCardSaid : Prop := Claim7.holds Tryz.pinned (.plain (OpenSpec.ofChange rangesLocalSpec)) rangesLocalCard

/-- THE TIED CARD OF 'commutatorlaw12.RangesWiden'. -/
def rangesWidenCard : Claim7 := { stood := { row := rangesWidenRow, standIns := [], harness := (true, "4a8906d95980f5030a5410662eeff4fe8ffe0a7668a10a06f01a1f0ac9c403ef"), looks := true }, kinds := [], alts := [], laidByText := true, laidKinds := [.data], laidTests := true, laidLooks := .later }
def RangesWidenCardSaid : Prop := Claim7.holds Tryz.pinned (.plain (OpenSpec.ofChange rangesWidenSpec)) rangesWidenCard

/-- THE SECOND FORM's CARD OF 'commutatorlaw03.IntervalLimits'. -/
def intervalLimitsUptoCard : Claim7 := { stood := { row := intervalLimitsUptoRow, standIns := [], harness := (true, "4a8906d95980f5030a5410662eeff4fe8ffe0a7668a10a06f01a1f0ac9c403ef"), looks := true }, kinds := [], alts := [], laidByText := true, laidKinds := [.data, .data, .data], laidTests := true, laidLooks := .later }
def IntervalLimitsUptoCardSaid : Prop := Claim7.holds Tryz.pinned (.plain (OpenSpec.upto intervalLimitsSpec)) intervalLimitsUptoCard

/-- THE SECOND FORM's CARD OF 'commutatorlaw11.ExactAffine'. -/
def exactAffineUptoCard : Claim7 := { stood := { row := exactAffineUptoRow, standIns := [], harness := (true, "4a8906d95980f5030a5410662eeff4fe8ffe0a7668a10a06f01a1f0ac9c403ef"), looks := true }, kinds := [], alts := [], laidByText := true, laidKinds := [.data], laidTests := true, laidLooks := .later }
def ExactAffineUptoCardSaid : Prop := Claim7.holds Tryz.pinned (.plain (OpenSpec.upto exactAffineSpec)) exactAffineUptoCard

/-- THE SECOND FORM's CARD OF 'commutatorlaw11.ExactPruned'. -/
def exactPrunedUptoCard : Claim7 := { stood := { row := exactPrunedUptoRow, standIns := [], harness := (true, "4a8906d95980f5030a5410662eeff4fe8ffe0a7668a10a06f01a1f0ac9c403ef"), looks := true }, kinds := [], alts := [], laidByText := true, laidKinds := [.data], laidTests := true, laidLooks := .later }
def ExactPrunedUptoCardSaid : Prop := Claim7.holds Tryz.pinned (.plain (OpenSpec.upto exactPrunedSpec)) exactPrunedUptoCard

/-- THE SECOND FORM's CARD OF 'commutatorlaw12.RangesContain'. -/
def rangesContainUptoCard : Claim7 := { stood := { row := rangesContainUptoRow, standIns := [], harness := (true, "4a8906d95980f5030a5410662eeff4fe8ffe0a7668a10a06f01a1f0ac9c403ef"), looks := true }, kinds := [], alts := [], laidByText := true, laidKinds := [.data], laidTests := true, laidLooks := .later }
def RangesContainUptoCardSaid : Prop := Claim7.holds Tryz.pinned (.plain (OpenSpec.upto rangesContainSpec)) rangesContainUptoCard

/-- THE SECOND FORM's CARD OF 'commutatorlaw12.RangesEvaluate'. -/
def rangesEvaluateUptoCard : Claim7 := { stood := { row := rangesEvaluateUptoRow, standIns := [], harness := (true, "4a8906d95980f5030a5410662eeff4fe8ffe0a7668a10a06f01a1f0ac9c403ef"), looks := true }, kinds := [], alts := [], laidByText := true, laidKinds := [.data], laidTests := true, laidLooks := .later }
def RangesEvaluateUptoCardSaid : Prop := Claim7.holds Tryz.pinned (.plain (OpenSpec.upto rangesEvaluateSpec)) rangesEvaluateUptoCard

/-- THE SECOND FORM's CARD OF 'commutatorlaw12.RangesHold'. -/
def rangesHoldUptoCard : Claim7 := { stood := { row := rangesHoldUptoRow, standIns := [], harness := (true, "4a8906d95980f5030a5410662eeff4fe8ffe0a7668a10a06f01a1f0ac9c403ef"), looks := true }, kinds := [], alts := [], laidByText := true, laidKinds := [.data], laidTests := true, laidLooks := .later }
def RangesHoldUptoCardSaid : Prop := Claim7.holds Tryz.pinned (.plain (OpenSpec.upto rangesHoldSpec)) rangesHoldUptoCard

/-- THE SECOND FORM's CARD OF 'commutatorlaw12.RangesKeep'. -/
def rangesKeepUptoCard : Claim7 := { stood := { row := rangesKeepUptoRow, standIns := [], harness := (true, "4a8906d95980f5030a5410662eeff4fe8ffe0a7668a10a06f01a1f0ac9c403ef"), looks := true }, kinds := [], alts := [], laidByText := true, laidKinds := [.data], laidTests := true, laidLooks := .later }
def RangesKeepUptoCardSaid : Prop := Claim7.holds Tryz.pinned (.plain (OpenSpec.upto rangesKeepSpec)) rangesKeepUptoCard

/-- THE SECOND FORM's CARD OF 'commutatorlaw12.RangesLocal'. -/
def rangesLocalUptoCard : Claim7 := { stood := { row := rangesLocalUptoRow, standIns := [], harness := (true, "4a8906d95980f5030a5410662eeff4fe8ffe0a7668a10a06f01a1f0ac9c403ef"), looks := true }, kinds := [], alts := [], laidByText := true, laidKinds := [.data], laidTests := true, laidLooks := .later }
def RangesLocalUptoCardSaid : Prop := Claim7.holds Tryz.pinned (.plain (OpenSpec.upto rangesLocalSpec)) rangesLocalUptoCard

/-- THE SECOND FORM's CARD OF 'commutatorlaw12.RangesWiden'. -/
def rangesWidenUptoCard : Claim7 := { stood := { row := rangesWidenUptoRow, standIns := [], harness := (true, "4a8906d95980f5030a5410662eeff4fe8ffe0a7668a10a06f01a1f0ac9c403ef"), looks := true }, kinds := [], alts := [], laidByText := true, laidKinds := [.data], laidTests := true, laidLooks := .later }
def RangesWidenUptoCardSaid : Prop := Claim7.holds Tryz.pinned (.plain (OpenSpec.upto rangesWidenSpec)) rangesWidenUptoCard
end Rows
end Go.Proofs.YtcdkkohklhmpgaaGreatDoor
