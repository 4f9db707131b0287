/-
  DERIVED. GIVEN WITH THE SEED: THE CARDS: each row of YtecpkggnjajppaaDoorRows.lean that lists a variable, with what it lists TIED to the program's text (the seventh form; the later family's looks); each row that meets fmt, with fmt's text TOLD by the authors' own Lean function (tested against real Go, not proved from fmt's source: count such statements apart). THE CARD IS WHAT COUNTS. Prove the row's statement (the work); the ties are given (YtecpkggnjajppaaDoorTie.lean); close each card by the builder's one call (the guide's Derived/Test/ToyasCard.lean, 'card_holds'). Laid BY PROGRAM, IN A SANDBOX (cutbox-door.mjs). By AI agents, Wed Nov 11 2026. No macro, syntax, notation, axiom, sorry.
-/
import Derived.Test.YtecpkggnjajppaaDoorRows
import GoSem.ClaimSeven
namespace Go.Proofs.YtecpkggnjajppaaDoor
namespace Rows

/-- THE TIED CARD OF 'commutatorlaw07.ArctanAngles'. -/
def arctanAnglesCard : Claim7 := { stood := { row := arctanAnglesRow, standIns := [], harness := (true, "5d88445ac3b8bb85c5d5bc2f0bf99c937617d0ad0d1f9bf9b43125514f36fb7e"), looks := false }, kinds := [], alts := [], laidByText := true, laidKinds := [.data], laidTests := true, laidLooks := .later }
def ArctanAnglesCardSaid : Prop := Claim7.holds Tryd.pinned (.plain (OpenSpec.ofChange arctanAnglesSpec)) arctanAnglesCard

/-- THE TIED CARD OF 'commutatorlaw07.ArctanTurns'. -/
def arctanTurnsCard : Claim7 := { stood := { row := arctanTurnsRow, standIns := [], harness := (true, "5d88445ac3b8bb85c5d5bc2f0bf99c937617d0ad0d1f9bf9b43125514f36fb7e"), looks := false }, kinds := [], alts := [], laidByText := true, laidKinds := [.data], laidTests := true, laidLooks := .later }
def ArctanTurnsCardSaid : Prop := Claim7.holds Tryd.pinned (.plain (OpenSpec.ofChange arctanTurnsSpec)) arctanTurnsCard

/-- THE TIED CARD OF 'commutatorlaw07.ArctanCompares'. -/
def arctanComparesCard : Claim7 := { stood := { row := arctanComparesRow, standIns := [], harness := (true, "5d88445ac3b8bb85c5d5bc2f0bf99c937617d0ad0d1f9bf9b43125514f36fb7e"), looks := false }, kinds := [], alts := [], laidByText := true, laidKinds := [.data], laidTests := true, laidLooks := .later }
def ArctanComparesCardSaid : Prop := Claim7.holds Tryd.pinned (.plain (OpenSpec.ofChange arctanComparesSpec)) arctanComparesCard

/-- THE TIED CARD OF 'commutatorlaw07.ArctanBack'. -/
def arctanBackCard : Claim7 := { stood := { row := arctanBackRow, standIns := [], harness := (true, "5d88445ac3b8bb85c5d5bc2f0bf99c937617d0ad0d1f9bf9b43125514f36fb7e"), looks := false }, kinds := [], alts := [], laidByText := true, laidKinds := [.data], laidTests := true, laidLooks := .later }
def ArctanBackCardSaid : Prop := Claim7.holds Tryd.pinned (.plain (OpenSpec.ofChange arctanBackSpec)) arctanBackCard

/-- THE TIED CARD OF 'commutatorlaw07.ArctanBounds'. -/
def arctanBoundsCard : Claim7 := { stood := { row := arctanBoundsRow, standIns := [], harness := (true, "5d88445ac3b8bb85c5d5bc2f0bf99c937617d0ad0d1f9bf9b43125514f36fb7e"), looks := false }, kinds := [], alts := [], laidByText := true, laidKinds := [.data], laidTests := true, laidLooks := .later }
def ArctanBoundsCardSaid : Prop := Claim7.holds Tryd.pinned (.plain (OpenSpec.ofChange arctanBoundsSpec)) arctanBoundsCard

/-- THE TIED CARD OF 'commutatorlaw07.ArctanOrder'. -/
def arctanOrderCard : Claim7 := { stood := { row := arctanOrderRow, standIns := [], harness := (true, "5d88445ac3b8bb85c5d5bc2f0bf99c937617d0ad0d1f9bf9b43125514f36fb7e"), looks := false }, kinds := [], alts := [], laidByText := true, laidKinds := [.data], laidTests := true, laidLooks := .later }
def ArctanOrderCardSaid : Prop := Claim7.holds Tryd.pinned (.plain (OpenSpec.ofChange arctanOrderSpec)) arctanOrderCard

/-- THE TIED CARD OF 'commutatorlaw07.ArctanChain'. -/
def arctanChainCard : Claim7 := { stood := { row := arctanChainRow, standIns := [], harness := (true, "5d88445ac3b8bb85c5d5bc2f0bf99c937617d0ad0d1f9bf9b43125514f36fb7e"), looks := false }, kinds := [], alts := [], laidByText := true, laidKinds := [.data], laidTests := true, laidLooks := .later }
def ArctanChainCardSaid : Prop := Claim7.holds Tryd.pinned (.plain (OpenSpec.ofChange arctanChainSpec)) arctanChainCard

/-- THE TIED CARD OF 'commutatorlaw07.ArctanQuarters'. -/
def arctanQuartersCard : Claim7 := { stood := { row := arctanQuartersRow, standIns := [], harness := (true, "5d88445ac3b8bb85c5d5bc2f0bf99c937617d0ad0d1f9bf9b43125514f36fb7e"), looks := false }, kinds := [], alts := [], laidByText := true, laidKinds := [.data], laidTests := true, laidLooks := .later }
def ArctanQuartersCardSaid : Prop := Claim7.holds Tryd.pinned (.plain (OpenSpec.ofChange arctanQuartersSpec)) arctanQuartersCard

/-- THE TIED CARD OF 'commutatorlaw07.ArctanSums'. -/
def arctanSumsCard : Claim7 := { stood := { row := arctanSumsRow, standIns := [], harness := (true, "5d88445ac3b8bb85c5d5bc2f0bf99c937617d0ad0d1f9bf9b43125514f36fb7e"), looks := false }, kinds := [], alts := [], laidByText := true, laidKinds := [.data], laidTests := true, laidLooks := .later }
def ArctanSumsCardSaid : Prop := Claim7.holds Tryd.pinned (.plain (OpenSpec.ofChange arctanSumsSpec)) arctanSumsCard

/-- THE SECOND FORM's CARD OF 'commutatorlaw07.ArctanAngles'. -/
def arctanAnglesUptoCard : Claim7 := { stood := { row := arctanAnglesUptoRow, standIns := [], harness := (true, "5d88445ac3b8bb85c5d5bc2f0bf99c937617d0ad0d1f9bf9b43125514f36fb7e"), looks := false }, kinds := [], alts := [], laidByText := true, laidKinds := [.data], laidTests := true, laidLooks := .later }
def ArctanAnglesUptoCardSaid : Prop := Claim7.holds Tryd.pinned (.plain (OpenSpec.upto arctanAnglesSpec)) arctanAnglesUptoCard

/-- THE SECOND FORM's CARD OF 'commutatorlaw07.ArctanTurns'. -/
def arctanTurnsUptoCard : Claim7 := { stood := { row := arctanTurnsUptoRow, standIns := [], harness := (true, "5d88445ac3b8bb85c5d5bc2f0bf99c937617d0ad0d1f9bf9b43125514f36fb7e"), looks := false }, kinds := [], alts := [], laidByText := true, laidKinds := [.data], laidTests := true, laidLooks := .later }
def ArctanTurnsUptoCardSaid : Prop := Claim7.holds Tryd.pinned (.plain (OpenSpec.upto arctanTurnsSpec)) arctanTurnsUptoCard

/-- THE SECOND FORM's CARD OF 'commutatorlaw07.ArctanCompares'. -/
def arctanComparesUptoCard : Claim7 := { stood := { row := arctanComparesUptoRow, standIns := [], harness := (true, "5d88445ac3b8bb85c5d5bc2f0bf99c937617d0ad0d1f9bf9b43125514f36fb7e"), looks := false }, kinds := [], alts := [], laidByText := true, laidKinds := [.data], laidTests := true, laidLooks := .later }
def ArctanComparesUptoCardSaid : Prop := Claim7.holds Tryd.pinned (.plain (OpenSpec.upto arctanComparesSpec)) arctanComparesUptoCard

/-- THE SECOND FORM's CARD OF 'commutatorlaw07.ArctanBack'. -/
def arctanBackUptoCard : Claim7 := { stood := { row := arctanBackUptoRow, standIns := [], harness := (true, "5d88445ac3b8bb85c5d5bc2f0bf99c937617d0ad0d1f9bf9b43125514f36fb7e"), looks := false }, kinds := [], alts := [], laidByText := true, laidKinds := [.data], laidTests := true, laidLooks := .later }
def ArctanBackUptoCardSaid : Prop := Claim7.holds Tryd.pinned (.plain (OpenSpec.upto arctanBackSpec)) arctanBackUptoCard

/-- THE SECOND FORM's CARD OF 'commutatorlaw07.ArctanBounds'. -/
def arctanBoundsUptoCard : Claim7 := { stood := { row := arctanBoundsUptoRow, standIns := [], harness := (true, "5d88445ac3b8bb85c5d5bc2f0bf99c937617d0ad0d1f9bf9b43125514f36fb7e"), looks := false }, kinds := [], alts := [], laidByText := true, laidKinds := [.data], laidTests := true, laidLooks := .later }
def ArctanBoundsUptoCardSaid : Prop := Claim7.holds Tryd.pinned (.plain (OpenSpec.upto arctanBoundsSpec)) arctanBoundsUptoCard

/-- THE SECOND FORM's CARD OF 'commutatorlaw07.ArctanOrder'. -/
def arctanOrderUptoCard : Claim7 := { stood := { row := arctanOrderUptoRow, standIns := [], harness := (true, "5d88445ac3b8bb85c5d5bc2f0bf99c937617d0ad0d1f9bf9b43125514f36fb7e"), looks := false }, kinds := [], alts := [], laidByText := true, laidKinds := [.data], laidTests := true, laidLooks := .later }
def ArctanOrderUptoCardSaid : Prop := Claim7.holds Tryd.pinned (.plain (OpenSpec.upto arctanOrderSpec)) arctanOrderUptoCard

/-- THE SECOND FORM's CARD OF 'commutatorlaw07.ArctanChain'. -/
def arctanChainUptoCard : Claim7 := { stood := { row := arctanChainUptoRow, standIns := [], harness := (true, "5d88445ac3b8bb85c5d5bc2f0bf99c937617d0ad0d1f9bf9b43125514f36fb7e"), looks := false }, kinds := [], alts := [], laidByText := true, laidKinds := [.data], laidTests := true, laidLooks := .later }
def ArctanChainUptoCardSaid : Prop := Claim7.holds Tryd.pinned (.plain (OpenSpec.upto arctanChainSpec)) arctanChainUptoCard

/-- THE SECOND FORM's CARD OF 'commutatorlaw07.ArctanQuarters'. -/
def arctanQuartersUptoCard : Claim7 := { stood := { row := arctanQuartersUptoRow, standIns := [], harness := (true, "5d88445ac3b8bb85c5d5bc2f0bf99c937617d0ad0d1f9bf9b43125514f36fb7e"), looks := false }, kinds := [], alts := [], laidByText := true, laidKinds := [.data], laidTests := true, laidLooks := .later }
def ArctanQuartersUptoCardSaid : Prop := Claim7.holds Tryd.pinned (.plain (OpenSpec.upto arctanQuartersSpec)) arctanQuartersUptoCard

/-- THE SECOND FORM's CARD OF 'commutatorlaw07.ArctanSums'. -/
def arctanSumsUptoCard : Claim7 := { stood := { row := arctanSumsUptoRow, standIns := [], harness := (true, "5d88445ac3b8bb85c5d5bc2f0bf99c937617d0ad0d1f9bf9b43125514f36fb7e"), looks := false }, kinds := [], alts := [], laidByText := true, laidKinds := [.data], laidTests := true, laidLooks := .later }
def ArctanSumsUptoCardSaid : Prop := Claim7.holds Tryd.pinned (.plain (OpenSpec.upto arctanSumsSpec)) arctanSumsUptoCard
end Rows
end Go.Proofs.YtecpkggnjajppaaDoor
