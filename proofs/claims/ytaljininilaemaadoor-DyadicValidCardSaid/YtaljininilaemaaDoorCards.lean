/-
  DERIVED. GIVEN WITH THE SEED: THE CARDS: each row of YtaljininilaemaaDoorRows.lean that lists a variable, with what it lists TIED to the program's text (the seventh form; the later family's looks); each row that meets fmt, with fmt's text TOLD by the authors' own Lean function (tested against real Go, not proved from fmt's source: count such statements apart). THE CARD IS WHAT COUNTS. Prove the row's statement (the work); the ties are given (YtaljininilaemaaDoorTie.lean); close each card by the builder's one call (the guide's Derived/Test/ToyasCard.lean, 'card_holds'). Laid BY PROGRAM, IN A SANDBOX (cutbox-door.mjs). By AI agents, Wed Nov 11 2026. No macro, syntax, notation, axiom, sorry.
-/
import Derived.Test.YtaljininilaemaaDoorRows
import GoSem.ClaimSeven
namespace Go.Proofs.YtaljininilaemaaDoor
namespace Rows

/-- THE TIED CARD OF 'commutatorlaw02.DyadicValid'. -/
def dyadicValidCard : Claim7 := { stood := { row := dyadicValidRow, standIns := [], harness := (true, "b81027c8c0d5e70868b808bf3dcc21bf1cb65fd23dfe9e12a4d9ceb616590c44"), looks := true }, kinds := [], alts := [], laidByText := true, laidKinds := [.data, .data, .data], laidTests := true, laidLooks := .later }
def DyadicValidCardSaid : Prop := Claim7.holds Tryd.pinned (.plain (OpenSpec.ofChange dyadicValidSpec)) dyadicValidCard

/-- THE TIED CARD OF 'commutatorlaw02.DyadicOrders'. -/
def dyadicOrdersCard : Claim7 := { stood := { row := dyadicOrdersRow, standIns := [], harness := (true, "b81027c8c0d5e70868b808bf3dcc21bf1cb65fd23dfe9e12a4d9ceb616590c44"), looks := true }, kinds := [], alts := [], laidByText := true, laidKinds := [.data, .data, .data], laidTests := true, laidLooks := .later }
def DyadicOrdersCardSaid : Prop := Claim7.holds Tryd.pinned (.plain (OpenSpec.ofChange dyadicOrdersSpec)) dyadicOrdersCard

/-- THE TIED CARD OF 'commutatorlaw02.DyadicQuos'. -/
def dyadicQuosCard : Claim7 := { stood := { row := dyadicQuosRow, standIns := [], harness := (true, "b81027c8c0d5e70868b808bf3dcc21bf1cb65fd23dfe9e12a4d9ceb616590c44"), looks := true }, kinds := [], alts := [], laidByText := true, laidKinds := [.data, .data, .data], laidTests := true, laidLooks := .later }
def DyadicQuosCardSaid : Prop := Claim7.holds Tryd.pinned (.plain (OpenSpec.ofChange dyadicQuosSpec)) dyadicQuosCard

/-- THE TIED CARD OF 'commutatorlaw03.IntervalBounds'. -/
def intervalBoundsCard : Claim7 := { stood := { row := intervalBoundsRow, standIns := [], harness := (true, "b81027c8c0d5e70868b808bf3dcc21bf1cb65fd23dfe9e12a4d9ceb616590c44"), looks := true }, kinds := [], alts := [], laidByText := true, laidKinds := [.data, .data, .data], laidTests := true, laidLooks := .later }
def IntervalBoundsCardSaid : Prop := Claim7.holds Tryd.pinned (.plain (OpenSpec.ofChange intervalBoundsSpec)) intervalBoundsCard

/-- THE TIED CARD OF 'commutatorlaw03.IntervalEnds'. -/
def intervalEndsCard : Claim7 := { stood := { row := intervalEndsRow, standIns := [], harness := (true, "b81027c8c0d5e70868b808bf3dcc21bf1cb65fd23dfe9e12a4d9ceb616590c44"), looks := true }, kinds := [], alts := [], laidByText := true, laidKinds := [.data, .data, .data], laidTests := true, laidLooks := .later }
def IntervalEndsCardSaid : Prop := Claim7.holds Tryd.pinned (.plain (OpenSpec.ofChange intervalEndsSpec)) intervalEndsCard

/-- THE SECOND FORM's CARD OF 'commutatorlaw02.DyadicValid'. -/
def dyadicValidUptoCard : Claim7 := { stood := { row := dyadicValidUptoRow, standIns := [], harness := (true, "b81027c8c0d5e70868b808bf3dcc21bf1cb65fd23dfe9e12a4d9ceb616590c44"), looks := true }, kinds := [], alts := [], laidByText := true, laidKinds := [.data, .data, .data], laidTests := true, laidLooks := .later }
def DyadicValidUptoCardSaid : Prop := Claim7.holds Tryd.pinned (.plain (OpenSpec.upto dyadicValidSpec)) dyadicValidUptoCard

/-- THE SECOND FORM's CARD OF 'commutatorlaw02.DyadicOrders'. -/
def dyadicOrdersUptoCard : Claim7 := { stood := { row := dyadicOrdersUptoRow, standIns := [], harness := (true, "b81027c8c0d5e70868b808bf3dcc21bf1cb65fd23dfe9e12a4d9ceb616590c44"), looks := true }, kinds := [], alts := [], laidByText := true, laidKinds := [.data, .data, .data], laidTests := true, laidLooks := .later }
def DyadicOrdersUptoCardSaid : Prop := Claim7.holds Tryd.pinned (.plain (OpenSpec.upto dyadicOrdersSpec)) dyadicOrdersUptoCard

/-- THE SECOND FORM's CARD OF 'commutatorlaw02.DyadicQuos'. -/
def dyadicQuosUptoCard : Claim7 := { stood := { row := dyadicQuosUptoRow, standIns := [], harness := (true, "b81027c8c0d5e70868b808bf3dcc21bf1cb65fd23dfe9e12a4d9ceb616590c44"), looks := true }, kinds := [], alts := [], laidByText := true, laidKinds := [.data, .data, .data], laidTests := true, laidLooks := .later }
def DyadicQuosUptoCardSaid : Prop := Claim7.holds Tryd.pinned (.plain (OpenSpec.upto dyadicQuosSpec)) dyadicQuosUptoCard

/-- THE SECOND FORM's CARD OF 'commutatorlaw03.IntervalBounds'. -/
def intervalBoundsUptoCard : Claim7 := { stood := { row := intervalBoundsUptoRow, standIns := [], harness := (true, "b81027c8c0d5e70868b808bf3dcc21bf1cb65fd23dfe9e12a4d9ceb616590c44"), looks := true }, kinds := [], alts := [], laidByText := true, laidKinds := [.data, .data, .data], laidTests := true, laidLooks := .later }
def IntervalBoundsUptoCardSaid : Prop := Claim7.holds Tryd.pinned (.plain (OpenSpec.upto intervalBoundsSpec)) intervalBoundsUptoCard

/-- THE SECOND FORM's CARD OF 'commutatorlaw03.IntervalEnds'. -/
def intervalEndsUptoCard : Claim7 := { stood := { row := intervalEndsUptoRow, standIns := [], harness := (true, "b81027c8c0d5e70868b808bf3dcc21bf1cb65fd23dfe9e12a4d9ceb616590c44"), looks := true }, kinds := [], alts := [], laidByText := true, laidKinds := [.data, .data, .data], laidTests := true, laidLooks := .later }
def IntervalEndsUptoCardSaid : Prop := Claim7.holds Tryd.pinned (.plain (OpenSpec.upto intervalEndsSpec)) intervalEndsUptoCard
end Rows
end Go.Proofs.YtaljininilaemaaDoor
