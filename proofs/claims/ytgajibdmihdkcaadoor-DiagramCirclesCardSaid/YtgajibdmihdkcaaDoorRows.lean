/-
  NARROWER THAN 'FOR EVERY INPUT', by the rows' own cells (each row's printed sentence says how): DiagramChecks: laid · DiagramOrders: laid · DiagramUses: laid · DiagramPrunes: laid · DiagramFollows: laid · DiagramCircles: laid · DiagramAgain: laid · DiagramDepends: laid.
  DERIVED. THE GIVEN ROWS OF THIS SEAT. 8 by the template 'for every input the law returns true; each argument reads behind the call as it read before'; 0 by the template 'total and deterministic' (their statements: YtgajibdmihdkcaaDoorTotals.lean).
  GIVEN WITH THE SEED: the statements are not yours to turn. If you find one false, say at which input.
  Laid BY PROGRAM, IN A SANDBOX (cutbox-rows.mjs): the forced cells as the released guide's own fill.sh prints them over the translation 8947bff36f478142… (all of the seat's roots in one cut). By AI agents, Wed Nov 11 2026. No macro, syntax, notation, axiom, sorry.
-/
import Derived.Test.YtgajibdmihdkcaaDoorChecked
import GoSem.Claim
import GoSem.ClaimJoined
import GoSem.ClaimMapViews
import Derived.JoinedTies
import Derived.KernelRfl
namespace Go.Proofs.YtgajibdmihdkcaaDoor
/- THE CELL 'sum', in the pinned program and in every row, IS THE sha256 OF THE DUMP (.gsa) THAT YtgajibdmihdkcaaDoorProg.lean LOADS. Nothing in Lean hashes anything: it is a label: what it is worth is what the hold of that sum in a sandbox is worth. -/
noncomputable def Tryd.pinned : Pinned := { name := "ytgajibdmihdkcaadoor", sum := "8947bff36f4781427ef695c3f3f0ca0492a98d6b6eeafe5f942285695682911b", checked := Tryd.checked }
namespace Rows
def none {H : Type} : Left H := { results := [], args := [] }

/- WHAT THE LISTED PACKAGE-LEVEL VARIABLES READ AS WHEN THE CALL BEGINS. Each datum BY PROGRAM (the guide's laid-datum.mjs) off the statement by which the dump's own 'gosem.cut.vars' lays the variable. In a bare row this is a premise. The card (YtgajibdmihdkcaaDoorCards.lean) ties it to the program's text. -/
def laid_math_bits_deBruijn32tab {H : Type} : DataW H := .agg [.lit (.int .u8 0), .lit (.int .u8 1), .lit (.int .u8 28), .lit (.int .u8 2), .lit (.int .u8 29), .lit (.int .u8 14), .lit (.int .u8 24), .lit (.int .u8 3), .lit (.int .u8 30), .lit (.int .u8 22), .lit (.int .u8 20), .lit (.int .u8 15), .lit (.int .u8 25), .lit (.int .u8 17), .lit (.int .u8 4), .lit (.int .u8 8), .lit (.int .u8 31), .lit (.int .u8 27), .lit (.int .u8 13), .lit (.int .u8 23), .lit (.int .u8 21), .lit (.int .u8 19), .lit (.int .u8 16), .lit (.int .u8 7), .lit (.int .u8 26), .lit (.int .u8 12), .lit (.int .u8 18), .lit (.int .u8 6), .lit (.int .u8 11), .lit (.int .u8 5), .lit (.int .u8 10), .lit (.int .u8 9)]

/-- 'commutatorlaw10.DiagramChecks': WHATEVER THE INPUT: true; the input reads as it did. -/
def diagramChecksSpec : ChangeSpec := { name := "diagramChecks", fn := fun _ => fun
  | [d1, d2] => { results := [.lit (.bool true)], args := [d1, d2] }
  | _ => none }
def diagramChecksRow : OpenClaim := { program := "ytgajibdmihdkcaadoor", sum := "8947bff36f4781427ef695c3f3f0ca0492a98d6b6eeafe5f942285695682911b", func := "commutator/commutatorlaw10.DiagramChecks", spec := "diagramChecks", unfollowed := true, recurses := true, named := ["math/bits.deBruijn32tab"], apart := false, laid := [("math/bits.deBruijn32tab", laid_math_bits_deBruijn32tab)] }
def DiagramChecksSaid : Prop := diagramChecksRow.holds Tryd.pinned (OpenSpec.ofChange diagramChecksSpec)

/-- ITS FALSE NEIGHBOUR: 'it returns false'. Refute it at one input. -/
def diagramChecksWrong : ChangeSpec := { name := "diagramChecks", fn := fun _ => fun
  | [d1, d2] => { results := [.lit (.bool false)], args := [d1, d2] }
  | _ => none }
def DiagramChecksWrongFalsely : Prop := diagramChecksRow.holds Tryd.pinned (OpenSpec.ofChange diagramChecksWrong)

/-- 'commutatorlaw10.DiagramOrders': WHATEVER THE INPUT: true; the input reads as it did. -/
def diagramOrdersSpec : ChangeSpec := { name := "diagramOrders", fn := fun _ => fun
  | [d] => { results := [.lit (.bool true)], args := [d] }
  | _ => none }
def diagramOrdersRow : OpenClaim := { program := "ytgajibdmihdkcaadoor", sum := "8947bff36f4781427ef695c3f3f0ca0492a98d6b6eeafe5f942285695682911b", func := "commutator/commutatorlaw10.DiagramOrders", spec := "diagramOrders", unfollowed := true, recurses := true, named := ["math/bits.deBruijn32tab"], apart := false, laid := [("math/bits.deBruijn32tab", laid_math_bits_deBruijn32tab)] }
def DiagramOrdersSaid : Prop := diagramOrdersRow.holds Tryd.pinned (OpenSpec.ofChange diagramOrdersSpec)

/-- ITS FALSE NEIGHBOUR: 'it returns false'. Refute it at one input. -/
def diagramOrdersWrong : ChangeSpec := { name := "diagramOrders", fn := fun _ => fun
  | [d] => { results := [.lit (.bool false)], args := [d] }
  | _ => none }
def DiagramOrdersWrongFalsely : Prop := diagramOrdersRow.holds Tryd.pinned (OpenSpec.ofChange diagramOrdersWrong)

/-- 'commutatorlaw10.DiagramUses': WHATEVER THE INPUT: true; the input reads as it did. -/
def diagramUsesSpec : ChangeSpec := { name := "diagramUses", fn := fun _ => fun
  | [d1, d2] => { results := [.lit (.bool true)], args := [d1, d2] }
  | _ => none }
def diagramUsesRow : OpenClaim := { program := "ytgajibdmihdkcaadoor", sum := "8947bff36f4781427ef695c3f3f0ca0492a98d6b6eeafe5f942285695682911b", func := "commutator/commutatorlaw10.DiagramUses", spec := "diagramUses", unfollowed := true, recurses := true, named := ["math/bits.deBruijn32tab"], apart := false, laid := [("math/bits.deBruijn32tab", laid_math_bits_deBruijn32tab)] }
def DiagramUsesSaid : Prop := diagramUsesRow.holds Tryd.pinned (OpenSpec.ofChange diagramUsesSpec)

/-- ITS FALSE NEIGHBOUR: 'it returns false'. Refute it at one input. -/
def diagramUsesWrong : ChangeSpec := { name := "diagramUses", fn := fun _ => fun
  | [d1, d2] => { results := [.lit (.bool false)], args := [d1, d2] }
  | _ => none }
def DiagramUsesWrongFalsely : Prop := diagramUsesRow.holds Tryd.pinned (OpenSpec.ofChange diagramUsesWrong)

/-- 'commutatorlaw10.DiagramPrunes': WHATEVER THE INPUT: true; the input reads as it did. -/
def diagramPrunesSpec : ChangeSpec := { name := "diagramPrunes", fn := fun _ => fun
  | [d] => { results := [.lit (.bool true)], args := [d] }
  | _ => none }
def diagramPrunesRow : OpenClaim := { program := "ytgajibdmihdkcaadoor", sum := "8947bff36f4781427ef695c3f3f0ca0492a98d6b6eeafe5f942285695682911b", func := "commutator/commutatorlaw10.DiagramPrunes", spec := "diagramPrunes", unfollowed := true, recurses := true, named := ["math/bits.deBruijn32tab"], apart := false, laid := [("math/bits.deBruijn32tab", laid_math_bits_deBruijn32tab)] }
def DiagramPrunesSaid : Prop := diagramPrunesRow.holds Tryd.pinned (OpenSpec.ofChange diagramPrunesSpec)

/-- ITS FALSE NEIGHBOUR: 'it returns false'. Refute it at one input. -/
def diagramPrunesWrong : ChangeSpec := { name := "diagramPrunes", fn := fun _ => fun
  | [d] => { results := [.lit (.bool false)], args := [d] }
  | _ => none }
def DiagramPrunesWrongFalsely : Prop := diagramPrunesRow.holds Tryd.pinned (OpenSpec.ofChange diagramPrunesWrong)

/-- 'commutatorlaw10.DiagramFollows': WHATEVER THE INPUT: true; the input reads as it did. -/
def diagramFollowsSpec : ChangeSpec := { name := "diagramFollows", fn := fun _ => fun
  | [d] => { results := [.lit (.bool true)], args := [d] }
  | _ => none }
def diagramFollowsRow : OpenClaim := { program := "ytgajibdmihdkcaadoor", sum := "8947bff36f4781427ef695c3f3f0ca0492a98d6b6eeafe5f942285695682911b", func := "commutator/commutatorlaw10.DiagramFollows", spec := "diagramFollows", unfollowed := true, recurses := true, named := ["math/bits.deBruijn32tab"], apart := false, laid := [("math/bits.deBruijn32tab", laid_math_bits_deBruijn32tab)] }
def DiagramFollowsSaid : Prop := diagramFollowsRow.holds Tryd.pinned (OpenSpec.ofChange diagramFollowsSpec)

/-- ITS FALSE NEIGHBOUR: 'it returns false'. Refute it at one input. -/
def diagramFollowsWrong : ChangeSpec := { name := "diagramFollows", fn := fun _ => fun
  | [d] => { results := [.lit (.bool false)], args := [d] }
  | _ => none }
def DiagramFollowsWrongFalsely : Prop := diagramFollowsRow.holds Tryd.pinned (OpenSpec.ofChange diagramFollowsWrong)

/-- 'commutatorlaw10.DiagramCircles': WHATEVER THE INPUT: true; the input reads as it did. -/
def diagramCirclesSpec : ChangeSpec := { name := "diagramCircles", fn := fun _ => fun
  | [d] => { results := [.lit (.bool true)], args := [d] }
  | _ => none }
def diagramCirclesRow : OpenClaim := { program := "ytgajibdmihdkcaadoor", sum := "8947bff36f4781427ef695c3f3f0ca0492a98d6b6eeafe5f942285695682911b", func := "commutator/commutatorlaw10.DiagramCircles", spec := "diagramCircles", unfollowed := true, recurses := true, named := ["math/bits.deBruijn32tab"], apart := false, laid := [("math/bits.deBruijn32tab", laid_math_bits_deBruijn32tab)] }
def DiagramCirclesSaid : Prop := diagramCirclesRow.holds Tryd.pinned (OpenSpec.ofChange diagramCirclesSpec)

/-- ITS FALSE NEIGHBOUR: 'it returns false'. Refute it at one input. -/
def diagramCirclesWrong : ChangeSpec := { name := "diagramCircles", fn := fun _ => fun
  | [d] => { results := [.lit (.bool false)], args := [d] }
  | _ => none }
def DiagramCirclesWrongFalsely : Prop := diagramCirclesRow.holds Tryd.pinned (OpenSpec.ofChange diagramCirclesWrong)

/-- 'commutatorlaw10.DiagramAgain': WHATEVER THE INPUT: true; the input reads as it did. -/
def diagramAgainSpec : ChangeSpec := { name := "diagramAgain", fn := fun _ => fun
  | [d] => { results := [.lit (.bool true)], args := [d] }
  | _ => none }
def diagramAgainRow : OpenClaim := { program := "ytgajibdmihdkcaadoor", sum := "8947bff36f4781427ef695c3f3f0ca0492a98d6b6eeafe5f942285695682911b", func := "commutator/commutatorlaw10.DiagramAgain", spec := "diagramAgain", unfollowed := true, recurses := true, named := ["math/bits.deBruijn32tab"], apart := false, laid := [("math/bits.deBruijn32tab", laid_math_bits_deBruijn32tab)] }
def DiagramAgainSaid : Prop := diagramAgainRow.holds Tryd.pinned (OpenSpec.ofChange diagramAgainSpec)

/-- ITS FALSE NEIGHBOUR: 'it returns false'. Refute it at one input. -/
def diagramAgainWrong : ChangeSpec := { name := "diagramAgain", fn := fun _ => fun
  | [d] => { results := [.lit (.bool false)], args := [d] }
  | _ => none }
def DiagramAgainWrongFalsely : Prop := diagramAgainRow.holds Tryd.pinned (OpenSpec.ofChange diagramAgainWrong)

/-- 'commutatorlaw10.DiagramDepends': WHATEVER THE INPUT: true; the input reads as it did. -/
def diagramDependsSpec : ChangeSpec := { name := "diagramDepends", fn := fun _ => fun
  | [d1, d2] => { results := [.lit (.bool true)], args := [d1, d2] }
  | _ => none }
def diagramDependsRow : OpenClaim := { program := "ytgajibdmihdkcaadoor", sum := "8947bff36f4781427ef695c3f3f0ca0492a98d6b6eeafe5f942285695682911b", func := "commutator/commutatorlaw10.DiagramDepends", spec := "diagramDepends", unfollowed := true, recurses := true, named := ["math/bits.deBruijn32tab"], apart := false, laid := [("math/bits.deBruijn32tab", laid_math_bits_deBruijn32tab)] }
def DiagramDependsSaid : Prop := diagramDependsRow.holds Tryd.pinned (OpenSpec.ofChange diagramDependsSpec)

/-- ITS FALSE NEIGHBOUR: 'it returns false'. Refute it at one input. -/
def diagramDependsWrong : ChangeSpec := { name := "diagramDepends", fn := fun _ => fun
  | [d1, d2] => { results := [.lit (.bool false)], args := [d1, d2] }
  | _ => none }
def DiagramDependsWrongFalsely : Prop := diagramDependsRow.holds Tryd.pinned (OpenSpec.ofChange diagramDependsWrong)

/- THE SECOND FORM. 'bulk': how many values and letters a reading holds, each counted each time it is reached (what is shared counts as often as it is met; a slice's spare places count too). A statement '..UptoSaid' is the law's where the arguments, and the package variables that the reading takes, are together of bulk at most 1048576: NARROWER than '..Said'. Prove '..Said' where nothing that the law and all that it calls make is longer than what came in: it says more and counts as full. Else prove '..UptoSaid'. A law counts once. -/
mutual
def uptoBulk {H : Type} : DataW H → Nat
  | .lit (.string bytes) => bytes.length + 1
  | .lit _ => 1
  | .nil => 1
  | .ptr d => uptoBulk d + 1
  | .slice elems spare => uptoBulkAll elems + uptoBulkAll spare + 1
  | .agg parts => uptoBulkAll parts + 1
  | .iface _ d => uptoBulk d + 1
  | .map entries => uptoBulkEntries entries + 1
  | .held _ => 1
def uptoBulkAll {H : Type} : List (DataW H) → Nat
  | [] => 0
  | d :: r => uptoBulk d + uptoBulkAll r
def uptoBulkEntries {H : Type} : List (Lit × DataW H) → Nat
  | [] => 0
  | x :: r => uptoBulkEntry x + uptoBulkEntries r
def uptoBulkEntry {H : Type} : Lit × DataW H → Nat
  | (.string bytes, d) => bytes.length + uptoBulk d + 1
  | (_, d) => uptoBulk d + 1
 end
def uptoSmall : (H : Type) → List (DataW H) → Bool := fun _ ds => decide (uptoBulkAll ds ≤ 1048576)
def OpenSpec.upto (s : _root_.Go.ChangeSpec) : _root_.Go.OpenSpec := { _root_.Go.OpenSpec.ofChange s with cond := some uptoSmall }

/-- 'commutatorlaw10.DiagramChecks', WHERE WHAT IT READS IS OF BULK AT MOST 1048576: true; the input reads as it did. -/
def diagramChecksUptoRow : OpenClaim := { program := "ytgajibdmihdkcaadoor", sum := "8947bff36f4781427ef695c3f3f0ca0492a98d6b6eeafe5f942285695682911b", func := "commutator/commutatorlaw10.DiagramChecks", spec := "diagramChecks", unfollowed := true, recurses := true, named := ["math/bits.deBruijn32tab"], apart := false, laid := [("math/bits.deBruijn32tab", laid_math_bits_deBruijn32tab)], narrowed := true }
def DiagramChecksUptoSaid : Prop := diagramChecksUptoRow.holds Tryd.pinned (OpenSpec.upto diagramChecksSpec)

/-- 'commutatorlaw10.DiagramOrders', WHERE WHAT IT READS IS OF BULK AT MOST 1048576: true; the input reads as it did. -/
def diagramOrdersUptoRow : OpenClaim := { program := "ytgajibdmihdkcaadoor", sum := "8947bff36f4781427ef695c3f3f0ca0492a98d6b6eeafe5f942285695682911b", func := "commutator/commutatorlaw10.DiagramOrders", spec := "diagramOrders", unfollowed := true, recurses := true, named := ["math/bits.deBruijn32tab"], apart := false, laid := [("math/bits.deBruijn32tab", laid_math_bits_deBruijn32tab)], narrowed := true }
def DiagramOrdersUptoSaid : Prop := diagramOrdersUptoRow.holds Tryd.pinned (OpenSpec.upto diagramOrdersSpec)

/-- 'commutatorlaw10.DiagramUses', WHERE WHAT IT READS IS OF BULK AT MOST 1048576: true; the input reads as it did. -/
def diagramUsesUptoRow : OpenClaim := { program := "ytgajibdmihdkcaadoor", sum := "8947bff36f4781427ef695c3f3f0ca0492a98d6b6eeafe5f942285695682911b", func := "commutator/commutatorlaw10.DiagramUses", spec := "diagramUses", unfollowed := true, recurses := true, named := ["math/bits.deBruijn32tab"], apart := false, laid := [("math/bits.deBruijn32tab", laid_math_bits_deBruijn32tab)], narrowed := true }
def DiagramUsesUptoSaid : Prop := diagramUsesUptoRow.holds Tryd.pinned (OpenSpec.upto diagramUsesSpec)

/-- 'commutatorlaw10.DiagramPrunes', WHERE WHAT IT READS IS OF BULK AT MOST 1048576: true; the input reads as it did. -/
def diagramPrunesUptoRow : OpenClaim := { program := "ytgajibdmihdkcaadoor", sum := "8947bff36f4781427ef695c3f3f0ca0492a98d6b6eeafe5f942285695682911b", func := "commutator/commutatorlaw10.DiagramPrunes", spec := "diagramPrunes", unfollowed := true, recurses := true, named := ["math/bits.deBruijn32tab"], apart := false, laid := [("math/bits.deBruijn32tab", laid_math_bits_deBruijn32tab)], narrowed := true }
def DiagramPrunesUptoSaid : Prop := diagramPrunesUptoRow.holds Tryd.pinned (OpenSpec.upto diagramPrunesSpec)

/-- 'commutatorlaw10.DiagramFollows', WHERE WHAT IT READS IS OF BULK AT MOST 1048576: true; the input reads as it did. -/
def diagramFollowsUptoRow : OpenClaim := { program := "ytgajibdmihdkcaadoor", sum := "8947bff36f4781427ef695c3f3f0ca0492a98d6b6eeafe5f942285695682911b", func := "commutator/commutatorlaw10.DiagramFollows", spec := "diagramFollows", unfollowed := true, recurses := true, named := ["math/bits.deBruijn32tab"], apart := false, laid := [("math/bits.deBruijn32tab", laid_math_bits_deBruijn32tab)], narrowed := true }
def DiagramFollowsUptoSaid : Prop := diagramFollowsUptoRow.holds Tryd.pinned (OpenSpec.upto diagramFollowsSpec)

/-- 'commutatorlaw10.DiagramCircles', WHERE WHAT IT READS IS OF BULK AT MOST 1048576: true; the input reads as it did. -/
def diagramCirclesUptoRow : OpenClaim := { program := "ytgajibdmihdkcaadoor", sum := "8947bff36f4781427ef695c3f3f0ca0492a98d6b6eeafe5f942285695682911b", func := "commutator/commutatorlaw10.DiagramCircles", spec := "diagramCircles", unfollowed := true, recurses := true, named := ["math/bits.deBruijn32tab"], apart := false, laid := [("math/bits.deBruijn32tab", laid_math_bits_deBruijn32tab)], narrowed := true }
def DiagramCirclesUptoSaid : Prop := diagramCirclesUptoRow.holds Tryd.pinned (OpenSpec.upto diagramCirclesSpec)

/-- 'commutatorlaw10.DiagramAgain', WHERE WHAT IT READS IS OF BULK AT MOST 1048576: true; the input reads as it did. -/
def diagramAgainUptoRow : OpenClaim := { program := "ytgajibdmihdkcaadoor", sum := "8947bff36f4781427ef695c3f3f0ca0492a98d6b6eeafe5f942285695682911b", func := "commutator/commutatorlaw10.DiagramAgain", spec := "diagramAgain", unfollowed := true, recurses := true, named := ["math/bits.deBruijn32tab"], apart := false, laid := [("math/bits.deBruijn32tab", laid_math_bits_deBruijn32tab)], narrowed := true }
def DiagramAgainUptoSaid : Prop := diagramAgainUptoRow.holds Tryd.pinned (OpenSpec.upto diagramAgainSpec)

/-- 'commutatorlaw10.DiagramDepends', WHERE WHAT IT READS IS OF BULK AT MOST 1048576: true; the input reads as it did. -/
def diagramDependsUptoRow : OpenClaim := { program := "ytgajibdmihdkcaadoor", sum := "8947bff36f4781427ef695c3f3f0ca0492a98d6b6eeafe5f942285695682911b", func := "commutator/commutatorlaw10.DiagramDepends", spec := "diagramDepends", unfollowed := true, recurses := true, named := ["math/bits.deBruijn32tab"], apart := false, laid := [("math/bits.deBruijn32tab", laid_math_bits_deBruijn32tab)], narrowed := true }
def DiagramDependsUptoSaid : Prop := diagramDependsUptoRow.holds Tryd.pinned (OpenSpec.upto diagramDependsSpec)

end Rows
end Go.Proofs.YtgajibdmihdkcaaDoor
