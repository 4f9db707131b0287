/-
  NARROWER THAN 'FOR EVERY INPUT', by the rows' own cells (each row's printed sentence says how): ScalesGreatest: laid · ScalesUniform: laid · ScalesNarrow: laid · ScalesMoves: laid.
  DERIVED. THE GIVEN ROWS OF THIS SEAT. 4 by the template 'for every input the law returns true; each argument reads behind the call as it read before'; 0 by the template 'total and deterministic' (their statements: YtgnngldlgcdnfaaDoorTotals.lean).
  GIVEN WITH THE SEED: the statements are not yours to turn. If you find one false, say at which input.
  Laid BY PROGRAM, IN A SANDBOX (cutbox-rows.mjs): the forced cells as the released guide's own fill.sh prints them over the translation a3eda839a569b179… (all of the seat's roots in one cut). By AI agents, Wed Nov 11 2026. No macro, syntax, notation, axiom, sorry.
-/
import Derived.Test.YtgnngldlgcdnfaaDoorChecked
import GoSem.Claim
import GoSem.ClaimJoined
import GoSem.ClaimMapViews
import Derived.JoinedTies
import Derived.KernelRfl
namespace Go.Proofs.YtgnngldlgcdnfaaDoor
/- THE CELL 'sum', in the pinned program and in every row, IS THE sha256 OF THE DUMP (.gsa) THAT YtgnngldlgcdnfaaDoorProg.lean LOADS. Nothing in Lean hashes anything: it is a label: what it is worth is what the hold of that sum in a sandbox is worth. -/
noncomputable def Tryd.pinned : Pinned := { name := "ytgnngldlgcdnfaadoor", sum := "a3eda839a569b1797e5862bb704abd3accb629874b7faa9609d336e107c706de", checked := Tryd.checked }
namespace Rows
def none {H : Type} : Left H := { results := [], args := [] }

/- WHAT THE LISTED PACKAGE-LEVEL VARIABLES READ AS WHEN THE CALL BEGINS. Each datum BY PROGRAM (the guide's laid-datum.mjs) off the statement by which the dump's own 'gosem.cut.vars' lays the variable. In a bare row this is a premise. The card (YtgnngldlgcdnfaaDoorCards.lean) ties it to the program's text. -/
def laid_math_bits_deBruijn32tab {H : Type} : DataW H := .agg [.lit (.int .u8 0), .lit (.int .u8 1), .lit (.int .u8 28), .lit (.int .u8 2), .lit (.int .u8 29), .lit (.int .u8 14), .lit (.int .u8 24), .lit (.int .u8 3), .lit (.int .u8 30), .lit (.int .u8 22), .lit (.int .u8 20), .lit (.int .u8 15), .lit (.int .u8 25), .lit (.int .u8 17), .lit (.int .u8 4), .lit (.int .u8 8), .lit (.int .u8 31), .lit (.int .u8 27), .lit (.int .u8 13), .lit (.int .u8 23), .lit (.int .u8 21), .lit (.int .u8 19), .lit (.int .u8 16), .lit (.int .u8 7), .lit (.int .u8 26), .lit (.int .u8 12), .lit (.int .u8 18), .lit (.int .u8 6), .lit (.int .u8 11), .lit (.int .u8 5), .lit (.int .u8 10), .lit (.int .u8 9)]

/-- 'commutatorlaw13.ScalesGreatest': WHATEVER THE INPUT: true; the input reads as it did. -/
def scalesGreatestSpec : ChangeSpec := { name := "scalesGreatest", fn := fun _ => fun
  | [d1, d2] => { results := [.lit (.bool true)], args := [d1, d2] }
  | _ => none }
def scalesGreatestRow : OpenClaim := { program := "ytgnngldlgcdnfaadoor", sum := "a3eda839a569b1797e5862bb704abd3accb629874b7faa9609d336e107c706de", func := "commutator/commutatorlaw13.ScalesGreatest", spec := "scalesGreatest", unfollowed := true, recurses := true, named := ["math/bits.deBruijn32tab"], apart := false, laid := [("math/bits.deBruijn32tab", laid_math_bits_deBruijn32tab)] }
def ScalesGreatestSaid : Prop := scalesGreatestRow.holds Tryd.pinned (OpenSpec.ofChange scalesGreatestSpec)

/-- ITS FALSE NEIGHBOUR: 'it returns false'. Refute it at one input. -/
def scalesGreatestWrong : ChangeSpec := { name := "scalesGreatest", fn := fun _ => fun
  | [d1, d2] => { results := [.lit (.bool false)], args := [d1, d2] }
  | _ => none }
def ScalesGreatestWrongFalsely : Prop := scalesGreatestRow.holds Tryd.pinned (OpenSpec.ofChange scalesGreatestWrong)

/-- 'commutatorlaw13.ScalesUniform': WHATEVER THE INPUT: true; the input reads as it did. -/
def scalesUniformSpec : ChangeSpec := { name := "scalesUniform", fn := fun _ => fun
  | [d1, d2] => { results := [.lit (.bool true)], args := [d1, d2] }
  | _ => none }
def scalesUniformRow : OpenClaim := { program := "ytgnngldlgcdnfaadoor", sum := "a3eda839a569b1797e5862bb704abd3accb629874b7faa9609d336e107c706de", func := "commutator/commutatorlaw13.ScalesUniform", spec := "scalesUniform", unfollowed := true, recurses := true, named := ["math/bits.deBruijn32tab"], apart := false, laid := [("math/bits.deBruijn32tab", laid_math_bits_deBruijn32tab)] }
def ScalesUniformSaid : Prop := scalesUniformRow.holds Tryd.pinned (OpenSpec.ofChange scalesUniformSpec)

/-- ITS FALSE NEIGHBOUR: 'it returns false'. Refute it at one input. -/
def scalesUniformWrong : ChangeSpec := { name := "scalesUniform", fn := fun _ => fun
  | [d1, d2] => { results := [.lit (.bool false)], args := [d1, d2] }
  | _ => none }
def ScalesUniformWrongFalsely : Prop := scalesUniformRow.holds Tryd.pinned (OpenSpec.ofChange scalesUniformWrong)

/-- 'commutatorlaw13.ScalesNarrow': WHATEVER THE INPUT: true; the input reads as it did. -/
def scalesNarrowSpec : ChangeSpec := { name := "scalesNarrow", fn := fun _ => fun
  | [d1, d2] => { results := [.lit (.bool true)], args := [d1, d2] }
  | _ => none }
def scalesNarrowRow : OpenClaim := { program := "ytgnngldlgcdnfaadoor", sum := "a3eda839a569b1797e5862bb704abd3accb629874b7faa9609d336e107c706de", func := "commutator/commutatorlaw13.ScalesNarrow", spec := "scalesNarrow", unfollowed := true, recurses := true, named := ["math/bits.deBruijn32tab"], apart := false, laid := [("math/bits.deBruijn32tab", laid_math_bits_deBruijn32tab)] }
def ScalesNarrowSaid : Prop := scalesNarrowRow.holds Tryd.pinned (OpenSpec.ofChange scalesNarrowSpec)

/-- ITS FALSE NEIGHBOUR: 'it returns false'. Refute it at one input. -/
def scalesNarrowWrong : ChangeSpec := { name := "scalesNarrow", fn := fun _ => fun
  | [d1, d2] => { results := [.lit (.bool false)], args := [d1, d2] }
  | _ => none }
def ScalesNarrowWrongFalsely : Prop := scalesNarrowRow.holds Tryd.pinned (OpenSpec.ofChange scalesNarrowWrong)

/-- 'commutatorlaw13.ScalesMoves': WHATEVER THE INPUT: true; the input reads as it did. -/
def scalesMovesSpec : ChangeSpec := { name := "scalesMoves", fn := fun _ => fun
  | [d1, d2, d3] => { results := [.lit (.bool true)], args := [d1, d2, d3] }
  | _ => none }
def scalesMovesRow : OpenClaim := { program := "ytgnngldlgcdnfaadoor", sum := "a3eda839a569b1797e5862bb704abd3accb629874b7faa9609d336e107c706de", func := "commutator/commutatorlaw13.ScalesMoves", spec := "scalesMoves", unfollowed := true, recurses := true, named := ["math/bits.deBruijn32tab"], apart := false, laid := [("math/bits.deBruijn32tab", laid_math_bits_deBruijn32tab)] }
def ScalesMovesSaid : Prop := scalesMovesRow.holds Tryd.pinned (OpenSpec.ofChange scalesMovesSpec)

/-- ITS FALSE NEIGHBOUR: 'it returns false'. Refute it at one input. -/
def scalesMovesWrong : ChangeSpec := { name := "scalesMoves", fn := fun _ => fun
  | [d1, d2, d3] => { results := [.lit (.bool false)], args := [d1, d2, d3] }
  | _ => none }
def ScalesMovesWrongFalsely : Prop := scalesMovesRow.holds Tryd.pinned (OpenSpec.ofChange scalesMovesWrong)

/- THE SECOND FORM. 'bulk': how many values and letters a reading holds, each counted each time it is reached (what is shared counts as often as it is met; a slice's spare places count too). A statement '..UptoSaid' is the law's where the arguments, and the package variables that the reading takes, are together of bulk at most 1048576: NARROWER than '..Said'. Prove '..Said' where nothing that the law and all that it calls make is longer than what came in: it says more and counts as full. Else prove '..UptoSaid'. A law counts once. -/
mutual
def uptoBulk {H : Type} : DataW H → Nat
  | .lit (.string bytes) => bytes.length + 1
  | .lit _ => 1
  | .nil => 1
  | .ptr d => uptoBulk d + 1
  | .slice elems spare => uptoBulkAll elems + uptoBulkAll spare + 1
  | .agg parts => uptoBulkAll parts + 1
  | .iface _ d => uptoBulk d + 1
  | .map entries => uptoBulkEntries entries + 1
  | .held _ => 1
def uptoBulkAll {H : Type} : List (DataW H) → Nat
  | [] => 0
  | d :: r => uptoBulk d + uptoBulkAll r
def uptoBulkEntries {H : Type} : List (Lit × DataW H) → Nat
  | [] => 0
  | x :: r => uptoBulkEntry x + uptoBulkEntries r
def uptoBulkEntry {H : Type} : Lit × DataW H → Nat
  | (.string bytes, d) => bytes.length + uptoBulk d + 1
  | (_, d) => uptoBulk d + 1
 end
def uptoSmall : (H : Type) → List (DataW H) → Bool := fun _ ds => decide (uptoBulkAll ds ≤ 1048576)
def OpenSpec.upto (s : _root_.Go.ChangeSpec) : _root_.Go.OpenSpec := { _root_.Go.OpenSpec.ofChange s with cond := some uptoSmall }

/-- 'commutatorlaw13.ScalesGreatest', WHERE WHAT IT READS IS OF BULK AT MOST 1048576: true; the input reads as it did. -/
def scalesGreatestUptoRow : OpenClaim := { program := "ytgnngldlgcdnfaadoor", sum := "a3eda839a569b1797e5862bb704abd3accb629874b7faa9609d336e107c706de", func := "commutator/commutatorlaw13.ScalesGreatest", spec := "scalesGreatest", unfollowed := true, recurses := true, named := ["math/bits.deBruijn32tab"], apart := false, laid := [("math/bits.deBruijn32tab", laid_math_bits_deBruijn32tab)], narrowed := true }
def ScalesGreatestUptoSaid : Prop := scalesGreatestUptoRow.holds Tryd.pinned (OpenSpec.upto scalesGreatestSpec)

/-- 'commutatorlaw13.ScalesUniform', WHERE WHAT IT READS IS OF BULK AT MOST 1048576: true; the input reads as it did. -/
def scalesUniformUptoRow : OpenClaim := { program := "ytgnngldlgcdnfaadoor", sum := "a3eda839a569b1797e5862bb704abd3accb629874b7faa9609d336e107c706de", func := "commutator/commutatorlaw13.ScalesUniform", spec := "scalesUniform", unfollowed := true, recurses := true, named := ["math/bits.deBruijn32tab"], apart := false, laid := [("math/bits.deBruijn32tab", laid_math_bits_deBruijn32tab)], narrowed := true }
def ScalesUniformUptoSaid : Prop := scalesUniformUptoRow.holds Tryd.pinned (OpenSpec.upto scalesUniformSpec)

/-- 'commutatorlaw13.ScalesNarrow', WHERE WHAT IT READS IS OF BULK AT MOST 1048576: true; the input reads as it did. -/
def scalesNarrowUptoRow : OpenClaim := { program := "ytgnngldlgcdnfaadoor", sum := "a3eda839a569b1797e5862bb704abd3accb629874b7faa9609d336e107c706de", func := "commutator/commutatorlaw13.ScalesNarrow", spec := "scalesNarrow", unfollowed := true, recurses := true, named := ["math/bits.deBruijn32tab"], apart := false, laid := [("math/bits.deBruijn32tab", laid_math_bits_deBruijn32tab)], narrowed := true }
def ScalesNarrowUptoSaid : Prop := scalesNarrowUptoRow.holds Tryd.pinned (OpenSpec.upto scalesNarrowSpec)

/-- 'commutatorlaw13.ScalesMoves', WHERE WHAT IT READS IS OF BULK AT MOST 1048576: true; the input reads as it did. -/
def scalesMovesUptoRow : OpenClaim := { program := "ytgnngldlgcdnfaadoor", sum := "a3eda839a569b1797e5862bb704abd3accb629874b7faa9609d336e107c706de", func := "commutator/commutatorlaw13.ScalesMoves", spec := "scalesMoves", unfollowed := true, recurses := true, named := ["math/bits.deBruijn32tab"], apart := false, laid := [("math/bits.deBruijn32tab", laid_math_bits_deBruijn32tab)], narrowed := true }
def ScalesMovesUptoSaid : Prop := scalesMovesUptoRow.holds Tryd.pinned (OpenSpec.upto scalesMovesSpec)

end Rows
end Go.Proofs.YtgnngldlgcdnfaaDoor
