/-
  NARROWER THAN 'FOR EVERY INPUT', by the rows' own cells (each row's printed sentence says how): CompileMakes: laid · CompileWhole: laid · CompileNear: laid · CompileCells: laid.
  DERIVED. THE GIVEN ROWS OF THIS SEAT. 4 by the template 'for every input the law returns true; each argument reads behind the call as it read before'; 0 by the template 'total and deterministic' (their statements: YtkocmdpfknoiaaaGreatDoorTotals.lean).
  GIVEN WITH THE SEED: the statements are not yours to turn. If you find one false, say at which input.
  Laid BY PROGRAM, IN A SANDBOX (cutbox-rows.mjs): the forced cells as the released guide's own fill.sh prints them over the translation ea21382638fb2ae7… (all of the seat's roots in one cut). By AI agents, Wed Nov 11 2026. No macro, syntax, notation, axiom, sorry.
-/
import Derived.Test.YtkocmdpfknoiaaaGreatDoorChecked
import GoSem.Claim
import GoSem.ClaimJoined
import GoSem.ClaimMapViews
import Derived.JoinedTies
import Derived.KernelRfl
namespace Go.Proofs.YtkocmdpfknoiaaaGreatDoor
/- THE CELL 'sum', in the pinned program and in every row, IS THE sha256 OF THE DUMP (.gsa) THAT YtkocmdpfknoiaaaGreatDoorProg.lean LOADS. Nothing in Lean hashes anything: it is a label: what it is worth is what the hold of that sum in a sandbox is worth. -/
noncomputable def Tryz.pinned : Pinned := { name := "ytkocmdpfknoiaaagreatdoor", sum := "ea21382638fb2ae7a0f5f7cd2f9852859231a315903ee561b2ff04b67dea5120", checked := Tryz.checked }
namespace Rows
def none {H : Type} : Left H := { results := [], args := [] }

/- WHAT THE LISTED PACKAGE-LEVEL VARIABLES READ AS WHEN THE CALL BEGINS. Each datum BY PROGRAM (the guide's laid-datum.mjs) off the statement by which the dump's own 'gosem.cut.vars' lays the variable. In a bare row this is a premise. The card (YtkocmdpfknoiaaaGreatDoorCards.lean) ties it to the program's text. -/
def laid_math_bits_deBruijn32tab {H : Type} : DataW H := .agg [.lit (.int .u8 0), .lit (.int .u8 1), .lit (.int .u8 28), .lit (.int .u8 2), .lit (.int .u8 29), .lit (.int .u8 14), .lit (.int .u8 24), .lit (.int .u8 3), .lit (.int .u8 30), .lit (.int .u8 22), .lit (.int .u8 20), .lit (.int .u8 15), .lit (.int .u8 25), .lit (.int .u8 17), .lit (.int .u8 4), .lit (.int .u8 8), .lit (.int .u8 31), .lit (.int .u8 27), .lit (.int .u8 13), .lit (.int .u8 23), .lit (.int .u8 21), .lit (.int .u8 19), .lit (.int .u8 16), .lit (.int .u8 7), .lit (.int .u8 26), .lit (.int .u8 12), .lit (.int .u8 18), .lit (.int .u8 6), .lit (.int .u8 11), .lit (.int .u8 5), .lit (.int .u8 10), .lit (.int .u8 9)]
def laid_commutator_compile_operations {H : Type} : DataW H := .agg [.lit (.int .i64 0), .lit (.int .i64 1), .lit (.int .i64 2), .lit (.int .i64 3), .lit (.int .i64 4), .lit (.int .i64 5), .lit (.int .i64 6), .lit (.int .i64 7), .lit (.int .i64 8), .lit (.int .i64 9), .lit (.int .i64 10), .lit (.int .i64 9)]

/-- 'commutatorlaw15.CompileMakes': WHATEVER THE INPUT: true; the input reads as it did. -/
def compileMakesSpec : ChangeSpec := { name := "compileMakes", fn := fun _ => fun
  | [d1, d2] => { results := [.lit (.bool true)], args := [d1, d2] }
  | _ => none }
def compileMakesRow : OpenClaim := { program := "ytkocmdpfknoiaaagreatdoor", sum := "ea21382638fb2ae7a0f5f7cd2f9852859231a315903ee561b2ff04b67dea5120", func := "commutator/commutatorlaw15.CompileMakes", spec := "compileMakes", unfollowed := true, recurses := true, named := ["math/bits.deBruijn32tab", "commutator/compile.operations"], apart := false, laid := [("math/bits.deBruijn32tab", laid_math_bits_deBruijn32tab), ("commutator/compile.operations", laid_commutator_compile_operations)] }
def CompileMakesSaid : Prop := compileMakesRow.holds Tryz.pinned (OpenSpec.ofChange compileMakesSpec)

/-- ITS FALSE NEIGHBOUR: 'it returns false'. Refute it at one input. -/
def compileMakesWrong : ChangeSpec := { name := "compileMakes", fn := fun _ => fun
  | [d1, d2] => { results := [.lit (.bool false)], args := [d1, d2] }
  | _ => none }
def CompileMakesWrongFalsely : Prop := compileMakesRow.holds Tryz.pinned (OpenSpec.ofChange compileMakesWrong)

/-- 'commutatorlaw15.CompileWhole': WHATEVER THE INPUT: true; the input reads as it did. -/
def compileWholeSpec : ChangeSpec := { name := "compileWhole", fn := fun _ => fun
  | [d1, d2] => { results := [.lit (.bool true)], args := [d1, d2] }
  | _ => none }
def compileWholeRow : OpenClaim := { program := "ytkocmdpfknoiaaagreatdoor", sum := "ea21382638fb2ae7a0f5f7cd2f9852859231a315903ee561b2ff04b67dea5120", func := "commutator/commutatorlaw15.CompileWhole", spec := "compileWhole", unfollowed := true, recurses := true, named := ["math/bits.deBruijn32tab", "commutator/compile.operations"], apart := false, laid := [("math/bits.deBruijn32tab", laid_math_bits_deBruijn32tab), ("commutator/compile.operations", laid_commutator_compile_operations)] }
def CompileWholeSaid : Prop := compileWholeRow.holds Tryz.pinned (OpenSpec.ofChange compileWholeSpec)

/-- ITS FALSE NEIGHBOUR: 'it returns false'. Refute it at one input. -/
def compileWholeWrong : ChangeSpec := { name := "compileWhole", fn := fun _ => fun
  | [d1, d2] => { results := [.lit (.bool false)], args := [d1, d2] }
  | _ => none }
def CompileWholeWrongFalsely : Prop := compileWholeRow.holds Tryz.pinned (OpenSpec.ofChange compileWholeWrong)

/-- 'commutatorlaw15.CompileNear': WHATEVER THE INPUT: true; the input reads as it did. -/
def compileNearSpec : ChangeSpec := { name := "compileNear", fn := fun _ => fun
  | [d1, d2, d3] => { results := [.lit (.bool true)], args := [d1, d2, d3] }
  | _ => none }
def compileNearRow : OpenClaim := { program := "ytkocmdpfknoiaaagreatdoor", sum := "ea21382638fb2ae7a0f5f7cd2f9852859231a315903ee561b2ff04b67dea5120", func := "commutator/commutatorlaw15.CompileNear", spec := "compileNear", unfollowed := true, recurses := true, named := ["math/bits.deBruijn32tab", "commutator/compile.operations"], apart := false, laid := [("math/bits.deBruijn32tab", laid_math_bits_deBruijn32tab), ("commutator/compile.operations", laid_commutator_compile_operations)] }
def CompileNearSaid : Prop := compileNearRow.holds Tryz.pinned (OpenSpec.ofChange compileNearSpec)

/-- ITS FALSE NEIGHBOUR: 'it returns false'. Refute it at one input. -/
def compileNearWrong : ChangeSpec := { name := "compileNear", fn := fun _ => fun
  | [d1, d2, d3] => { results := [.lit (.bool false)], args := [d1, d2, d3] }
  | _ => none }
def CompileNearWrongFalsely : Prop := compileNearRow.holds Tryz.pinned (OpenSpec.ofChange compileNearWrong)

/-- 'commutatorlaw15.CompileCells': WHATEVER THE INPUT: true; the input reads as it did. -/
def compileCellsSpec : ChangeSpec := { name := "compileCells", fn := fun _ => fun
  | [d1, d2, d3] => { results := [.lit (.bool true)], args := [d1, d2, d3] }
  | _ => none }
def compileCellsRow : OpenClaim := { program := "ytkocmdpfknoiaaagreatdoor", sum := "ea21382638fb2ae7a0f5f7cd2f9852859231a315903ee561b2ff04b67dea5120", func := "commutator/commutatorlaw15.CompileCells", spec := "compileCells", unfollowed := true, recurses := true, named := ["math/bits.deBruijn32tab", "commutator/compile.operations"], apart := false, laid := [("math/bits.deBruijn32tab", laid_math_bits_deBruijn32tab), ("commutator/compile.operations", laid_commutator_compile_operations)] }
def CompileCellsSaid : Prop := compileCellsRow.holds Tryz.pinned (OpenSpec.ofChange compileCellsSpec)

/-- ITS FALSE NEIGHBOUR: 'it returns false'. Refute it at one input. -/
def compileCellsWrong : ChangeSpec := { name := "compileCells", fn := fun _ => fun
  | [d1, d2, d3] => { results := [.lit (.bool false)], args := [d1, d2, d3] }
  | _ => none }
def CompileCellsWrongFalsely : Prop := compileCellsRow.holds Tryz.pinned (OpenSpec.ofChange compileCellsWrong)

/- THE SECOND FORM. 'bulk': how many values and letters a reading holds, each counted each time it is reached (what is shared counts as often as it is met; a slice's spare places count too). A statement '..UptoSaid' is the law's where the arguments, and the package variables that the reading takes, are together of bulk at most 1048576: NARROWER than '..Said'. Prove '..Said' where nothing that the law and all that it calls make is longer than what came in: it says more and counts as full. Else prove '..UptoSaid'. A law counts once. -/
mutual
def uptoBulk {H : Type} : DataW H → Nat
  | .lit (.string bytes) => bytes.length + 1
  | .lit _ => 1
  | .nil => 1
  | .ptr d => uptoBulk d + 1
  | .slice elems spare => uptoBulkAll elems + uptoBulkAll spare + 1
  | .agg parts => uptoBulkAll parts + 1
  | .iface _ d => uptoBulk d + 1
  | .map entries => uptoBulkEntries entries + 1
  | .held _ => 1
def uptoBulkAll {H : Type} : List (DataW H) → Nat
  | [] => 0
  | d :: r => uptoBulk d + uptoBulkAll r
def uptoBulkEntries {H : Type} : List (Lit × DataW H) → Nat
  | [] => 0
  | x :: r => uptoBulkEntry x + uptoBulkEntries r
def uptoBulkEntry {H : Type} : Lit × DataW H → Nat
  | (.string bytes, d) => bytes.length + uptoBulk d + 1
  | (_, d) => uptoBulk d + 1
 end
def uptoSmall : (H : Type) → List (DataW H) → Bool := fun _ ds => decide (uptoBulkAll ds ≤ 1048576)
def OpenSpec.upto (s : _root_.Go.ChangeSpec) : _root_.Go.OpenSpec := { _root_.Go.OpenSpec.ofChange s with cond := some uptoSmall }

/-- 'commutatorlaw15.CompileMakes', WHERE WHAT IT READS IS OF BULK AT MOST 1048576: true; the input reads as it did. -/
def compileMakesUptoRow : OpenClaim := { program := "ytkocmdpfknoiaaagreatdoor", sum := "ea21382638fb2ae7a0f5f7cd2f9852859231a315903ee561b2ff04b67dea5120", func := "commutator/commutatorlaw15.CompileMakes", spec := "compileMakes", unfollowed := true, recurses := true, named := ["math/bits.deBruijn32tab", "commutator/compile.operations"], apart := false, laid := [("math/bits.deBruijn32tab", laid_math_bits_deBruijn32tab), ("commutator/compile.operations", laid_commutator_compile_operations)], narrowed := true }
def CompileMakesUptoSaid : Prop := compileMakesUptoRow.holds Tryz.pinned (OpenSpec.upto compileMakesSpec)

/-- 'commutatorlaw15.CompileWhole', WHERE WHAT IT READS IS OF BULK AT MOST 1048576: true; the input reads as it did. -/
def compileWholeUptoRow : OpenClaim := { program := "ytkocmdpfknoiaaagreatdoor", sum := "ea21382638fb2ae7a0f5f7cd2f9852859231a315903ee561b2ff04b67dea5120", func := "commutator/commutatorlaw15.CompileWhole", spec := "compileWhole", unfollowed := true, recurses := true, named := ["math/bits.deBruijn32tab", "commutator/compile.operations"], apart := false, laid := [("math/bits.deBruijn32tab", laid_math_bits_deBruijn32tab), ("commutator/compile.operations", laid_commutator_compile_operations)], narrowed := true }
def CompileWholeUptoSaid : Prop := compileWholeUptoRow.holds Tryz.pinned (OpenSpec.upto compileWholeSpec)

/-- 'commutatorlaw15.CompileNear', WHERE WHAT IT READS IS OF BULK AT MOST 1048576: true; the input reads as it did. -/
def compileNearUptoRow : OpenClaim := { program := "ytkocmdpfknoiaaagreatdoor", sum := "ea21382638fb2ae7a0f5f7cd2f9852859231a315903ee561b2ff04b67dea5120", func := "commutator/commutatorlaw15.CompileNear", spec := "compileNear", unfollowed := true, recurses := true, named := ["math/bits.deBruijn32tab", "commutator/compile.operations"], apart := false, laid := [("math/bits.deBruijn32tab", laid_math_bits_deBruijn32tab), ("commutator/compile.operations", laid_commutator_compile_operations)], narrowed := true }
def CompileNearUptoSaid : Prop := compileNearUptoRow.holds Tryz.pinned (OpenSpec.upto compileNearSpec)

/-- 'commutatorlaw15.CompileCells', WHERE WHAT IT READS IS OF BULK AT MOST 1048576: true; the input reads as it did. -/
def compileCellsUptoRow : OpenClaim := { program := "ytkocmdpfknoiaaagreatdoor", sum := "ea21382638fb2ae7a0f5f7cd2f9852859231a315903ee561b2ff04b67dea5120", func := "commutator/commutatorlaw15.CompileCells", spec := "compileCells", unfollowed := true, recurses := true, named := ["math/bits.deBruijn32tab", "commutator/compile.operations"], apart := false, laid := [("math/bits.deBruijn32tab", laid_math_bits_deBruijn32tab), ("commutator/compile.operations", laid_commutator_compile_operations)], narrowed := true }
def CompileCellsUptoSaid : Prop := compileCellsUptoRow.holds Tryz.pinned (OpenSpec.upto compileCellsSpec)

end Rows
end Go.Proofs.YtkocmdpfknoiaaaGreatDoor
