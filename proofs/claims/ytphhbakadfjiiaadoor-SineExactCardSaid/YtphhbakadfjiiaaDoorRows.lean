/-
  NARROWER THAN 'FOR EVERY INPUT', by the rows' own cells (each row's printed sentence says how): SineValues: laid · SineTable: laid · SineLength: laid · SineExact: laid · SineSymmetric: laid · SineSteps: laid · SineTurns: laid · SineSums: laid.
  DERIVED. THE GIVEN ROWS OF THIS SEAT. 8 by the template 'for every input the law returns true; each argument reads behind the call as it read before'; 0 by the template 'total and deterministic' (their statements: YtphhbakadfjiiaaDoorTotals.lean).
  GIVEN WITH THE SEED: the statements are not yours to turn. If you find one false, say at which input.
  Laid BY PROGRAM, IN A SANDBOX (cutbox-rows.mjs): the forced cells as the released guide's own fill.sh prints them over the translation c2529d033e42c9b2… (all of the seat's roots in one cut). By AI agents, Wed Nov 11 2026. No macro, syntax, notation, axiom, sorry.
-/
import Derived.Test.YtphhbakadfjiiaaDoorChecked
import GoSem.Claim
import GoSem.ClaimJoined
import GoSem.ClaimMapViews
import Derived.JoinedTies
import Derived.KernelRfl
namespace Go.Proofs.YtphhbakadfjiiaaDoor
/- THE CELL 'sum', in the pinned program and in every row, IS THE sha256 OF THE DUMP (.gsa) THAT YtphhbakadfjiiaaDoorProg.lean LOADS. Nothing in Lean hashes anything: it is a label: what it is worth is what the hold of that sum in a sandbox is worth. -/
noncomputable def Tryd.pinned : Pinned := { name := "ytphhbakadfjiiaadoor", sum := "c2529d033e42c9b21ea41fe7b3ed349552f48d92120c338533366b16da4b34fe", checked := Tryd.checked }
namespace Rows
def none {H : Type} : Left H := { results := [], args := [] }

/- WHAT THE LISTED PACKAGE-LEVEL VARIABLES READ AS WHEN THE CALL BEGINS. Each datum BY PROGRAM (the guide's laid-datum.mjs) off the statement by which the dump's own 'gosem.cut.vars' lays the variable. In a bare row this is a premise. The card (YtphhbakadfjiiaaDoorCards.lean) ties it to the program's text. -/
def laid_commutator_sine_table {H : Type} : DataW H := .agg [.lit (.int .i64 0), .lit (.int .i64 804), .lit (.int .i64 1607), .lit (.int .i64 2410), .lit (.int .i64 3211), .lit (.int .i64 4011), .lit (.int .i64 4808), .lit (.int .i64 5602), .lit (.int .i64 6392), .lit (.int .i64 7179), .lit (.int .i64 7961), .lit (.int .i64 8739), .lit (.int .i64 9512), .lit (.int .i64 10278), .lit (.int .i64 11039), .lit (.int .i64 11793), .lit (.int .i64 12539), .lit (.int .i64 13278), .lit (.int .i64 14010), .lit (.int .i64 14732), .lit (.int .i64 15446), .lit (.int .i64 16151), .lit (.int .i64 16846), .lit (.int .i64 17530), .lit (.int .i64 18204), .lit (.int .i64 18868), .lit (.int .i64 19519), .lit (.int .i64 20159), .lit (.int .i64 20787), .lit (.int .i64 21403), .lit (.int .i64 22005), .lit (.int .i64 22594), .lit (.int .i64 23170), .lit (.int .i64 23732), .lit (.int .i64 24279), .lit (.int .i64 24812), .lit (.int .i64 25330), .lit (.int .i64 25832), .lit (.int .i64 26319), .lit (.int .i64 26790), .lit (.int .i64 27245), .lit (.int .i64 27684), .lit (.int .i64 28106), .lit (.int .i64 28511), .lit (.int .i64 28898), .lit (.int .i64 29269), .lit (.int .i64 29621), .lit (.int .i64 29956), .lit (.int .i64 30273), .lit (.int .i64 30572), .lit (.int .i64 30852), .lit (.int .i64 31114), .lit (.int .i64 31357), .lit (.int .i64 31581), .lit (.int .i64 31785), .lit (.int .i64 31971), .lit (.int .i64 32138), .lit (.int .i64 32285), .lit (.int .i64 32413), .lit (.int .i64 32521), .lit (.int .i64 32610), .lit (.int .i64 32679), .lit (.int .i64 32728), .lit (.int .i64 32758), .lit (.int .i64 32768)]

/-- 'commutatorlaw06.SineValues': WHATEVER THE INPUT: true; the input reads as it did. -/
def sineValuesSpec : ChangeSpec := { name := "sineValues", fn := fun _ => fun
  | [d] => { results := [.lit (.bool true)], args := [d] }
  | _ => none }
def sineValuesRow : OpenClaim := { program := "ytphhbakadfjiiaadoor", sum := "c2529d033e42c9b21ea41fe7b3ed349552f48d92120c338533366b16da4b34fe", func := "commutator/commutatorlaw06.SineValues", spec := "sineValues", named := ["commutator/sine.table"], apart := false, laid := [("commutator/sine.table", laid_commutator_sine_table)] }
def SineValuesSaid : Prop := sineValuesRow.holds Tryd.pinned (OpenSpec.ofChange sineValuesSpec)

/-- ITS FALSE NEIGHBOUR: 'it returns false'. Refute it at one input. -/
def sineValuesWrong : ChangeSpec := { name := "sineValues", fn := fun _ => fun
  | [d] => { results := [.lit (.bool false)], args := [d] }
  | _ => none }
def SineValuesWrongFalsely : Prop := sineValuesRow.holds Tryd.pinned (OpenSpec.ofChange sineValuesWrong)

/-- 'commutatorlaw06.SineTable': WHATEVER THE INPUT: true; the input reads as it did. -/
def sineTableSpec : ChangeSpec := { name := "sineTable", fn := fun _ => fun
  | [d1, d2] => { results := [.lit (.bool true)], args := [d1, d2] }
  | _ => none }
def sineTableRow : OpenClaim := { program := "ytphhbakadfjiiaadoor", sum := "c2529d033e42c9b21ea41fe7b3ed349552f48d92120c338533366b16da4b34fe", func := "commutator/commutatorlaw06.SineTable", spec := "sineTable", named := ["commutator/sine.table"], apart := false, laid := [("commutator/sine.table", laid_commutator_sine_table)] }
def SineTableSaid : Prop := sineTableRow.holds Tryd.pinned (OpenSpec.ofChange sineTableSpec)

/-- ITS FALSE NEIGHBOUR: 'it returns false'. Refute it at one input. -/
def sineTableWrong : ChangeSpec := { name := "sineTable", fn := fun _ => fun
  | [d1, d2] => { results := [.lit (.bool false)], args := [d1, d2] }
  | _ => none }
def SineTableWrongFalsely : Prop := sineTableRow.holds Tryd.pinned (OpenSpec.ofChange sineTableWrong)

/-- 'commutatorlaw06.SineLength': WHATEVER THE INPUT: true; the input reads as it did. -/
def sineLengthSpec : ChangeSpec := { name := "sineLength", fn := fun _ => fun
  | [d] => { results := [.lit (.bool true)], args := [d] }
  | _ => none }
def sineLengthRow : OpenClaim := { program := "ytphhbakadfjiiaadoor", sum := "c2529d033e42c9b21ea41fe7b3ed349552f48d92120c338533366b16da4b34fe", func := "commutator/commutatorlaw06.SineLength", spec := "sineLength", named := ["commutator/sine.table"], apart := false, laid := [("commutator/sine.table", laid_commutator_sine_table)] }
def SineLengthSaid : Prop := sineLengthRow.holds Tryd.pinned (OpenSpec.ofChange sineLengthSpec)

/-- ITS FALSE NEIGHBOUR: 'it returns false'. Refute it at one input. -/
def sineLengthWrong : ChangeSpec := { name := "sineLength", fn := fun _ => fun
  | [d] => { results := [.lit (.bool false)], args := [d] }
  | _ => none }
def SineLengthWrongFalsely : Prop := sineLengthRow.holds Tryd.pinned (OpenSpec.ofChange sineLengthWrong)

/-- 'commutatorlaw06.SineExact': WHATEVER THE INPUT: true; the input reads as it did. -/
def sineExactSpec : ChangeSpec := { name := "sineExact", fn := fun _ => fun
  | [d] => { results := [.lit (.bool true)], args := [d] }
  | _ => none }
def sineExactRow : OpenClaim := { program := "ytphhbakadfjiiaadoor", sum := "c2529d033e42c9b21ea41fe7b3ed349552f48d92120c338533366b16da4b34fe", func := "commutator/commutatorlaw06.SineExact", spec := "sineExact", named := ["commutator/sine.table"], apart := false, laid := [("commutator/sine.table", laid_commutator_sine_table)] }
def SineExactSaid : Prop := sineExactRow.holds Tryd.pinned (OpenSpec.ofChange sineExactSpec)

/-- ITS FALSE NEIGHBOUR: 'it returns false'. Refute it at one input. -/
def sineExactWrong : ChangeSpec := { name := "sineExact", fn := fun _ => fun
  | [d] => { results := [.lit (.bool false)], args := [d] }
  | _ => none }
def SineExactWrongFalsely : Prop := sineExactRow.holds Tryd.pinned (OpenSpec.ofChange sineExactWrong)

/-- 'commutatorlaw06.SineSymmetric': WHATEVER THE INPUT: true; the input reads as it did. -/
def sineSymmetricSpec : ChangeSpec := { name := "sineSymmetric", fn := fun _ => fun
  | [d] => { results := [.lit (.bool true)], args := [d] }
  | _ => none }
def sineSymmetricRow : OpenClaim := { program := "ytphhbakadfjiiaadoor", sum := "c2529d033e42c9b21ea41fe7b3ed349552f48d92120c338533366b16da4b34fe", func := "commutator/commutatorlaw06.SineSymmetric", spec := "sineSymmetric", named := ["commutator/sine.table"], apart := false, laid := [("commutator/sine.table", laid_commutator_sine_table)] }
def SineSymmetricSaid : Prop := sineSymmetricRow.holds Tryd.pinned (OpenSpec.ofChange sineSymmetricSpec)

/-- ITS FALSE NEIGHBOUR: 'it returns false'. Refute it at one input. -/
def sineSymmetricWrong : ChangeSpec := { name := "sineSymmetric", fn := fun _ => fun
  | [d] => { results := [.lit (.bool false)], args := [d] }
  | _ => none }
def SineSymmetricWrongFalsely : Prop := sineSymmetricRow.holds Tryd.pinned (OpenSpec.ofChange sineSymmetricWrong)

/-- 'commutatorlaw06.SineSteps': WHATEVER THE INPUT: true; the input reads as it did. -/
def sineStepsSpec : ChangeSpec := { name := "sineSteps", fn := fun _ => fun
  | [d] => { results := [.lit (.bool true)], args := [d] }
  | _ => none }
def sineStepsRow : OpenClaim := { program := "ytphhbakadfjiiaadoor", sum := "c2529d033e42c9b21ea41fe7b3ed349552f48d92120c338533366b16da4b34fe", func := "commutator/commutatorlaw06.SineSteps", spec := "sineSteps", named := ["commutator/sine.table"], apart := false, laid := [("commutator/sine.table", laid_commutator_sine_table)] }
def SineStepsSaid : Prop := sineStepsRow.holds Tryd.pinned (OpenSpec.ofChange sineStepsSpec)

/-- ITS FALSE NEIGHBOUR: 'it returns false'. Refute it at one input. -/
def sineStepsWrong : ChangeSpec := { name := "sineSteps", fn := fun _ => fun
  | [d] => { results := [.lit (.bool false)], args := [d] }
  | _ => none }
def SineStepsWrongFalsely : Prop := sineStepsRow.holds Tryd.pinned (OpenSpec.ofChange sineStepsWrong)

/-- 'commutatorlaw06.SineTurns': WHATEVER THE INPUT: true; the input reads as it did. -/
def sineTurnsSpec : ChangeSpec := { name := "sineTurns", fn := fun _ => fun
  | [d1, d2] => { results := [.lit (.bool true)], args := [d1, d2] }
  | _ => none }
def sineTurnsRow : OpenClaim := { program := "ytphhbakadfjiiaadoor", sum := "c2529d033e42c9b21ea41fe7b3ed349552f48d92120c338533366b16da4b34fe", func := "commutator/commutatorlaw06.SineTurns", spec := "sineTurns", named := ["commutator/sine.table"], apart := false, laid := [("commutator/sine.table", laid_commutator_sine_table)] }
def SineTurnsSaid : Prop := sineTurnsRow.holds Tryd.pinned (OpenSpec.ofChange sineTurnsSpec)

/-- ITS FALSE NEIGHBOUR: 'it returns false'. Refute it at one input. -/
def sineTurnsWrong : ChangeSpec := { name := "sineTurns", fn := fun _ => fun
  | [d1, d2] => { results := [.lit (.bool false)], args := [d1, d2] }
  | _ => none }
def SineTurnsWrongFalsely : Prop := sineTurnsRow.holds Tryd.pinned (OpenSpec.ofChange sineTurnsWrong)

/-- 'commutatorlaw06.SineSums': WHATEVER THE INPUT: true; the input reads as it did. -/
def sineSumsSpec : ChangeSpec := { name := "sineSums", fn := fun _ => fun
  | [d1, d2] => { results := [.lit (.bool true)], args := [d1, d2] }
  | _ => none }
def sineSumsRow : OpenClaim := { program := "ytphhbakadfjiiaadoor", sum := "c2529d033e42c9b21ea41fe7b3ed349552f48d92120c338533366b16da4b34fe", func := "commutator/commutatorlaw06.SineSums", spec := "sineSums", named := ["commutator/sine.table"], apart := false, laid := [("commutator/sine.table", laid_commutator_sine_table)] }
def SineSumsSaid : Prop := sineSumsRow.holds Tryd.pinned (OpenSpec.ofChange sineSumsSpec)

/-- ITS FALSE NEIGHBOUR: 'it returns false'. Refute it at one input. -/
def sineSumsWrong : ChangeSpec := { name := "sineSums", fn := fun _ => fun
  | [d1, d2] => { results := [.lit (.bool false)], args := [d1, d2] }
  | _ => none }
def SineSumsWrongFalsely : Prop := sineSumsRow.holds Tryd.pinned (OpenSpec.ofChange sineSumsWrong)

/- THE SECOND FORM. 'bulk': how many values and letters a reading holds, each counted each time it is reached (what is shared counts as often as it is met; a slice's spare places count too). A statement '..UptoSaid' is the law's where the arguments, and the package variables that the reading takes, are together of bulk at most 1048576: NARROWER than '..Said'. Prove '..Said' where nothing that the law and all that it calls make is longer than what came in: it says more and counts as full. Else prove '..UptoSaid'. A law counts once. -/
mutual
def uptoBulk {H : Type} : DataW H → Nat
  | .lit (.string bytes) => bytes.length + 1
  | .lit _ => 1
  | .nil => 1
  | .ptr d => uptoBulk d + 1
  | .slice elems spare => uptoBulkAll elems + uptoBulkAll spare + 1
  | .agg parts => uptoBulkAll parts + 1
  | .iface _ d => uptoBulk d + 1
  | .map entries => uptoBulkEntries entries + 1
  | .held _ => 1
def uptoBulkAll {H : Type} : List (DataW H) → Nat
  | [] => 0
  | d :: r => uptoBulk d + uptoBulkAll r
def uptoBulkEntries {H : Type} : List (Lit × DataW H) → Nat
  | [] => 0
  | x :: r => uptoBulkEntry x + uptoBulkEntries r
def uptoBulkEntry {H : Type} : Lit × DataW H → Nat
  | (.string bytes, d) => bytes.length + uptoBulk d + 1
  | (_, d) => uptoBulk d + 1
 end
def uptoSmall : (H : Type) → List (DataW H) → Bool := fun _ ds => decide (uptoBulkAll ds ≤ 1048576)
def OpenSpec.upto (s : _root_.Go.ChangeSpec) : _root_.Go.OpenSpec := { _root_.Go.OpenSpec.ofChange s with cond := some uptoSmall }

/-- 'commutatorlaw06.SineValues', WHERE WHAT IT READS IS OF BULK AT MOST 1048576: true; the input reads as it did. -/
def sineValuesUptoRow : OpenClaim := { program := "ytphhbakadfjiiaadoor", sum := "c2529d033e42c9b21ea41fe7b3ed349552f48d92120c338533366b16da4b34fe", func := "commutator/commutatorlaw06.SineValues", spec := "sineValues", named := ["commutator/sine.table"], apart := false, laid := [("commutator/sine.table", laid_commutator_sine_table)], narrowed := true }
def SineValuesUptoSaid : Prop := sineValuesUptoRow.holds Tryd.pinned (OpenSpec.upto sineValuesSpec)

/-- 'commutatorlaw06.SineTable', WHERE WHAT IT READS IS OF BULK AT MOST 1048576: true; the input reads as it did. -/
def sineTableUptoRow : OpenClaim := { program := "ytphhbakadfjiiaadoor", sum := "c2529d033e42c9b21ea41fe7b3ed349552f48d92120c338533366b16da4b34fe", func := "commutator/commutatorlaw06.SineTable", spec := "sineTable", named := ["commutator/sine.table"], apart := false, laid := [("commutator/sine.table", laid_commutator_sine_table)], narrowed := true }
def SineTableUptoSaid : Prop := sineTableUptoRow.holds Tryd.pinned (OpenSpec.upto sineTableSpec)

/-- 'commutatorlaw06.SineLength', WHERE WHAT IT READS IS OF BULK AT MOST 1048576: true; the input reads as it did. -/
def sineLengthUptoRow : OpenClaim := { program := "ytphhbakadfjiiaadoor", sum := "c2529d033e42c9b21ea41fe7b3ed349552f48d92120c338533366b16da4b34fe", func := "commutator/commutatorlaw06.SineLength", spec := "sineLength", named := ["commutator/sine.table"], apart := false, laid := [("commutator/sine.table", laid_commutator_sine_table)], narrowed := true }
def SineLengthUptoSaid : Prop := sineLengthUptoRow.holds Tryd.pinned (OpenSpec.upto sineLengthSpec)

/-- 'commutatorlaw06.SineExact', WHERE WHAT IT READS IS OF BULK AT MOST 1048576: true; the input reads as it did. -/
def sineExactUptoRow : OpenClaim := { program := "ytphhbakadfjiiaadoor", sum := "c2529d033e42c9b21ea41fe7b3ed349552f48d92120c338533366b16da4b34fe", func := "commutator/commutatorlaw06.SineExact", spec := "sineExact", named := ["commutator/sine.table"], apart := false, laid := [("commutator/sine.table", laid_commutator_sine_table)], narrowed := true }
def SineExactUptoSaid : Prop := sineExactUptoRow.holds Tryd.pinned (OpenSpec.upto sineExactSpec)

/-- 'commutatorlaw06.SineSymmetric', WHERE WHAT IT READS IS OF BULK AT MOST 1048576: true; the input reads as it did. -/
def sineSymmetricUptoRow : OpenClaim := { program := "ytphhbakadfjiiaadoor", sum := "c2529d033e42c9b21ea41fe7b3ed349552f48d92120c338533366b16da4b34fe", func := "commutator/commutatorlaw06.SineSymmetric", spec := "sineSymmetric", named := ["commutator/sine.table"], apart := false, laid := [("commutator/sine.table", laid_commutator_sine_table)], narrowed := true }
def SineSymmetricUptoSaid : Prop := sineSymmetricUptoRow.holds Tryd.pinned (OpenSpec.upto sineSymmetricSpec)

/-- 'commutatorlaw06.SineSteps', WHERE WHAT IT READS IS OF BULK AT MOST 1048576: true; the input reads as it did. -/
def sineStepsUptoRow : OpenClaim := { program := "ytphhbakadfjiiaadoor", sum := "c2529d033e42c9b21ea41fe7b3ed349552f48d92120c338533366b16da4b34fe", func := "commutator/commutatorlaw06.SineSteps", spec := "sineSteps", named := ["commutator/sine.table"], apart := false, laid := [("commutator/sine.table", laid_commutator_sine_table)], narrowed := true }
def SineStepsUptoSaid : Prop := sineStepsUptoRow.holds Tryd.pinned (OpenSpec.upto sineStepsSpec)

/-- 'commutatorlaw06.SineTurns', WHERE WHAT IT READS IS OF BULK AT MOST 1048576: true; the input reads as it did. -/
def sineTurnsUptoRow : OpenClaim := { program := "ytphhbakadfjiiaadoor", sum := "c2529d033e42c9b21ea41fe7b3ed349552f48d92120c338533366b16da4b34fe", func := "commutator/commutatorlaw06.SineTurns", spec := "sineTurns", named := ["commutator/sine.table"], apart := false, laid := [("commutator/sine.table", laid_commutator_sine_table)], narrowed := true }
def SineTurnsUptoSaid : Prop := sineTurnsUptoRow.holds Tryd.pinned (OpenSpec.upto sineTurnsSpec)

/-- 'commutatorlaw06.SineSums', WHERE WHAT IT READS IS OF BULK AT MOST 1048576: true; the input reads as it did. -/
def sineSumsUptoRow : OpenClaim := { program := "ytphhbakadfjiiaadoor", sum := "c2529d033e42c9b21ea41fe7b3ed349552f48d92120c338533366b16da4b34fe", func := "commutator/commutatorlaw06.SineSums", spec := "sineSums", named := ["commutator/sine.table"], apart := false, laid := [("commutator/sine.table", laid_commutator_sine_table)], narrowed := true }
def SineSumsUptoSaid : Prop := sineSumsUptoRow.holds Tryd.pinned (OpenSpec.upto sineSumsSpec)

end Rows
end Go.Proofs.YtphhbakadfjiiaaDoor
