/-
  NARROWER THAN 'FOR EVERY INPUT', by the rows' own cells (each row's printed sentence says how): IntervalLimits: laid · ExactAffine: laid · ExactPruned: laid · RangesContain: laid · RangesEvaluate: laid · RangesHold: laid · RangesKeep: laid · RangesLocal: laid · RangesWiden: laid.
  DERIVED. THE GIVEN ROWS OF THIS SEAT. 9 by the template 'for every input the law returns true; each argument reads behind the call as it read before'; 0 by the template 'total and deterministic' (their statements: YtcdkkohklhmpgaaGreatDoorTotals.lean).
  GIVEN WITH THE SEED: the statements are not yours to turn. If you find one false, say at which input.
  Laid BY PROGRAM, IN A SANDBOX (cutbox-rows.mjs): the forced cells as the released guide's own fill.sh prints them over the translation e20dc7d913f55d89… (all of the seat's roots in one cut). By AI agents, Wed Nov 11 2026. No macro, syntax, notation, axiom, sorry.
-/
import Derived.Test.YtcdkkohklhmpgaaGreatDoorChecked
import GoSem.Claim
import GoSem.ClaimJoined
import GoSem.ClaimMapViews
import Derived.JoinedTies
import Derived.KernelRfl
namespace Go.Proofs.YtcdkkohklhmpgaaGreatDoor
/- THE CELL 'sum', in the pinned program and in every row, IS THE sha256 OF THE DUMP (.gsa) THAT YtcdkkohklhmpgaaGreatDoorProg.lean LOADS. Nothing in Lean hashes anything: it is a label: what it is worth is what the hold of that sum in a sandbox is worth. -/
noncomputable def Tryz.pinned : Pinned := { name := "ytcdkkohklhmpgaagreatdoor", sum := "e20dc7d913f55d896caa93279d526a65c0832b3e46d69547f118bc5e81f2f877", checked := Tryz.checked }
namespace Rows
def none {H : Type} : Left H := { results := [], args := [] }

/- WHAT THE LISTED PACKAGE-LEVEL VARIABLES READ AS WHEN THE CALL BEGINS. Each datum BY PROGRAM (the guide's laid-datum.mjs) off the statement by which the dump's own 'gosem.cut.vars' lays the variable. In a bare row this is a premise. The card (YtcdkkohklhmpgaaGreatDoorCards.lean) ties it to the program's text. -/
def laid_math_bits_deBruijn32tab {H : Type} : DataW H := .agg [.lit (.int .u8 0), .lit (.int .u8 1), .lit (.int .u8 28), .lit (.int .u8 2), .lit (.int .u8 29), .lit (.int .u8 14), .lit (.int .u8 24), .lit (.int .u8 3), .lit (.int .u8 30), .lit (.int .u8 22), .lit (.int .u8 20), .lit (.int .u8 15), .lit (.int .u8 25), .lit (.int .u8 17), .lit (.int .u8 4), .lit (.int .u8 8), .lit (.int .u8 31), .lit (.int .u8 27), .lit (.int .u8 13), .lit (.int .u8 23), .lit (.int .u8 21), .lit (.int .u8 19), .lit (.int .u8 16), .lit (.int .u8 7), .lit (.int .u8 26), .lit (.int .u8 12), .lit (.int .u8 18), .lit (.int .u8 6), .lit (.int .u8 11), .lit (.int .u8 5), .lit (.int .u8 10), .lit (.int .u8 9)]
def laid_math_bits_deBruijn64tab {H : Type} : DataW H := .agg [.lit (.int .u8 0), .lit (.int .u8 1), .lit (.int .u8 56), .lit (.int .u8 2), .lit (.int .u8 57), .lit (.int .u8 49), .lit (.int .u8 28), .lit (.int .u8 3), .lit (.int .u8 61), .lit (.int .u8 58), .lit (.int .u8 42), .lit (.int .u8 50), .lit (.int .u8 38), .lit (.int .u8 29), .lit (.int .u8 17), .lit (.int .u8 4), .lit (.int .u8 62), .lit (.int .u8 47), .lit (.int .u8 59), .lit (.int .u8 36), .lit (.int .u8 45), .lit (.int .u8 43), .lit (.int .u8 51), .lit (.int .u8 22), .lit (.int .u8 53), .lit (.int .u8 39), .lit (.int .u8 33), .lit (.int .u8 30), .lit (.int .u8 24), .lit (.int .u8 18), .lit (.int .u8 12), .lit (.int .u8 5), .lit (.int .u8 63), .lit (.int .u8 55), .lit (.int .u8 48), .lit (.int .u8 27), .lit (.int .u8 60), .lit (.int .u8 41), .lit (.int .u8 37), .lit (.int .u8 16), .lit (.int .u8 46), .lit (.int .u8 35), .lit (.int .u8 44), .lit (.int .u8 21), .lit (.int .u8 52), .lit (.int .u8 32), .lit (.int .u8 23), .lit (.int .u8 11), .lit (.int .u8 54), .lit (.int .u8 26), .lit (.int .u8 40), .lit (.int .u8 15), .lit (.int .u8 34), .lit (.int .u8 20), .lit (.int .u8 31), .lit (.int .u8 10), .lit (.int .u8 25), .lit (.int .u8 14), .lit (.int .u8 19), .lit (.int .u8 9), .lit (.int .u8 13), .lit (.int .u8 8), .lit (.int .u8 7), .lit (.int .u8 6)]
def laid_internal_strconv_uint64pow10 {H : Type} : DataW H := .agg [.lit (.int .u64 1), .lit (.int .u64 10), .lit (.int .u64 100), .lit (.int .u64 1000), .lit (.int .u64 10000), .lit (.int .u64 100000), .lit (.int .u64 1000000), .lit (.int .u64 10000000), .lit (.int .u64 100000000), .lit (.int .u64 1000000000), .lit (.int .u64 10000000000), .lit (.int .u64 100000000000), .lit (.int .u64 1000000000000), .lit (.int .u64 10000000000000), .lit (.int .u64 100000000000000), .lit (.int .u64 1000000000000000), .lit (.int .u64 10000000000000000), .lit (.int .u64 100000000000000000), .lit (.int .u64 1000000000000000000), .lit (.int .u64 10000000000000000000)]

/-- 'commutatorlaw03.IntervalLimits': WHATEVER THE INPUT: true; the input reads as it did. -/
def intervalLimitsSpec : ChangeSpec := { name := "intervalLimits", fn := fun _ => fun
  | [d1, d2, d3] => { results := [.lit (.bool true)], args := [d1, d2, d3] }
  | _ => none }
def intervalLimitsRow : OpenClaim := { program := "ytcdkkohklhmpgaagreatdoor", sum := "e20dc7d913f55d896caa93279d526a65c0832b3e46d69547f118bc5e81f2f877", func := "commutator/commutatorlaw03.IntervalLimits", spec := "intervalLimits", inPlace := ["internal/abi.NoEscape", "internal/bytealg.MakeNoZero"], recurses := true, named := ["math/bits.deBruijn32tab", "internal/strconv.uint64pow10", "math/bits.deBruijn64tab"], apart := false, laid := [("math/bits.deBruijn32tab", laid_math_bits_deBruijn32tab), ("math/bits.deBruijn64tab", laid_math_bits_deBruijn64tab), ("internal/strconv.uint64pow10", laid_internal_strconv_uint64pow10)] }
def IntervalLimitsSaid : Prop := intervalLimitsRow.holds Tryz.pinned (OpenSpec.ofChange intervalLimitsSpec)

/-- ITS FALSE NEIGHBOUR: 'it returns false'. Refute it at one input. -/
def intervalLimitsWrong : ChangeSpec := { name := "intervalLimits", fn := fun _ => fun
  | [d1, d2, d3] => { results := [.lit (.bool false)], args := [d1, d2, d3] }
  | _ => none }
def IntervalLimitsWrongFalsely : Prop := intervalLimitsRow.holds Tryz.pinned (OpenSpec.ofChange intervalLimitsWrong)

/-- 'commutatorlaw11.ExactAffine': WHATEVER THE INPUT: true; the input reads as it did. -/
def exactAffineSpec : ChangeSpec := { name := "exactAffine", fn := fun _ => fun
  | [d1, d2, d3] => { results := [.lit (.bool true)], args := [d1, d2, d3] }
  | _ => none }
def exactAffineRow : OpenClaim := { program := "ytcdkkohklhmpgaagreatdoor", sum := "e20dc7d913f55d896caa93279d526a65c0832b3e46d69547f118bc5e81f2f877", func := "commutator/commutatorlaw11.ExactAffine", spec := "exactAffine", unfollowed := true, recurses := true, named := ["math/bits.deBruijn32tab"], apart := false, laid := [("math/bits.deBruijn32tab", laid_math_bits_deBruijn32tab)] }
def ExactAffineSaid : Prop := exactAffineRow.holds Tryz.pinned (OpenSpec.ofChange exactAffineSpec)

/-- ITS FALSE NEIGHBOUR: 'it returns false'. Refute it at one input. -/
def exactAffineWrong : ChangeSpec := { name := "exactAffine", fn := fun _ => fun
  | [d1, d2, d3] => { results := [.lit (.bool false)], args := [d1, d2, d3] }
  | _ => none }
def ExactAffineWrongFalsely : Prop := exactAffineRow.holds Tryz.pinned (OpenSpec.ofChange exactAffineWrong)

/-- 'commutatorlaw11.ExactPruned': WHATEVER THE INPUT: true; the input reads as it did. -/
def exactPrunedSpec : ChangeSpec := { name := "exactPruned", fn := fun _ => fun
  | [d1, d2] => { results := [.lit (.bool true)], args := [d1, d2] }
  | _ => none }
def exactPrunedRow : OpenClaim := { program := "ytcdkkohklhmpgaagreatdoor", sum := "e20dc7d913f55d896caa93279d526a65c0832b3e46d69547f118bc5e81f2f877", func := "commutator/commutatorlaw11.ExactPruned", spec := "exactPruned", unfollowed := true, recurses := true, named := ["math/bits.deBruijn32tab"], apart := false, laid := [("math/bits.deBruijn32tab", laid_math_bits_deBruijn32tab)] }
def ExactPrunedSaid : Prop := exactPrunedRow.holds Tryz.pinned (OpenSpec.ofChange exactPrunedSpec)

/-- ITS FALSE NEIGHBOUR: 'it returns false'. Refute it at one input. -/
def exactPrunedWrong : ChangeSpec := { name := "exactPruned", fn := fun _ => fun
  | [d1, d2] => { results := [.lit (.bool false)], args := [d1, d2] }
  | _ => none }
def ExactPrunedWrongFalsely : Prop := exactPrunedRow.holds Tryz.pinned (OpenSpec.ofChange exactPrunedWrong)

/-- 'commutatorlaw12.RangesContain': WHATEVER THE INPUT: true; the input reads as it did. -/
def rangesContainSpec : ChangeSpec := { name := "rangesContain", fn := fun _ => fun
  | [d1, d2, d3] => { results := [.lit (.bool true)], args := [d1, d2, d3] }
  | _ => none }
def rangesContainRow : OpenClaim := { program := "ytcdkkohklhmpgaagreatdoor", sum := "e20dc7d913f55d896caa93279d526a65c0832b3e46d69547f118bc5e81f2f877", func := "commutator/commutatorlaw12.RangesContain", spec := "rangesContain", unfollowed := true, recurses := true, named := ["math/bits.deBruijn32tab"], apart := false, laid := [("math/bits.deBruijn32tab", laid_math_bits_deBruijn32tab)] }
def RangesContainSaid : Prop := rangesContainRow.holds Tryz.pinned (OpenSpec.ofChange rangesContainSpec)

/-- ITS FALSE NEIGHBOUR: 'it returns false'. Refute it at one input. -/
def rangesContainWrong : ChangeSpec := { name := "rangesContain", fn := fun _ => fun
  | [d1, d2, d3] => { results := [.lit (.bool false)], args := [d1, d2, d3] }
  | _ => none }
def RangesContainWrongFalsely : Prop := rangesContainRow.holds Tryz.pinned (OpenSpec.ofChange rangesContainWrong)

/-- 'commutatorlaw12.RangesEvaluate': WHATEVER THE INPUT: true; the input reads as it did. -/
def rangesEvaluateSpec : ChangeSpec := { name := "rangesEvaluate", fn := fun _ => fun
  | [d1, d2] => { results := [.lit (.bool true)], args := [d1, d2] }
  | _ => none }
def rangesEvaluateRow : OpenClaim := { program := "ytcdkkohklhmpgaagreatdoor", sum := "e20dc7d913f55d896caa93279d526a65c0832b3e46d69547f118bc5e81f2f877", func := "commutator/commutatorlaw12.RangesEvaluate", spec := "rangesEvaluate", unfollowed := true, recurses := true, named := ["math/bits.deBruijn32tab"], apart := false, laid := [("math/bits.deBruijn32tab", laid_math_bits_deBruijn32tab)] }
def RangesEvaluateSaid : Prop := rangesEvaluateRow.holds Tryz.pinned (OpenSpec.ofChange rangesEvaluateSpec)

/-- ITS FALSE NEIGHBOUR: 'it returns false'. Refute it at one input. -/
def rangesEvaluateWrong : ChangeSpec := { name := "rangesEvaluate", fn := fun _ => fun
  | [d1, d2] => { results := [.lit (.bool false)], args := [d1, d2] }
  | _ => none }
def RangesEvaluateWrongFalsely : Prop := rangesEvaluateRow.holds Tryz.pinned (OpenSpec.ofChange rangesEvaluateWrong)

/-- 'commutatorlaw12.RangesHold': WHATEVER THE INPUT: true; the input reads as it did. -/
def rangesHoldSpec : ChangeSpec := { name := "rangesHold", fn := fun _ => fun
  | [d1, d2] => { results := [.lit (.bool true)], args := [d1, d2] }
  | _ => none }
def rangesHoldRow : OpenClaim := { program := "ytcdkkohklhmpgaagreatdoor", sum := "e20dc7d913f55d896caa93279d526a65c0832b3e46d69547f118bc5e81f2f877", func := "commutator/commutatorlaw12.RangesHold", spec := "rangesHold", unfollowed := true, recurses := true, named := ["math/bits.deBruijn32tab"], apart := false, laid := [("math/bits.deBruijn32tab", laid_math_bits_deBruijn32tab)] }
def RangesHoldSaid : Prop := rangesHoldRow.holds Tryz.pinned (OpenSpec.ofChange rangesHoldSpec)

/-- ITS FALSE NEIGHBOUR: 'it returns false'. Refute it at one input. -/
def rangesHoldWrong : ChangeSpec := { name := "rangesHold", fn := fun _ => fun
  | [d1, d2] => { results := [.lit (.bool false)], args := [d1, d2] }
  | _ => none }
def RangesHoldWrongFalsely : Prop := rangesHoldRow.holds Tryz.pinned (OpenSpec.ofChange rangesHoldWrong)

/-- 'commutatorlaw12.RangesKeep': WHATEVER THE INPUT: true; the input reads as it did. -/
def rangesKeepSpec : ChangeSpec := { name := "rangesKeep", fn := fun _ => fun
  | [d1, d2, d3] => { results := [.lit (.bool true)], args := [d1, d2, d3] }
  | _ => none }
def rangesKeepRow : OpenClaim := { program := "ytcdkkohklhmpgaagreatdoor", sum := "e20dc7d913f55d896caa93279d526a65c0832b3e46d69547f118bc5e81f2f877", func := "commutator/commutatorlaw12.RangesKeep", spec := "rangesKeep", unfollowed := true, recurses := true, named := ["math/bits.deBruijn32tab"], apart := false, laid := [("math/bits.deBruijn32tab", laid_math_bits_deBruijn32tab)] }
def RangesKeepSaid : Prop := rangesKeepRow.holds Tryz.pinned (OpenSpec.ofChange rangesKeepSpec)

/-- ITS FALSE NEIGHBOUR: 'it returns false'. Refute it at one input. -/
def rangesKeepWrong : ChangeSpec := { name := "rangesKeep", fn := fun _ => fun
  | [d1, d2, d3] => { results := [.lit (.bool false)], args := [d1, d2, d3] }
  | _ => none }
def RangesKeepWrongFalsely : Prop := rangesKeepRow.holds Tryz.pinned (OpenSpec.ofChange rangesKeepWrong)

/-- 'commutatorlaw12.RangesLocal': WHATEVER THE INPUT: true; the input reads as it did. -/
def rangesLocalSpec : ChangeSpec := { name := "rangesLocal", fn := fun _ => fun
  | [d1, d2] => { results := [.lit (.bool true)], args := [d1, d2] }
  | _ => none }
def rangesLocalRow : OpenClaim := { program := "ytcdkkohklhmpgaagreatdoor", sum := "e20dc7d913f55d896caa93279d526a65c0832b3e46d69547f118bc5e81f2f877", func := "commutator/commutatorlaw12.RangesLocal", spec := "rangesLocal", unfollowed := true, recurses := true, named := ["math/bits.deBruijn32tab"], apart := false, laid := [("math/bits.deBruijn32tab", laid_math_bits_deBruijn32tab)] }
def RangesLocalSaid : Prop := rangesLocalRow.holds Tryz.pinned (OpenSpec.ofChange rangesLocalSpec)

/-- ITS FALSE NEIGHBOUR: 'it returns false'. Refute it at one input. -/
def rangesLocalWrong : ChangeSpec := { name := "rangesLocal", fn := fun _ => fun
  | [d1, d2] => { results := [.lit (.bool false)], args := [d1, d2] }
  | _ => none }
def RangesLocalWrongFalsely : Prop := rangesLocalRow.holds Tryz.pinned (OpenSpec.ofChange rangesLocalWrong)

/-- 'commutatorlaw12.RangesWiden': WHATEVER THE INPUT: true; the input reads as it did. -/
def rangesWidenSpec : ChangeSpec := { name := "rangesWiden", fn := fun _ => fun
  | [d1, d2, d3] => { results := [.lit (.bool true)], args := [d1, d2, d3] }
  | _ => none }
def rangesWidenRow : OpenClaim := { program := "ytcdkkohklhmpgaagreatdoor", sum := "e20dc7d913f55d896caa93279d526a65c0832b3e46d69547f118bc5e81f2f877", func := "commutator/commutatorlaw12.RangesWiden", spec := "rangesWiden", unfollowed := true, recurses := true, named := ["math/bits.deBruijn32tab"], apart := false, laid := [("math/bits.deBruijn32tab", laid_math_bits_deBruijn32tab)] }
def RangesWidenSaid : Prop := rangesWidenRow.holds Tryz.pinned (OpenSpec.ofChange rangesWidenSpec)

/-- ITS FALSE NEIGHBOUR: 'it returns false'. Refute it at one input. -/
def rangesWidenWrong : ChangeSpec := { name := "rangesWiden", fn := fun _ => fun
  | [d1, d2, d3] => { results := [.lit (.bool false)], args := [d1, d2, d3] }
  | _ => none }
def RangesWidenWrongFalsely : Prop := rangesWidenRow.holds Tryz.pinned (OpenSpec.ofChange rangesWidenWrong)

/- THE SECOND FORM. 'bulk': how many values and letters a reading holds, each counted each time it is reached (what is shared counts as often as it is met; a slice's spare places count too). A statement '..UptoSaid' is the law's where the arguments, and the package variables that the reading takes, are together of bulk at most 1048576: NARROWER than '..Said'. Prove '..Said' where nothing that the law and all that it calls make is longer than what came in: it says more and counts as full. Else prove '..UptoSaid'. A law counts once. -/
mutual
def uptoBulk {H : Type} : DataW H → Nat
  | .lit (.string bytes) => bytes.length + 1
  | .lit _ => 1
  | .nil => 1
  | .ptr d => uptoBulk d + 1
  | .slice elems spare => uptoBulkAll elems + uptoBulkAll spare + 1
  | .agg parts => uptoBulkAll parts + 1
  | .iface _ d => uptoBulk d + 1
  | .map entries => uptoBulkEntries entries + 1
  | .held _ => 1
def uptoBulkAll {H : Type} : List (DataW H) → Nat
  | [] => 0
  | d :: r => uptoBulk d + uptoBulkAll r
def uptoBulkEntries {H : Type} : List (Lit × DataW H) → Nat
  | [] => 0
  | x :: r => uptoBulkEntry x + uptoBulkEntries r
def uptoBulkEntry {H : Type} : Lit × DataW H → Nat
  | (.string bytes, d) => bytes.length + uptoBulk d + 1
  | (_, d) => uptoBulk d + 1
 end
def uptoSmall : (H : Type) → List (DataW H) → Bool := fun _ ds => decide (uptoBulkAll ds ≤ 1048576)
def OpenSpec.upto (s : _root_.Go.ChangeSpec) : _root_.Go.OpenSpec := { _root_.Go.OpenSpec.ofChange s with cond := some uptoSmall }

/-- 'commutatorlaw03.IntervalLimits', WHERE WHAT IT READS IS OF BULK AT MOST 1048576: true; the input reads as it did. -/
def intervalLimitsUptoRow : OpenClaim := { program := "ytcdkkohklhmpgaagreatdoor", sum := "e20dc7d913f55d896caa93279d526a65c0832b3e46d69547f118bc5e81f2f877", func := "commutator/commutatorlaw03.IntervalLimits", spec := "intervalLimits", inPlace := ["internal/abi.NoEscape", "internal/bytealg.MakeNoZero"], recurses := true, named := ["math/bits.deBruijn32tab", "internal/strconv.uint64pow10", "math/bits.deBruijn64tab"], apart := false, laid := [("math/bits.deBruijn32tab", laid_math_bits_deBruijn32tab), ("math/bits.deBruijn64tab", laid_math_bits_deBruijn64tab), ("internal/strconv.uint64pow10", laid_internal_strconv_uint64pow10)], narrowed := true }
def IntervalLimitsUptoSaid : Prop := intervalLimitsUptoRow.holds Tryz.pinned (OpenSpec.upto intervalLimitsSpec)

/-- 'commutatorlaw11.ExactAffine', WHERE WHAT IT READS IS OF BULK AT MOST 1048576: true; the input reads as it did. -/
def exactAffineUptoRow : OpenClaim := { program := "ytcdkkohklhmpgaagreatdoor", sum := "e20dc7d913f55d896caa93279d526a65c0832b3e46d69547f118bc5e81f2f877", func := "commutator/commutatorlaw11.ExactAffine", spec := "exactAffine", unfollowed := true, recurses := true, named := ["math/bits.deBruijn32tab"], apart := false, laid := [("math/bits.deBruijn32tab", laid_math_bits_deBruijn32tab)], narrowed := true }
def ExactAffineUptoSaid : Prop := exactAffineUptoRow.holds Tryz.pinned (OpenSpec.upto exactAffineSpec)

/-- 'commutatorlaw11.ExactPruned', WHERE WHAT IT READS IS OF BULK AT MOST 1048576: true; the input reads as it did. -/
def exactPrunedUptoRow : OpenClaim := { program := "ytcdkkohklhmpgaagreatdoor", sum := "e20dc7d913f55d896caa93279d526a65c0832b3e46d69547f118bc5e81f2f877", func := "commutator/commutatorlaw11.ExactPruned", spec := "exactPruned", unfollowed := true, recurses := true, named := ["math/bits.deBruijn32tab"], apart := false, laid := [("math/bits.deBruijn32tab", laid_math_bits_deBruijn32tab)], narrowed := true }
def ExactPrunedUptoSaid : Prop := exactPrunedUptoRow.holds Tryz.pinned (OpenSpec.upto exactPrunedSpec)

/-- 'commutatorlaw12.RangesContain', WHERE WHAT IT READS IS OF BULK AT MOST 1048576: true; the input reads as it did. -/
def rangesContainUptoRow : OpenClaim := { program := "ytcdkkohklhmpgaagreatdoor", sum := "e20dc7d913f55d896caa93279d526a65c0832b3e46d69547f118bc5e81f2f877", func := "commutator/commutatorlaw12.RangesContain", spec := "rangesContain", unfollowed := true, recurses := true, named := ["math/bits.deBruijn32tab"], apart := false, laid := [("math/bits.deBruijn32tab", laid_math_bits_deBruijn32tab)], narrowed := true }
def RangesContainUptoSaid : Prop := rangesContainUptoRow.holds Tryz.pinned (OpenSpec.upto rangesContainSpec)

/-- 'commutatorlaw12.RangesEvaluate', WHERE WHAT IT READS IS OF BULK AT MOST 1048576: true; the input reads as it did. -/
def rangesEvaluateUptoRow : OpenClaim := { program := "ytcdkkohklhmpgaagreatdoor", sum := "e20dc7d913f55d896caa93279d526a65c0832b3e46d69547f118bc5e81f2f877", func := "commutator/commutatorlaw12.RangesEvaluate", spec := "rangesEvaluate", unfollowed := true, recurses := true, named := ["math/bits.deBruijn32tab"], apart := false, laid := [("math/bits.deBruijn32tab", laid_math_bits_deBruijn32tab)], narrowed := true }
def RangesEvaluateUptoSaid : Prop := rangesEvaluateUptoRow.holds Tryz.pinned (OpenSpec.upto rangesEvaluateSpec)

/-- 'commutatorlaw12.RangesHold', WHERE WHAT IT READS IS OF BULK AT MOST 1048576: true; the input reads as it did. -/
def rangesHoldUptoRow : OpenClaim := { program := "ytcdkkohklhmpgaagreatdoor", sum := "e20dc7d913f55d896caa93279d526a65c0832b3e46d69547f118bc5e81f2f877", func := "commutator/commutatorlaw12.RangesHold", spec := "rangesHold", unfollowed := true, recurses := true, named := ["math/bits.deBruijn32tab"], apart := false, laid := [("math/bits.deBruijn32tab", laid_math_bits_deBruijn32tab)], narrowed := true }
def RangesHoldUptoSaid : Prop := rangesHoldUptoRow.holds Tryz.pinned (OpenSpec.upto rangesHoldSpec)

/-- 'commutatorlaw12.RangesKeep', WHERE WHAT IT READS IS OF BULK AT MOST 1048576: true; the input reads as it did. -/
def rangesKeepUptoRow : OpenClaim := { program := "ytcdkkohklhmpgaagreatdoor", sum := "e20dc7d913f55d896caa93279d526a65c0832b3e46d69547f118bc5e81f2f877", func := "commutator/commutatorlaw12.RangesKeep", spec := "rangesKeep", unfollowed := true, recurses := true, named := ["math/bits.deBruijn32tab"], apart := false, laid := [("math/bits.deBruijn32tab", laid_math_bits_deBruijn32tab)], narrowed := true }
def RangesKeepUptoSaid : Prop := rangesKeepUptoRow.holds Tryz.pinned (OpenSpec.upto rangesKeepSpec)

/-- 'commutatorlaw12.RangesLocal', WHERE WHAT IT READS IS OF BULK AT MOST 1048576: true; the input reads as it did. -/
def rangesLocalUptoRow : OpenClaim := { program := "ytcdkkohklhmpgaagreatdoor", sum := "e20dc7d913f55d896caa93279d526a65c0832b3e46d69547f118bc5e81f2f877", func := "commutator/commutatorlaw12.RangesLocal", spec := "rangesLocal", unfollowed := true, recurses := true, named := ["math/bits.deBruijn32tab"], apart := false, laid := [("math/bits.deBruijn32tab", laid_math_bits_deBruijn32tab)], narrowed := true }
def RangesLocalUptoSaid : Prop := rangesLocalUptoRow.holds Tryz.pinned (OpenSpec.upto rangesLocalSpec)

/-- 'commutatorlaw12.RangesWiden', WHERE WHAT IT READS IS OF BULK AT MOST 1048576: true; the input reads as it did. -/
def rangesWidenUptoRow : OpenClaim := { program := "ytcdkkohklhmpgaagreatdoor", sum := "e20dc7d913f55d896caa93279d526a65c0832b3e46d69547f118bc5e81f2f877", func := "commutator/commutatorlaw12.RangesWiden", spec := "rangesWiden", unfollowed := true, recurses := true, named := ["math/bits.deBruijn32tab"], apart := false, laid := [("math/bits.deBruijn32tab", laid_math_bits_deBruijn32tab)], narrowed := true }
def RangesWidenUptoSaid : Prop := rangesWidenUptoRow.holds Tryz.pinned (OpenSpec.upto rangesWidenSpec)

end Rows
end Go.Proofs.YtcdkkohklhmpgaaGreatDoor
