/-
  No cell of these rows narrows 'for every input' (looked for: loops, veiled, ifaces, maps, wideKeys, modest, calm, conditions, laid).
  DERIVED. THE GIVEN ROWS OF THIS SEAT. 10 by the template 'for every input the law returns true; each argument reads behind the call as it read before'; 0 by the template 'total and deterministic' (their statements: YtfjkijpfkpcjdaaTotals.lean).
  GIVEN WITH THE SEED: the statements are not yours to turn. If you find one false, say at which input.
  Laid BY PROGRAM, IN A SANDBOX (cutbox-rows.mjs): the forced cells as the released guide's own fill.sh prints them over the translation 5f527cabf59af6ff… (all of the seat's roots in one cut). By AI agents, Wed Nov 11 2026. No macro, syntax, notation, axiom, sorry.
-/
import Derived.Test.YtfjkijpfkpcjdaaChecked
import GoSem.Claim
import GoSem.ClaimJoined
import GoSem.ClaimMapViews
import Derived.JoinedTies
import Derived.KernelRfl
namespace Go.Proofs.Ytfjkijpfkpcjdaa
/- THE CELL 'sum', in the pinned program and in every row, IS THE sha256 OF THE DUMP (.gsa) THAT YtfjkijpfkpcjdaaProg.lean LOADS. Nothing in Lean hashes anything: it is a label: what it is worth is what the hold of that sum in a sandbox is worth. -/
noncomputable def Try.pinned : Pinned := { name := "ytfjkijpfkpcjdaa", sum := "5f527cabf59af6ffe256d65a74a4f32247da18186f80d39bce961387da30e1c9", checked := Try.checked }
namespace Rows
def none {H : Type} : Left H := { results := [], args := [] }

/-- 'commutatorlaw05.AngleBasics': WHATEVER THE INPUT: true; the input reads as it did. -/
def angleBasicsSpec : ChangeSpec := { name := "angleBasics", fn := fun _ => fun
  | [d1, d2] => { results := [.lit (.bool true)], args := [d1, d2] }
  | _ => none }
def angleBasicsRow : OpenClaim := { program := "ytfjkijpfkpcjdaa", sum := "5f527cabf59af6ffe256d65a74a4f32247da18186f80d39bce961387da30e1c9", func := "commutator/commutatorlaw05.AngleBasics", spec := "angleBasics", apart := false }
def AngleBasicsSaid : Prop := angleBasicsRow.holds Try.pinned (OpenSpec.ofChange angleBasicsSpec)

/-- ITS FALSE NEIGHBOUR: 'it returns false'. Refute it at one input. -/
def angleBasicsWrong : ChangeSpec := { name := "angleBasics", fn := fun _ => fun
  | [d1, d2] => { results := [.lit (.bool false)], args := [d1, d2] }
  | _ => none }
def AngleBasicsWrongFalsely : Prop := angleBasicsRow.holds Try.pinned (OpenSpec.ofChange angleBasicsWrong)

/-- 'commutatorlaw05.AngleWithin': WHATEVER THE INPUT: true; the input reads as it did. -/
def angleWithinSpec : ChangeSpec := { name := "angleWithin", fn := fun _ => fun
  | [d1, d2, d3] => { results := [.lit (.bool true)], args := [d1, d2, d3] }
  | _ => none }
def angleWithinRow : OpenClaim := { program := "ytfjkijpfkpcjdaa", sum := "5f527cabf59af6ffe256d65a74a4f32247da18186f80d39bce961387da30e1c9", func := "commutator/commutatorlaw05.AngleWithin", spec := "angleWithin", apart := false }
def AngleWithinSaid : Prop := angleWithinRow.holds Try.pinned (OpenSpec.ofChange angleWithinSpec)

/-- ITS FALSE NEIGHBOUR: 'it returns false'. Refute it at one input. -/
def angleWithinWrong : ChangeSpec := { name := "angleWithin", fn := fun _ => fun
  | [d1, d2, d3] => { results := [.lit (.bool false)], args := [d1, d2, d3] }
  | _ => none }
def AngleWithinWrongFalsely : Prop := angleWithinRow.holds Try.pinned (OpenSpec.ofChange angleWithinWrong)

/-- 'commutatorlaw05.AngleMiddle': WHATEVER THE INPUT: true; the input reads as it did. -/
def angleMiddleSpec : ChangeSpec := { name := "angleMiddle", fn := fun _ => fun
  | [d1, d2, d3] => { results := [.lit (.bool true)], args := [d1, d2, d3] }
  | _ => none }
def angleMiddleRow : OpenClaim := { program := "ytfjkijpfkpcjdaa", sum := "5f527cabf59af6ffe256d65a74a4f32247da18186f80d39bce961387da30e1c9", func := "commutator/commutatorlaw05.AngleMiddle", spec := "angleMiddle", apart := false }
def AngleMiddleSaid : Prop := angleMiddleRow.holds Try.pinned (OpenSpec.ofChange angleMiddleSpec)

/-- ITS FALSE NEIGHBOUR: 'it returns false'. Refute it at one input. -/
def angleMiddleWrong : ChangeSpec := { name := "angleMiddle", fn := fun _ => fun
  | [d1, d2, d3] => { results := [.lit (.bool false)], args := [d1, d2, d3] }
  | _ => none }
def AngleMiddleWrongFalsely : Prop := angleMiddleRow.holds Try.pinned (OpenSpec.ofChange angleMiddleWrong)

/-- 'commutatorlaw05.AngleInterp': WHATEVER THE INPUT: true; the input reads as it did. -/
def angleInterpSpec : ChangeSpec := { name := "angleInterp", fn := fun _ => fun
  | [d1, d2, d3] => { results := [.lit (.bool true)], args := [d1, d2, d3] }
  | _ => none }
def angleInterpRow : OpenClaim := { program := "ytfjkijpfkpcjdaa", sum := "5f527cabf59af6ffe256d65a74a4f32247da18186f80d39bce961387da30e1c9", func := "commutator/commutatorlaw05.AngleInterp", spec := "angleInterp", apart := false }
def AngleInterpSaid : Prop := angleInterpRow.holds Try.pinned (OpenSpec.ofChange angleInterpSpec)

/-- ITS FALSE NEIGHBOUR: 'it returns false'. Refute it at one input. -/
def angleInterpWrong : ChangeSpec := { name := "angleInterp", fn := fun _ => fun
  | [d1, d2, d3] => { results := [.lit (.bool false)], args := [d1, d2, d3] }
  | _ => none }
def AngleInterpWrongFalsely : Prop := angleInterpRow.holds Try.pinned (OpenSpec.ofChange angleInterpWrong)

/-- 'commutatorlaw05.AnglePositions': WHATEVER THE INPUT: true; the input reads as it did. -/
def anglePositionsSpec : ChangeSpec := { name := "anglePositions", fn := fun _ => fun
  | [d1, d2, d3] => { results := [.lit (.bool true)], args := [d1, d2, d3] }
  | _ => none }
def anglePositionsRow : OpenClaim := { program := "ytfjkijpfkpcjdaa", sum := "5f527cabf59af6ffe256d65a74a4f32247da18186f80d39bce961387da30e1c9", func := "commutator/commutatorlaw05.AnglePositions", spec := "anglePositions", apart := false }
def AnglePositionsSaid : Prop := anglePositionsRow.holds Try.pinned (OpenSpec.ofChange anglePositionsSpec)

/-- ITS FALSE NEIGHBOUR: 'it returns false'. Refute it at one input. -/
def anglePositionsWrong : ChangeSpec := { name := "anglePositions", fn := fun _ => fun
  | [d1, d2, d3] => { results := [.lit (.bool false)], args := [d1, d2, d3] }
  | _ => none }
def AnglePositionsWrongFalsely : Prop := anglePositionsRow.holds Try.pinned (OpenSpec.ofChange anglePositionsWrong)

/-- 'commutatorlaw05.AngleCycle': WHATEVER THE INPUT: true; the input reads as it did. -/
def angleCycleSpec : ChangeSpec := { name := "angleCycle", fn := fun _ => fun
  | [d1, d2, d3] => { results := [.lit (.bool true)], args := [d1, d2, d3] }
  | _ => none }
def angleCycleRow : OpenClaim := { program := "ytfjkijpfkpcjdaa", sum := "5f527cabf59af6ffe256d65a74a4f32247da18186f80d39bce961387da30e1c9", func := "commutator/commutatorlaw05.AngleCycle", spec := "angleCycle", apart := false }
def AngleCycleSaid : Prop := angleCycleRow.holds Try.pinned (OpenSpec.ofChange angleCycleSpec)

/-- ITS FALSE NEIGHBOUR: 'it returns false'. Refute it at one input. -/
def angleCycleWrong : ChangeSpec := { name := "angleCycle", fn := fun _ => fun
  | [d1, d2, d3] => { results := [.lit (.bool false)], args := [d1, d2, d3] }
  | _ => none }
def AngleCycleWrongFalsely : Prop := angleCycleRow.holds Try.pinned (OpenSpec.ofChange angleCycleWrong)

/-- 'commutatorlaw05.AngleMetric': WHATEVER THE INPUT: true; the input reads as it did. -/
def angleMetricSpec : ChangeSpec := { name := "angleMetric", fn := fun _ => fun
  | [d1, d2, d3] => { results := [.lit (.bool true)], args := [d1, d2, d3] }
  | _ => none }
def angleMetricRow : OpenClaim := { program := "ytfjkijpfkpcjdaa", sum := "5f527cabf59af6ffe256d65a74a4f32247da18186f80d39bce961387da30e1c9", func := "commutator/commutatorlaw05.AngleMetric", spec := "angleMetric", apart := false }
def AngleMetricSaid : Prop := angleMetricRow.holds Try.pinned (OpenSpec.ofChange angleMetricSpec)

/-- ITS FALSE NEIGHBOUR: 'it returns false'. Refute it at one input. -/
def angleMetricWrong : ChangeSpec := { name := "angleMetric", fn := fun _ => fun
  | [d1, d2, d3] => { results := [.lit (.bool false)], args := [d1, d2, d3] }
  | _ => none }
def AngleMetricWrongFalsely : Prop := angleMetricRow.holds Try.pinned (OpenSpec.ofChange angleMetricWrong)

/-- 'commutatorlaw05.AngleBetween': WHATEVER THE INPUT: true; the input reads as it did. -/
def angleBetweenSpec : ChangeSpec := { name := "angleBetween", fn := fun _ => fun
  | [d1, d2] => { results := [.lit (.bool true)], args := [d1, d2] }
  | _ => none }
def angleBetweenRow : OpenClaim := { program := "ytfjkijpfkpcjdaa", sum := "5f527cabf59af6ffe256d65a74a4f32247da18186f80d39bce961387da30e1c9", func := "commutator/commutatorlaw05.AngleBetween", spec := "angleBetween", apart := false }
def AngleBetweenSaid : Prop := angleBetweenRow.holds Try.pinned (OpenSpec.ofChange angleBetweenSpec)

/-- ITS FALSE NEIGHBOUR: 'it returns false'. Refute it at one input. -/
def angleBetweenWrong : ChangeSpec := { name := "angleBetween", fn := fun _ => fun
  | [d1, d2] => { results := [.lit (.bool false)], args := [d1, d2] }
  | _ => none }
def AngleBetweenWrongFalsely : Prop := angleBetweenRow.holds Try.pinned (OpenSpec.ofChange angleBetweenWrong)

/-- 'commutatorlaw05.AngleGoes': WHATEVER THE INPUT: true; the input reads as it did. -/
def angleGoesSpec : ChangeSpec := { name := "angleGoes", fn := fun _ => fun
  | [d1, d2, d3] => { results := [.lit (.bool true)], args := [d1, d2, d3] }
  | _ => none }
def angleGoesRow : OpenClaim := { program := "ytfjkijpfkpcjdaa", sum := "5f527cabf59af6ffe256d65a74a4f32247da18186f80d39bce961387da30e1c9", func := "commutator/commutatorlaw05.AngleGoes", spec := "angleGoes", apart := false }
def AngleGoesSaid : Prop := angleGoesRow.holds Try.pinned (OpenSpec.ofChange angleGoesSpec)

/-- ITS FALSE NEIGHBOUR: 'it returns false'. Refute it at one input. -/
def angleGoesWrong : ChangeSpec := { name := "angleGoes", fn := fun _ => fun
  | [d1, d2, d3] => { results := [.lit (.bool false)], args := [d1, d2, d3] }
  | _ => none }
def AngleGoesWrongFalsely : Prop := angleGoesRow.holds Try.pinned (OpenSpec.ofChange angleGoesWrong)

/-- 'commutatorlaw05.AngleNear': WHATEVER THE INPUT: true; the input reads as it did. -/
def angleNearSpec : ChangeSpec := { name := "angleNear", fn := fun _ => fun
  | [d1, d2] => { results := [.lit (.bool true)], args := [d1, d2] }
  | _ => none }
def angleNearRow : OpenClaim := { program := "ytfjkijpfkpcjdaa", sum := "5f527cabf59af6ffe256d65a74a4f32247da18186f80d39bce961387da30e1c9", func := "commutator/commutatorlaw05.AngleNear", spec := "angleNear", apart := false }
def AngleNearSaid : Prop := angleNearRow.holds Try.pinned (OpenSpec.ofChange angleNearSpec)

/-- ITS FALSE NEIGHBOUR: 'it returns false'. Refute it at one input. -/
def angleNearWrong : ChangeSpec := { name := "angleNear", fn := fun _ => fun
  | [d1, d2] => { results := [.lit (.bool false)], args := [d1, d2] }
  | _ => none }
def AngleNearWrongFalsely : Prop := angleNearRow.holds Try.pinned (OpenSpec.ofChange angleNearWrong)

/- THE SECOND FORM. 'bulk': how many values and letters a reading holds, each counted each time it is reached (what is shared counts as often as it is met; a slice's spare places count too). A statement '..UptoSaid' is the law's where the arguments, and the package variables that the reading takes, are together of bulk at most 1048576: NARROWER than '..Said'. Prove '..Said' where nothing that the law and all that it calls make is longer than what came in: it says more and counts as full. Else prove '..UptoSaid'. A law counts once. -/
mutual
def uptoBulk {H : Type} : DataW H → Nat
  | .lit (.string bytes) => bytes.length + 1
  | .lit _ => 1
  | .nil => 1
  | .ptr d => uptoBulk d + 1
  | .slice elems spare => uptoBulkAll elems + uptoBulkAll spare + 1
  | .agg parts => uptoBulkAll parts + 1
  | .iface _ d => uptoBulk d + 1
  | .map entries => uptoBulkEntries entries + 1
  | .held _ => 1
def uptoBulkAll {H : Type} : List (DataW H) → Nat
  | [] => 0
  | d :: r => uptoBulk d + uptoBulkAll r
def uptoBulkEntries {H : Type} : List (Lit × DataW H) → Nat
  | [] => 0
  | x :: r => uptoBulkEntry x + uptoBulkEntries r
def uptoBulkEntry {H : Type} : Lit × DataW H → Nat
  | (.string bytes, d) => bytes.length + uptoBulk d + 1
  | (_, d) => uptoBulk d + 1
 end
def uptoSmall : (H : Type) → List (DataW H) → Bool := fun _ ds => decide (uptoBulkAll ds ≤ 1048576)
def OpenSpec.upto (s : _root_.Go.ChangeSpec) : _root_.Go.OpenSpec := { _root_.Go.OpenSpec.ofChange s with cond := some uptoSmall }

/-- 'commutatorlaw05.AngleBasics', WHERE WHAT IT READS IS OF BULK AT MOST 1048576: true; the input reads as it did. -/
def angleBasicsUptoRow : OpenClaim := { program := "ytfjkijpfkpcjdaa", sum := "5f527cabf59af6ffe256d65a74a4f32247da18186f80d39bce961387da30e1c9", func := "commutator/commutatorlaw05.AngleBasics", spec := "angleBasics", apart := false, narrowed := true }
def AngleBasicsUptoSaid : Prop := angleBasicsUptoRow.holds Try.pinned (OpenSpec.upto angleBasicsSpec)

/-- 'commutatorlaw05.AngleWithin', WHERE WHAT IT READS IS OF BULK AT MOST 1048576: true; the input reads as it did. -/
def angleWithinUptoRow : OpenClaim := { program := "ytfjkijpfkpcjdaa", sum := "5f527cabf59af6ffe256d65a74a4f32247da18186f80d39bce961387da30e1c9", func := "commutator/commutatorlaw05.AngleWithin", spec := "angleWithin", apart := false, narrowed := true }
def AngleWithinUptoSaid : Prop := angleWithinUptoRow.holds Try.pinned (OpenSpec.upto angleWithinSpec)

/-- 'commutatorlaw05.AngleMiddle', WHERE WHAT IT READS IS OF BULK AT MOST 1048576: true; the input reads as it did. -/
def angleMiddleUptoRow : OpenClaim := { program := "ytfjkijpfkpcjdaa", sum := "5f527cabf59af6ffe256d65a74a4f32247da18186f80d39bce961387da30e1c9", func := "commutator/commutatorlaw05.AngleMiddle", spec := "angleMiddle", apart := false, narrowed := true }
def AngleMiddleUptoSaid : Prop := angleMiddleUptoRow.holds Try.pinned (OpenSpec.upto angleMiddleSpec)

/-- 'commutatorlaw05.AngleInterp', WHERE WHAT IT READS IS OF BULK AT MOST 1048576: true; the input reads as it did. -/
def angleInterpUptoRow : OpenClaim := { program := "ytfjkijpfkpcjdaa", sum := "5f527cabf59af6ffe256d65a74a4f32247da18186f80d39bce961387da30e1c9", func := "commutator/commutatorlaw05.AngleInterp", spec := "angleInterp", apart := false, narrowed := true }
def AngleInterpUptoSaid : Prop := angleInterpUptoRow.holds Try.pinned (OpenSpec.upto angleInterpSpec)

/-- 'commutatorlaw05.AnglePositions', WHERE WHAT IT READS IS OF BULK AT MOST 1048576: true; the input reads as it did. -/
def anglePositionsUptoRow : OpenClaim := { program := "ytfjkijpfkpcjdaa", sum := "5f527cabf59af6ffe256d65a74a4f32247da18186f80d39bce961387da30e1c9", func := "commutator/commutatorlaw05.AnglePositions", spec := "anglePositions", apart := false, narrowed := true }
def AnglePositionsUptoSaid : Prop := anglePositionsUptoRow.holds Try.pinned (OpenSpec.upto anglePositionsSpec)

/-- 'commutatorlaw05.AngleCycle', WHERE WHAT IT READS IS OF BULK AT MOST 1048576: true; the input reads as it did. -/
def angleCycleUptoRow : OpenClaim := { program := "ytfjkijpfkpcjdaa", sum := "5f527cabf59af6ffe256d65a74a4f32247da18186f80d39bce961387da30e1c9", func := "commutator/commutatorlaw05.AngleCycle", spec := "angleCycle", apart := false, narrowed := true }
def AngleCycleUptoSaid : Prop := angleCycleUptoRow.holds Try.pinned (OpenSpec.upto angleCycleSpec)

/-- 'commutatorlaw05.AngleMetric', WHERE WHAT IT READS IS OF BULK AT MOST 1048576: true; the input reads as it did. -/
def angleMetricUptoRow : OpenClaim := { program := "ytfjkijpfkpcjdaa", sum := "5f527cabf59af6ffe256d65a74a4f32247da18186f80d39bce961387da30e1c9", func := "commutator/commutatorlaw05.AngleMetric", spec := "angleMetric", apart := false, narrowed := true }
def AngleMetricUptoSaid : Prop := angleMetricUptoRow.holds Try.pinned (OpenSpec.upto angleMetricSpec)

/-- 'commutatorlaw05.AngleBetween', WHERE WHAT IT READS IS OF BULK AT MOST 1048576: true; the input reads as it did. -/
def angleBetweenUptoRow : OpenClaim := { program := "ytfjkijpfkpcjdaa", sum := "5f527cabf59af6ffe256d65a74a4f32247da18186f80d39bce961387da30e1c9", func := "commutator/commutatorlaw05.AngleBetween", spec := "angleBetween", apart := false, narrowed := true }
def AngleBetweenUptoSaid : Prop := angleBetweenUptoRow.holds Try.pinned (OpenSpec.upto angleBetweenSpec)

/-- 'commutatorlaw05.AngleGoes', WHERE WHAT IT READS IS OF BULK AT MOST 1048576: true; the input reads as it did. -/
def angleGoesUptoRow : OpenClaim := { program := "ytfjkijpfkpcjdaa", sum := "5f527cabf59af6ffe256d65a74a4f32247da18186f80d39bce961387da30e1c9", func := "commutator/commutatorlaw05.AngleGoes", spec := "angleGoes", apart := false, narrowed := true }
def AngleGoesUptoSaid : Prop := angleGoesUptoRow.holds Try.pinned (OpenSpec.upto angleGoesSpec)

/-- 'commutatorlaw05.AngleNear', WHERE WHAT IT READS IS OF BULK AT MOST 1048576: true; the input reads as it did. -/
def angleNearUptoRow : OpenClaim := { program := "ytfjkijpfkpcjdaa", sum := "5f527cabf59af6ffe256d65a74a4f32247da18186f80d39bce961387da30e1c9", func := "commutator/commutatorlaw05.AngleNear", spec := "angleNear", apart := false, narrowed := true }
def AngleNearUptoSaid : Prop := angleNearUptoRow.holds Try.pinned (OpenSpec.upto angleNearSpec)

end Rows
end Go.Proofs.Ytfjkijpfkpcjdaa
