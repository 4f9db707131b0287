/-
  NARROWER THAN 'FOR EVERY INPUT', by the rows' own cells (each row's printed sentence says how): ArctanAngles: laid · ArctanTurns: laid · ArctanCompares: laid · ArctanBack: laid · ArctanBounds: laid · ArctanOrder: laid · ArctanChain: laid · ArctanQuarters: laid · ArctanSums: laid.
  DERIVED. THE GIVEN ROWS OF THIS SEAT. 9 by the template 'for every input the law returns true; each argument reads behind the call as it read before'; 0 by the template 'total and deterministic' (their statements: YtecpkggnjajppaaDoorTotals.lean).
  GIVEN WITH THE SEED: the statements are not yours to turn. If you find one false, say at which input.
  Laid BY PROGRAM, IN A SANDBOX (cutbox-rows.mjs): the forced cells as the released guide's own fill.sh prints them over the translation 16631c99064506f5… (all of the seat's roots in one cut). By AI agents, Wed Nov 11 2026. No macro, syntax, notation, axiom, sorry.
-/
import Derived.Test.YtecpkggnjajppaaDoorChecked
import GoSem.Claim
import GoSem.ClaimJoined
import GoSem.ClaimMapViews
import Derived.JoinedTies
import Derived.KernelRfl
namespace Go.Proofs.YtecpkggnjajppaaDoor
/- THE CELL 'sum', in the pinned program and in every row, IS THE sha256 OF THE DUMP (.gsa) THAT YtecpkggnjajppaaDoorProg.lean LOADS. Nothing in Lean hashes anything: it is a label: what it is worth is what the hold of that sum in a sandbox is worth. -/
noncomputable def Tryd.pinned : Pinned := { name := "ytecpkggnjajppaadoor", sum := "16631c99064506f524d98969ce008f7a3c412850616e1eeeb42cc8f795d86c3d", checked := Tryd.checked }
namespace Rows
def none {H : Type} : Left H := { results := [], args := [] }

/- WHAT THE LISTED PACKAGE-LEVEL VARIABLES READ AS WHEN THE CALL BEGINS. Each datum BY PROGRAM (the guide's laid-datum.mjs) off the statement by which the dump's own 'gosem.cut.vars' lays the variable. In a bare row this is a premise. The card (YtecpkggnjajppaaDoorCards.lean) ties it to the program's text. -/
def laid_commutator_sine_table {H : Type} : DataW H := .agg [.lit (.int .i64 0), .lit (.int .i64 804), .lit (.int .i64 1607), .lit (.int .i64 2410), .lit (.int .i64 3211), .lit (.int .i64 4011), .lit (.int .i64 4808), .lit (.int .i64 5602), .lit (.int .i64 6392), .lit (.int .i64 7179), .lit (.int .i64 7961), .lit (.int .i64 8739), .lit (.int .i64 9512), .lit (.int .i64 10278), .lit (.int .i64 11039), .lit (.int .i64 11793), .lit (.int .i64 12539), .lit (.int .i64 13278), .lit (.int .i64 14010), .lit (.int .i64 14732), .lit (.int .i64 15446), .lit (.int .i64 16151), .lit (.int .i64 16846), .lit (.int .i64 17530), .lit (.int .i64 18204), .lit (.int .i64 18868), .lit (.int .i64 19519), .lit (.int .i64 20159), .lit (.int .i64 20787), .lit (.int .i64 21403), .lit (.int .i64 22005), .lit (.int .i64 22594), .lit (.int .i64 23170), .lit (.int .i64 23732), .lit (.int .i64 24279), .lit (.int .i64 24812), .lit (.int .i64 25330), .lit (.int .i64 25832), .lit (.int .i64 26319), .lit (.int .i64 26790), .lit (.int .i64 27245), .lit (.int .i64 27684), .lit (.int .i64 28106), .lit (.int .i64 28511), .lit (.int .i64 28898), .lit (.int .i64 29269), .lit (.int .i64 29621), .lit (.int .i64 29956), .lit (.int .i64 30273), .lit (.int .i64 30572), .lit (.int .i64 30852), .lit (.int .i64 31114), .lit (.int .i64 31357), .lit (.int .i64 31581), .lit (.int .i64 31785), .lit (.int .i64 31971), .lit (.int .i64 32138), .lit (.int .i64 32285), .lit (.int .i64 32413), .lit (.int .i64 32521), .lit (.int .i64 32610), .lit (.int .i64 32679), .lit (.int .i64 32728), .lit (.int .i64 32758), .lit (.int .i64 32768)]

/-- 'commutatorlaw07.ArctanAngles': WHATEVER THE INPUT: true; the input reads as it did. -/
def arctanAnglesSpec : ChangeSpec := { name := "arctanAngles", fn := fun _ => fun
  | [d1, d2] => { results := [.lit (.bool true)], args := [d1, d2] }
  | _ => none }
def arctanAnglesRow : OpenClaim := { program := "ytecpkggnjajppaadoor", sum := "16631c99064506f524d98969ce008f7a3c412850616e1eeeb42cc8f795d86c3d", func := "commutator/commutatorlaw07.ArctanAngles", spec := "arctanAngles", unfollowed := true, recurses := true, named := ["commutator/sine.table"], apart := false, laid := [("commutator/sine.table", laid_commutator_sine_table)] }
def ArctanAnglesSaid : Prop := arctanAnglesRow.holds Tryd.pinned (OpenSpec.ofChange arctanAnglesSpec)

/-- ITS FALSE NEIGHBOUR: 'it returns false'. Refute it at one input. -/
def arctanAnglesWrong : ChangeSpec := { name := "arctanAngles", fn := fun _ => fun
  | [d1, d2] => { results := [.lit (.bool false)], args := [d1, d2] }
  | _ => none }
def ArctanAnglesWrongFalsely : Prop := arctanAnglesRow.holds Tryd.pinned (OpenSpec.ofChange arctanAnglesWrong)

/-- 'commutatorlaw07.ArctanTurns': WHATEVER THE INPUT: true; the input reads as it did. -/
def arctanTurnsSpec : ChangeSpec := { name := "arctanTurns", fn := fun _ => fun
  | [d1, d2] => { results := [.lit (.bool true)], args := [d1, d2] }
  | _ => none }
def arctanTurnsRow : OpenClaim := { program := "ytecpkggnjajppaadoor", sum := "16631c99064506f524d98969ce008f7a3c412850616e1eeeb42cc8f795d86c3d", func := "commutator/commutatorlaw07.ArctanTurns", spec := "arctanTurns", unfollowed := true, recurses := true, named := ["commutator/sine.table"], apart := false, laid := [("commutator/sine.table", laid_commutator_sine_table)] }
def ArctanTurnsSaid : Prop := arctanTurnsRow.holds Tryd.pinned (OpenSpec.ofChange arctanTurnsSpec)

/-- ITS FALSE NEIGHBOUR: 'it returns false'. Refute it at one input. -/
def arctanTurnsWrong : ChangeSpec := { name := "arctanTurns", fn := fun _ => fun
  | [d1, d2] => { results := [.lit (.bool false)], args := [d1, d2] }
  | _ => none }
def ArctanTurnsWrongFalsely : Prop := arctanTurnsRow.holds Tryd.pinned (OpenSpec.ofChange arctanTurnsWrong)

/-- 'commutatorlaw07.ArctanCompares': WHATEVER THE INPUT: true; the input reads as it did. -/
def arctanComparesSpec : ChangeSpec := { name := "arctanCompares", fn := fun _ => fun
  | [d1, d2] => { results := [.lit (.bool true)], args := [d1, d2] }
  | _ => none }
def arctanComparesRow : OpenClaim := { program := "ytecpkggnjajppaadoor", sum := "16631c99064506f524d98969ce008f7a3c412850616e1eeeb42cc8f795d86c3d", func := "commutator/commutatorlaw07.ArctanCompares", spec := "arctanCompares", unfollowed := true, recurses := true, named := ["commutator/sine.table"], apart := false, laid := [("commutator/sine.table", laid_commutator_sine_table)] }
def ArctanComparesSaid : Prop := arctanComparesRow.holds Tryd.pinned (OpenSpec.ofChange arctanComparesSpec)

/-- ITS FALSE NEIGHBOUR: 'it returns false'. Refute it at one input. -/
def arctanComparesWrong : ChangeSpec := { name := "arctanCompares", fn := fun _ => fun
  | [d1, d2] => { results := [.lit (.bool false)], args := [d1, d2] }
  | _ => none }
def ArctanComparesWrongFalsely : Prop := arctanComparesRow.holds Tryd.pinned (OpenSpec.ofChange arctanComparesWrong)

/-- 'commutatorlaw07.ArctanBack': WHATEVER THE INPUT: true; the input reads as it did. -/
def arctanBackSpec : ChangeSpec := { name := "arctanBack", fn := fun _ => fun
  | [d1, d2] => { results := [.lit (.bool true)], args := [d1, d2] }
  | _ => none }
def arctanBackRow : OpenClaim := { program := "ytecpkggnjajppaadoor", sum := "16631c99064506f524d98969ce008f7a3c412850616e1eeeb42cc8f795d86c3d", func := "commutator/commutatorlaw07.ArctanBack", spec := "arctanBack", unfollowed := true, recurses := true, named := ["commutator/sine.table"], apart := false, laid := [("commutator/sine.table", laid_commutator_sine_table)] }
def ArctanBackSaid : Prop := arctanBackRow.holds Tryd.pinned (OpenSpec.ofChange arctanBackSpec)

/-- ITS FALSE NEIGHBOUR: 'it returns false'. Refute it at one input. -/
def arctanBackWrong : ChangeSpec := { name := "arctanBack", fn := fun _ => fun
  | [d1, d2] => { results := [.lit (.bool false)], args := [d1, d2] }
  | _ => none }
def ArctanBackWrongFalsely : Prop := arctanBackRow.holds Tryd.pinned (OpenSpec.ofChange arctanBackWrong)

/-- 'commutatorlaw07.ArctanBounds': WHATEVER THE INPUT: true; the input reads as it did. -/
def arctanBoundsSpec : ChangeSpec := { name := "arctanBounds", fn := fun _ => fun
  | [d1, d2] => { results := [.lit (.bool true)], args := [d1, d2] }
  | _ => none }
def arctanBoundsRow : OpenClaim := { program := "ytecpkggnjajppaadoor", sum := "16631c99064506f524d98969ce008f7a3c412850616e1eeeb42cc8f795d86c3d", func := "commutator/commutatorlaw07.ArctanBounds", spec := "arctanBounds", unfollowed := true, recurses := true, named := ["commutator/sine.table"], apart := false, laid := [("commutator/sine.table", laid_commutator_sine_table)] }
def ArctanBoundsSaid : Prop := arctanBoundsRow.holds Tryd.pinned (OpenSpec.ofChange arctanBoundsSpec)

/-- ITS FALSE NEIGHBOUR: 'it returns false'. Refute it at one input. -/
def arctanBoundsWrong : ChangeSpec := { name := "arctanBounds", fn := fun _ => fun
  | [d1, d2] => { results := [.lit (.bool false)], args := [d1, d2] }
  | _ => none }
def ArctanBoundsWrongFalsely : Prop := arctanBoundsRow.holds Tryd.pinned (OpenSpec.ofChange arctanBoundsWrong)

/-- 'commutatorlaw07.ArctanOrder': WHATEVER THE INPUT: true; the input reads as it did. -/
def arctanOrderSpec : ChangeSpec := { name := "arctanOrder", fn := fun _ => fun
  | [d1, d2] => { results := [.lit (.bool true)], args := [d1, d2] }
  | _ => none }
def arctanOrderRow : OpenClaim := { program := "ytecpkggnjajppaadoor", sum := "16631c99064506f524d98969ce008f7a3c412850616e1eeeb42cc8f795d86c3d", func := "commutator/commutatorlaw07.ArctanOrder", spec := "arctanOrder", unfollowed := true, recurses := true, named := ["commutator/sine.table"], apart := false, laid := [("commutator/sine.table", laid_commutator_sine_table)] }
def ArctanOrderSaid : Prop := arctanOrderRow.holds Tryd.pinned (OpenSpec.ofChange arctanOrderSpec)

/-- ITS FALSE NEIGHBOUR: 'it returns false'. Refute it at one input. -/
def arctanOrderWrong : ChangeSpec := { name := "arctanOrder", fn := fun _ => fun
  | [d1, d2] => { results := [.lit (.bool false)], args := [d1, d2] }
  | _ => none }
def ArctanOrderWrongFalsely : Prop := arctanOrderRow.holds Tryd.pinned (OpenSpec.ofChange arctanOrderWrong)

/-- 'commutatorlaw07.ArctanChain': WHATEVER THE INPUT: true; the input reads as it did. -/
def arctanChainSpec : ChangeSpec := { name := "arctanChain", fn := fun _ => fun
  | [d1, d2, d3] => { results := [.lit (.bool true)], args := [d1, d2, d3] }
  | _ => none }
def arctanChainRow : OpenClaim := { program := "ytecpkggnjajppaadoor", sum := "16631c99064506f524d98969ce008f7a3c412850616e1eeeb42cc8f795d86c3d", func := "commutator/commutatorlaw07.ArctanChain", spec := "arctanChain", unfollowed := true, recurses := true, named := ["commutator/sine.table"], apart := false, laid := [("commutator/sine.table", laid_commutator_sine_table)] }
def ArctanChainSaid : Prop := arctanChainRow.holds Tryd.pinned (OpenSpec.ofChange arctanChainSpec)

/-- ITS FALSE NEIGHBOUR: 'it returns false'. Refute it at one input. -/
def arctanChainWrong : ChangeSpec := { name := "arctanChain", fn := fun _ => fun
  | [d1, d2, d3] => { results := [.lit (.bool false)], args := [d1, d2, d3] }
  | _ => none }
def ArctanChainWrongFalsely : Prop := arctanChainRow.holds Tryd.pinned (OpenSpec.ofChange arctanChainWrong)

/-- 'commutatorlaw07.ArctanQuarters': WHATEVER THE INPUT: true; the input reads as it did. -/
def arctanQuartersSpec : ChangeSpec := { name := "arctanQuarters", fn := fun _ => fun
  | [d1, d2, d3] => { results := [.lit (.bool true)], args := [d1, d2, d3] }
  | _ => none }
def arctanQuartersRow : OpenClaim := { program := "ytecpkggnjajppaadoor", sum := "16631c99064506f524d98969ce008f7a3c412850616e1eeeb42cc8f795d86c3d", func := "commutator/commutatorlaw07.ArctanQuarters", spec := "arctanQuarters", unfollowed := true, recurses := true, named := ["commutator/sine.table"], apart := false, laid := [("commutator/sine.table", laid_commutator_sine_table)] }
def ArctanQuartersSaid : Prop := arctanQuartersRow.holds Tryd.pinned (OpenSpec.ofChange arctanQuartersSpec)

/-- ITS FALSE NEIGHBOUR: 'it returns false'. Refute it at one input. -/
def arctanQuartersWrong : ChangeSpec := { name := "arctanQuarters", fn := fun _ => fun
  | [d1, d2, d3] => { results := [.lit (.bool false)], args := [d1, d2, d3] }
  | _ => none }
def ArctanQuartersWrongFalsely : Prop := arctanQuartersRow.holds Tryd.pinned (OpenSpec.ofChange arctanQuartersWrong)

/-- 'commutatorlaw07.ArctanSums': WHATEVER THE INPUT: true; the input reads as it did. -/
def arctanSumsSpec : ChangeSpec := { name := "arctanSums", fn := fun _ => fun
  | [d1, d2, d3] => { results := [.lit (.bool true)], args := [d1, d2, d3] }
  | _ => none }
def arctanSumsRow : OpenClaim := { program := "ytecpkggnjajppaadoor", sum := "16631c99064506f524d98969ce008f7a3c412850616e1eeeb42cc8f795d86c3d", func := "commutator/commutatorlaw07.ArctanSums", spec := "arctanSums", unfollowed := true, recurses := true, named := ["commutator/sine.table"], apart := false, laid := [("commutator/sine.table", laid_commutator_sine_table)] }
def ArctanSumsSaid : Prop := arctanSumsRow.holds Tryd.pinned (OpenSpec.ofChange arctanSumsSpec)

/-- ITS FALSE NEIGHBOUR: 'it returns false'. Refute it at one input. -/
def arctanSumsWrong : ChangeSpec := { name := "arctanSums", fn := fun _ => fun
  | [d1, d2, d3] => { results := [.lit (.bool false)], args := [d1, d2, d3] }
  | _ => none }
def ArctanSumsWrongFalsely : Prop := arctanSumsRow.holds Tryd.pinned (OpenSpec.ofChange arctanSumsWrong)

/- THE SECOND FORM. 'bulk': how many values and letters a reading holds, each counted each time it is reached (what is shared counts as often as it is met; a slice's spare places count too). A statement '..UptoSaid' is the law's where the arguments, and the package variables that the reading takes, are together of bulk at most 1048576: NARROWER than '..Said'. Prove '..Said' where nothing that the law and all that it calls make is longer than what came in: it says more and counts as full. Else prove '..UptoSaid'. A law counts once. -/
mutual
def uptoBulk {H : Type} : DataW H → Nat
  | .lit (.string bytes) => bytes.length + 1
  | .lit _ => 1
  | .nil => 1
  | .ptr d => uptoBulk d + 1
  | .slice elems spare => uptoBulkAll elems + uptoBulkAll spare + 1
  | .agg parts => uptoBulkAll parts + 1
  | .iface _ d => uptoBulk d + 1
  | .map entries => uptoBulkEntries entries + 1
  | .held _ => 1
def uptoBulkAll {H : Type} : List (DataW H) → Nat
  | [] => 0
  | d :: r => uptoBulk d + uptoBulkAll r
def uptoBulkEntries {H : Type} : List (Lit × DataW H) → Nat
  | [] => 0
  | x :: r => uptoBulkEntry x + uptoBulkEntries r
def uptoBulkEntry {H : Type} : Lit × DataW H → Nat
  | (.string bytes, d) => bytes.length + uptoBulk d + 1
  | (_, d) => uptoBulk d + 1
 end
def uptoSmall : (H : Type) → List (DataW H) → Bool := fun _ ds => decide (uptoBulkAll ds ≤ 1048576)
def OpenSpec.upto (s : _root_.Go.ChangeSpec) : _root_.Go.OpenSpec := { _root_.Go.OpenSpec.ofChange s with cond := some uptoSmall }

/-- 'commutatorlaw07.ArctanAngles', WHERE WHAT IT READS IS OF BULK AT MOST 1048576: true; the input reads as it did. -/
def arctanAnglesUptoRow : OpenClaim := { program := "ytecpkggnjajppaadoor", sum := "16631c99064506f524d98969ce008f7a3c412850616e1eeeb42cc8f795d86c3d", func := "commutator/commutatorlaw07.ArctanAngles", spec := "arctanAngles", unfollowed := true, recurses := true, named := ["commutator/sine.table"], apart := false, laid := [("commutator/sine.table", laid_commutator_sine_table)], narrowed := true }
def ArctanAnglesUptoSaid : Prop := arctanAnglesUptoRow.holds Tryd.pinned (OpenSpec.upto arctanAnglesSpec)

/-- 'commutatorlaw07.ArctanTurns', WHERE WHAT IT READS IS OF BULK AT MOST 1048576: true; the input reads as it did. -/
def arctanTurnsUptoRow : OpenClaim := { program := "ytecpkggnjajppaadoor", sum := "16631c99064506f524d98969ce008f7a3c412850616e1eeeb42cc8f795d86c3d", func := "commutator/commutatorlaw07.ArctanTurns", spec := "arctanTurns", unfollowed := true, recurses := true, named := ["commutator/sine.table"], apart := false, laid := [("commutator/sine.table", laid_commutator_sine_table)], narrowed := true }
def ArctanTurnsUptoSaid : Prop := arctanTurnsUptoRow.holds Tryd.pinned (OpenSpec.upto arctanTurnsSpec)

/-- 'commutatorlaw07.ArctanCompares', WHERE WHAT IT READS IS OF BULK AT MOST 1048576: true; the input reads as it did. -/
def arctanComparesUptoRow : OpenClaim := { program := "ytecpkggnjajppaadoor", sum := "16631c99064506f524d98969ce008f7a3c412850616e1eeeb42cc8f795d86c3d", func := "commutator/commutatorlaw07.ArctanCompares", spec := "arctanCompares", unfollowed := true, recurses := true, named := ["commutator/sine.table"], apart := false, laid := [("commutator/sine.table", laid_commutator_sine_table)], narrowed := true }
def ArctanComparesUptoSaid : Prop := arctanComparesUptoRow.holds Tryd.pinned (OpenSpec.upto arctanComparesSpec)

/-- 'commutatorlaw07.ArctanBack', WHERE WHAT IT READS IS OF BULK AT MOST 1048576: true; the input reads as it did. -/
def arctanBackUptoRow : OpenClaim := { program := "ytecpkggnjajppaadoor", sum := "16631c99064506f524d98969ce008f7a3c412850616e1eeeb42cc8f795d86c3d", func := "commutator/commutatorlaw07.ArctanBack", spec := "arctanBack", unfollowed := true, recurses := true, named := ["commutator/sine.table"], apart := false, laid := [("commutator/sine.table", laid_commutator_sine_table)], narrowed := true }
def ArctanBackUptoSaid : Prop := arctanBackUptoRow.holds Tryd.pinned (OpenSpec.upto arctanBackSpec)

/-- 'commutatorlaw07.ArctanBounds', WHERE WHAT IT READS IS OF BULK AT MOST 1048576: true; the input reads as it did. -/
def arctanBoundsUptoRow : OpenClaim := { program := "ytecpkggnjajppaadoor", sum := "16631c99064506f524d98969ce008f7a3c412850616e1eeeb42cc8f795d86c3d", func := "commutator/commutatorlaw07.ArctanBounds", spec := "arctanBounds", unfollowed := true, recurses := true, named := ["commutator/sine.table"], apart := false, laid := [("commutator/sine.table", laid_commutator_sine_table)], narrowed := true }
def ArctanBoundsUptoSaid : Prop := arctanBoundsUptoRow.holds Tryd.pinned (OpenSpec.upto arctanBoundsSpec)

/-- 'commutatorlaw07.ArctanOrder', WHERE WHAT IT READS IS OF BULK AT MOST 1048576: true; the input reads as it did. -/
def arctanOrderUptoRow : OpenClaim := { program := "ytecpkggnjajppaadoor", sum := "16631c99064506f524d98969ce008f7a3c412850616e1eeeb42cc8f795d86c3d", func := "commutator/commutatorlaw07.ArctanOrder", spec := "arctanOrder", unfollowed := true, recurses := true, named := ["commutator/sine.table"], apart := false, laid := [("commutator/sine.table", laid_commutator_sine_table)], narrowed := true }
def ArctanOrderUptoSaid : Prop := arctanOrderUptoRow.holds Tryd.pinned (OpenSpec.upto arctanOrderSpec)

/-- 'commutatorlaw07.ArctanChain', WHERE WHAT IT READS IS OF BULK AT MOST 1048576: true; the input reads as it did. -/
def arctanChainUptoRow : OpenClaim := { program := "ytecpkggnjajppaadoor", sum := "16631c99064506f524d98969ce008f7a3c412850616e1eeeb42cc8f795d86c3d", func := "commutator/commutatorlaw07.ArctanChain", spec := "arctanChain", unfollowed := true, recurses := true, named := ["commutator/sine.table"], apart := false, laid := [("commutator/sine.table", laid_commutator_sine_table)], narrowed := true }
def ArctanChainUptoSaid : Prop := arctanChainUptoRow.holds Tryd.pinned (OpenSpec.upto arctanChainSpec)

/-- 'commutatorlaw07.ArctanQuarters', WHERE WHAT IT READS IS OF BULK AT MOST 1048576: true; the input reads as it did. -/
def arctanQuartersUptoRow : OpenClaim := { program := "ytecpkggnjajppaadoor", sum := "16631c99064506f524d98969ce008f7a3c412850616e1eeeb42cc8f795d86c3d", func := "commutator/commutatorlaw07.ArctanQuarters", spec := "arctanQuarters", unfollowed := true, recurses := true, named := ["commutator/sine.table"], apart := false, laid := [("commutator/sine.table", laid_commutator_sine_table)], narrowed := true }
def ArctanQuartersUptoSaid : Prop := arctanQuartersUptoRow.holds Tryd.pinned (OpenSpec.upto arctanQuartersSpec)

/-- 'commutatorlaw07.ArctanSums', WHERE WHAT IT READS IS OF BULK AT MOST 1048576: true; the input reads as it did. -/
def arctanSumsUptoRow : OpenClaim := { program := "ytecpkggnjajppaadoor", sum := "16631c99064506f524d98969ce008f7a3c412850616e1eeeb42cc8f795d86c3d", func := "commutator/commutatorlaw07.ArctanSums", spec := "arctanSums", unfollowed := true, recurses := true, named := ["commutator/sine.table"], apart := false, laid := [("commutator/sine.table", laid_commutator_sine_table)], narrowed := true }
def ArctanSumsUptoSaid : Prop := arctanSumsUptoRow.holds Tryd.pinned (OpenSpec.upto arctanSumsSpec)

end Rows
end Go.Proofs.YtecpkggnjajppaaDoor
