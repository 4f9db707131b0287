/- Bounds of the arguments of the laws of package arctan. -/
import Derived.Test.YtecpkggnjajppaaDoorLifts
import Derived.Test.YtecpkggnjajppaaDoorArcb
namespace Go.Proofs.YtecpkggnjajppaaDoor
open Go.RowKit

theorem i63 {n : Int} (h : (Lit.int .i64 n).wf = true) : In63 n := by simp [Lit.wf, IntKind.min, IntKind.max, IntKind.signed, IntKind.bits] at h; unfold In63; omega
theorem u32w {n : Int} (h : (Lit.int .u32 n).wf = true) : 0 ≤ n ∧ n ≤ 4294967295 := by simp [Lit.wf, IntKind.min, IntKind.max, IntKind.signed, IntKind.bits] at h; omega
theorem v8w {n : Int} (h : (Lit.int .u8 n).wf = true) : 0 ≤ n ∧ n ≤ 255 := by simp [Lit.wf, IntKind.min, IntKind.max, IntKind.signed, IntKind.bits] at h; omega
end Go.Proofs.YtecpkggnjajppaaDoor
