/- Bounds of the arguments of the laws of package root. -/
import Derived.Test.YtgedhbiechlkcaaLifti
import Derived.Test.YtgedhbiechlkcaaNum
namespace Go.Proofs.Ytgedhbiechlkcaa
open Go.RowKit

theorem i63 {n : Int} (h : (Lit.int .i64 n).wf = true) : -9223372036854775808 ≤ n ∧ n ≤ 9223372036854775807 := by simp [Lit.wf, IntKind.min, IntKind.max, IntKind.signed, IntKind.bits] at h; omega
theorem u32w {n : Int} (h : (Lit.int .u32 n).wf = true) : 0 ≤ n ∧ n ≤ 4294967295 := by simp [Lit.wf, IntKind.min, IntKind.max, IntKind.signed, IntKind.bits] at h; omega
end Go.Proofs.Ytgedhbiechlkcaa
