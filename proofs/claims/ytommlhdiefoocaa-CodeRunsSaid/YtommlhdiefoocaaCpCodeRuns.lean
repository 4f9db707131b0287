/- The given statement: CodeRuns. No conditions. -/
import Derived.Test.YtommlhdiefoocaaKop
import Derived.Test.YtommlhdiefoocaaKrl
namespace Go.Proofs.Ytommlhdiefoocaa
open Go.ChangeShapes Go.WideShapes Go.ChangeAt Go.RowKit

set_option maxRecDepth 100000 in
theorem codeRuns_walked : Walked 4 Try.f4 := by
  intro H enc W base args ds p hval hA
  rw [Try.params4] at hA hval
  obtain ⟨v0, v1, d0, d1, p0, p1, hargs, rfl, rfl, h0, h1⟩ := trodAll_two hA
  obtain rfl : args = #[v0, v1] := by cases args; simp_all
  obtain ⟨G0, q0, rfl, m0⟩ := open_pgm (hval 0 26 v0 rfl rfl) h0
  obtain ⟨A1, n1, c1, F1, B1, k1, e1, E1, rfl, a1, b1, r1, s1, z1⟩ := open_load (hval 1 44 v1 rfl rfl) h1
  exact runs_any m0 a1 b1 r1 s1 z1

set_option maxRecDepth 100000 in
theorem codeRuns_holds : Rows.CodeRunsSaid :=
  OpenClaim.holds_of_wide 4 Try.f4 rfl rfl rfl rfl rfl rfl rfl ⟨rfl, rfl, rfl, rfl, rfl⟩ rfl rfl rfl rfl rfl (by kernel_rfl) Try.func4 (by kernel_rfl)
    (of_decide_eq_true (by kernel_rfl)) (by unfold Func.isWrapper; first | (rw [if_pos (by decide +kernel)]; kernel_rfl) | (rw [if_neg (by decide +kernel)]; exact ⟨rfl, rfl⟩))
    (fun os started H enc _ => law_lifted (s := Rows.codeRunsSpec) started Try.func4 (by kernel_rfl) (by kernel_rfl) rfl (by kernel_rfl)
      (fun ds hl => by
        have hl' : ds.length = 2 := hl
        match ds, hl' with
        | [d0, d1], _ => exact ⟨rfl, rfl, rfl⟩)
      (ChangeSpec.witness6 (enc := enc) (C := Try.checked) false ⟨#[], #[.agg #[.slice none 0 0, .slice none 0 0, .slice none 0 0, .slice none 0 0], .agg #[.slice none 0 0, .slice none 0 0]], []⟩ 8 (by kernel_rfl) (by kernel_rfl) (by kernel_rfl) (by kernel_rfl)) codeRuns_walked)

end Go.Proofs.Ytommlhdiefoocaa
