/- The given statement: CodeJoins. No conditions. -/
import Derived.Test.YtommlhdiefoocaaKop
import Derived.Test.YtommlhdiefoocaaKlj
namespace Go.Proofs.Ytommlhdiefoocaa
open Go.ChangeShapes Go.WideShapes Go.ChangeAt Go.RowKit

set_option maxRecDepth 100000 in
theorem codeJoins_walked : Walked 6 Try.f6 := by
  intro H enc W base args ds p hval hA
  rw [Try.params6] at hA hval
  obtain ⟨v0, v1, v2, d0, d1, d2, p0, p1, p2, hargs, rfl, rfl, h0, h1, h2⟩ := trodAll_three hA
  obtain rfl : args = #[v0, v1, v2] := by cases args; simp_all
  obtain ⟨G0, q0, rfl, m0⟩ := open_pgm (hval 0 26 v0 rfl rfl) h0
  obtain ⟨A1, n1, c1, F1, B1, k1, e1, E1, rfl, a1, b1, r1, s1, z1⟩ := open_load (hval 1 44 v1 rfl rfl) h1
  obtain ⟨a2, rfl, rfl, rfl, wa2⟩ := open_int Try.underlying5 (hval 2 5 v2 rfl rfl) h2
  exact joins_any m0 a1 b1 r1 s1 z1 (u8w wa2)

set_option maxRecDepth 100000 in
theorem codeJoins_holds : Rows.CodeJoinsSaid :=
  OpenClaim.holds_of_wide 6 Try.f6 rfl rfl rfl rfl rfl rfl rfl ⟨rfl, rfl, rfl, rfl, rfl⟩ rfl rfl rfl rfl rfl (by kernel_rfl) Try.func6 (by kernel_rfl)
    (of_decide_eq_true (by kernel_rfl)) (by unfold Func.isWrapper; first | (rw [if_pos (by decide +kernel)]; kernel_rfl) | (rw [if_neg (by decide +kernel)]; exact ⟨rfl, rfl⟩))
    (fun os started H enc _ => law_lifted (s := Rows.codeJoinsSpec) started Try.func6 (by kernel_rfl) (by kernel_rfl) rfl (by kernel_rfl)
      (fun ds hl => by
        have hl' : ds.length = 3 := hl
        match ds, hl' with
        | [d0, d1, d2], _ => exact ⟨rfl, rfl, rfl⟩)
      (ChangeSpec.witness6 (enc := enc) (C := Try.checked) false ⟨#[], #[.agg #[.slice none 0 0, .slice none 0 0, .slice none 0 0, .slice none 0 0], .agg #[.slice none 0 0, .slice none 0 0], .int .u8 0], []⟩ 8 (by kernel_rfl) (by kernel_rfl) (by kernel_rfl) (by kernel_rfl)) codeJoins_walked)

end Go.Proofs.Ytommlhdiefoocaa
