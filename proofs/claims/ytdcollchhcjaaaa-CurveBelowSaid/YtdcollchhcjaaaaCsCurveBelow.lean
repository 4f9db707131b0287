/- The given statement: CurveBelow. No conditions. -/
import Derived.Test.YtdcollchhcjaaaaCrvo
import Derived.Test.YtdcollchhcjaaaaCrvv
namespace Go.Proofs.Ytdcollchhcjaaaa
open Go.ChangeShapes Go.WideShapes Go.ChangeAt Go.RowKit

theorem curveBelow_walked : Walked 11 Try.f11 := by
  intro H enc W base args ds p hval hA
  rw [Try.params11] at hA hval
  obtain ⟨v0, v1, d0, d1, p0, p1, hargs, rfl, rfl, h0, h1⟩ := trodAll_two hA
  obtain rfl : args = #[v0, v1] := by cases args; simp_all
  obtain ⟨A0, n0, c0, B0, m0, e0, X0, Y0, rfl, hn0, hm0, ra0, rb0⟩ := open_curve (hval 0 24 v0 rfl rfl) h0
  obtain ⟨A1, n1, c1, B1, m1, e1, X1, Y1, rfl, hn1, hm1, ra1, rb1⟩ := open_curve (hval 1 24 v1 rfl rfl) h1
  exact below_top hn0 hm0 ra0 rb0 hn1 hm1 ra1 rb1

set_option maxRecDepth 100000 in
theorem curveBelow_holds : Rows.CurveBelowSaid :=
  OpenClaim.holds_of_wide 11 Try.f11 rfl rfl rfl rfl rfl rfl rfl ⟨rfl, rfl, rfl, rfl, rfl⟩ rfl rfl rfl rfl rfl (by kernel_rfl) Try.func11 (by kernel_rfl)
    (of_decide_eq_true (by kernel_rfl)) (by unfold Func.isWrapper; first | (rw [if_pos (by decide +kernel)]; kernel_rfl) | (rw [if_neg (by decide +kernel)]; exact ⟨rfl, rfl⟩))
    (fun os started H enc _ => law_lifted (s := Rows.curveBelowSpec) started Try.func11 (by kernel_rfl) (by kernel_rfl) rfl (by kernel_rfl)
      (fun ds hl => by
        have hl' : ds.length = 2 := hl
        match ds, hl' with
        | [d0, d1], _ => exact ⟨rfl, rfl, rfl⟩)
      (ChangeSpec.witness6 (enc := enc) (C := Try.checked) false ⟨#[], #[.agg #[.slice none 0 0, .slice none 0 0], .agg #[.slice none 0 0, .slice none 0 0]], []⟩ 8 (by kernel_rfl) (by kernel_rfl) (by kernel_rfl) (by kernel_rfl)) curveBelow_walked)

end Go.Proofs.Ytdcollchhcjaaaa
