/- The given statement: CurveOdd. No conditions. -/
import Derived.Test.YtdcollchhcjaaaaCrvo
import Derived.Test.YtdcollchhcjaaaaCroc
namespace Go.Proofs.Ytdcollchhcjaaaa
open Go.ChangeShapes Go.WideShapes Go.ChangeAt Go.RowKit

theorem curveOdd_walked : Walked 10 Try.f10 := by
  intro H enc W base args ds p hval hA
  rw [Try.params10] at hA hval
  obtain ⟨v0, v1, v2, d0, d1, d2, p0, p1, p2, hargs, rfl, rfl, h0, h1, h2⟩ := trodAll_three hA
  obtain rfl : args = #[v0, v1, v2] := by cases args; simp_all
  obtain ⟨A0, n0, c0, X0, rfl, hn0, ra0, wx0⟩ := open_ints' (hval 0 22 v0 rfl rfl) h0
  obtain ⟨A1, n1, c1, X1, rfl, hn1, ra1, wx1⟩ := open_ints' (hval 1 22 v1 rfl rfl) h1
  obtain ⟨a2, rfl, rfl, rfl, wa2⟩ := open_int Try.underlying3 (hval 2 3 v2 rfl rfl) h2
  exact oddl_card hn0 ra0 wx0 hn1 ra1 wx1 (in64w wa2)

set_option maxRecDepth 100000 in
theorem curveOdd_holds : Rows.CurveOddSaid :=
  OpenClaim.holds_of_wide 10 Try.f10 rfl rfl rfl rfl rfl rfl rfl ⟨rfl, rfl, rfl, rfl, rfl⟩ rfl rfl rfl rfl rfl (by kernel_rfl) Try.func10 (by kernel_rfl)
    (of_decide_eq_true (by kernel_rfl)) (by unfold Func.isWrapper; first | (rw [if_pos (by decide +kernel)]; kernel_rfl) | (rw [if_neg (by decide +kernel)]; exact ⟨rfl, rfl⟩))
    (fun os started H enc _ => law_lifted (s := Rows.curveOddSpec) started Try.func10 (by kernel_rfl) (by kernel_rfl) rfl (by kernel_rfl)
      (fun ds hl => by
        have hl' : ds.length = 3 := hl
        match ds, hl' with
        | [d0, d1, d2], _ => exact ⟨rfl, rfl, rfl⟩)
      (ChangeSpec.witness6 (enc := enc) (C := Try.checked) false ⟨#[], #[.slice none 0 0, .slice none 0 0, I 0], []⟩ 8 (by kernel_rfl) (by kernel_rfl) (by kernel_rfl) (by kernel_rfl)) curveOdd_walked)

end Go.Proofs.Ytdcollchhcjaaaa
