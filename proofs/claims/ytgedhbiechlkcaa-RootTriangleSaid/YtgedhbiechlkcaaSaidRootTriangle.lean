/- The given statements: RootTriangle. No conditions. -/
import Derived.Test.YtgedhbiechlkcaaRootl
import Derived.Test.YtgedhbiechlkcaaRootj
namespace Go.Proofs.Ytgedhbiechlkcaa
open Go.ChangeShapes Go.WideShapes Go.ChangeAt Go.RowKit

theorem rootTriangle_walked : Walked 10 Try.f10 := by
  intro H enc W base args ds p hval hA
  rw [Try.params10] at hA hval
  obtain ⟨v0, v1, d0, d1, p0, p1, hargs, rfl, rfl, h0, h1⟩ := trodAll_two hA
  obtain rfl : args = #[v0, v1] := by cases args; simp_all
  obtain ⟨l0, rfl, f0⟩ := flat_array 8 Try.underlying45 (by kernel_rfl) (hval 0 45 v0 rfl rfl) h0
  obtain ⟨b00, m00, rfl, wb00, g00⟩ := flat_i f0
  obtain ⟨b01, m01, rfl, wb01, g01⟩ := flat_i g00
  obtain rfl := flat_nil g01
  obtain ⟨l1, rfl, f1⟩ := flat_array 8 Try.underlying45 (by kernel_rfl) (hval 1 45 v1 rfl rfl) h1
  obtain ⟨b10, m10, rfl, wb10, g10⟩ := flat_i f1
  obtain ⟨b11, m11, rfl, wb11, g11⟩ := flat_i g10
  obtain rfl := flat_nil g11
  exact triangle_law b00 b01 b10 b11 W

set_option maxRecDepth 100000 in
theorem rootTriangle_holds : Rows.RootTriangleSaid :=
  OpenClaim.holds_of_wide 10 Try.f10 rfl rfl rfl rfl rfl rfl rfl ⟨rfl, rfl, rfl, rfl, rfl⟩ rfl rfl rfl rfl rfl (by kernel_rfl) Try.func10 (by kernel_rfl)
    (of_decide_eq_true (by kernel_rfl)) (by unfold Func.isWrapper; first | (rw [if_pos (by decide +kernel)]; kernel_rfl) | (rw [if_neg (by decide +kernel)]; exact ⟨rfl, rfl⟩))
    (fun os started H enc _ => law_lifted (s := Rows.rootTriangleSpec) started Try.func10 (by kernel_rfl) (by kernel_rfl) rfl (by kernel_rfl)
      (fun ds hl => by
        have hl' : ds.length = 2 := hl
        match ds, hl' with
        | [d0, d1], _ => exact ⟨rfl, rfl, rfl⟩)
      (ChangeSpec.witness6 (enc := enc) (C := Try.checked) false ⟨#[], #[.agg #[I 0, I 0], .agg #[I 0, I 0]], []⟩ 8 (by kernel_rfl) (by kernel_rfl) (by kernel_rfl) (by kernel_rfl)) rootTriangle_walked)

end Go.Proofs.Ytgedhbiechlkcaa
