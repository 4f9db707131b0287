/- The given statements: RootRoots. No conditions. -/
import Derived.Test.YtgedhbiechlkcaaRootl
import Derived.Test.YtgedhbiechlkcaaRootg
namespace Go.Proofs.Ytgedhbiechlkcaa
open Go.ChangeShapes Go.WideShapes Go.ChangeAt Go.RowKit

theorem rootRoots_walked : Walked 3 Try.f3 := by
  intro H enc W base args ds p hval hA
  rw [Try.params3] at hA hval
  obtain ⟨v0, d0, hargs, rfl, h0⟩ := trodAll_one hA
  obtain rfl : args = #[v0] := by cases args; simp_all
  obtain ⟨a0, rfl, rfl, rfl, wa0⟩ := open_int Try.underlying3 (hval 0 3 v0 rfl rfl) h0
  exact roots_law a0 W ((i63 wa0).2)

set_option maxRecDepth 100000 in
theorem rootRoots_holds : Rows.RootRootsSaid :=
  OpenClaim.holds_of_wide 3 Try.f3 rfl rfl rfl rfl rfl rfl rfl ⟨rfl, rfl, rfl, rfl, rfl⟩ rfl rfl rfl rfl rfl (by kernel_rfl) Try.func3 (by kernel_rfl)
    (of_decide_eq_true (by kernel_rfl)) (by unfold Func.isWrapper; first | (rw [if_pos (by decide +kernel)]; kernel_rfl) | (rw [if_neg (by decide +kernel)]; exact ⟨rfl, rfl⟩))
    (fun os started H enc _ => law_lifted (s := Rows.rootRootsSpec) started Try.func3 (by kernel_rfl) (by kernel_rfl) rfl (by kernel_rfl)
      (fun ds hl => by
        have hl' : ds.length = 1 := hl
        match ds, hl' with
        | [d0], _ => exact ⟨rfl, rfl, rfl⟩)
      (ChangeSpec.witness6 (enc := enc) (C := Try.checked) false ⟨#[], #[I 0], []⟩ 8 (by kernel_rfl) (by kernel_rfl) (by kernel_rfl) (by kernel_rfl)) rootRoots_walked)

end Go.Proofs.Ytgedhbiechlkcaa
