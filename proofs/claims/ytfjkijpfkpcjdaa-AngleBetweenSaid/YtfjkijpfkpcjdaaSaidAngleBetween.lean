/- The given statements: AngleBetween. No conditions. -/
import Derived.Test.YtfjkijpfkpcjdaaLifti
import Derived.Test.YtfjkijpfkpcjdaaAngg
namespace Go.Proofs.Ytfjkijpfkpcjdaa
open Go.ChangeShapes Go.WideShapes Go.ChangeAt Go.RowKit

theorem angleBetween_walked : Walked 10 Try.f10 := by
  intro H enc W base args ds p hval hA
  rw [Try.params10] at hA hval
  obtain ⟨v0, v1, d0, d1, p0, p1, hargs, rfl, rfl, h0, h1⟩ := trodAll_two hA
  obtain rfl : args = #[v0, v1] := by cases args; simp_all
  obtain ⟨l0, rfl, f0⟩ := flat_array 8 Try.underlying43 (by kernel_rfl) (hval 0 43 v0 rfl rfl) h0
  obtain ⟨b00, m00, rfl, wb00, g00⟩ := flat_i f0
  obtain ⟨b01, m01, rfl, wb01, g01⟩ := flat_i g00
  obtain ⟨b02, m02, rfl, wb02, g02⟩ := flat_i g01
  obtain rfl := flat_nil g02
  obtain ⟨a1, rfl, rfl, rfl, wa1⟩ := open_int Try.underlying3 (hval 1 3 v1 rfl rfl) h1
  exact between_law b00 b01 b02 a1 W

set_option maxRecDepth 100000 in
theorem angleBetween_holds : Rows.AngleBetweenSaid :=
  OpenClaim.holds_of_wide 10 Try.f10 rfl rfl rfl rfl rfl rfl rfl ⟨rfl, rfl, rfl, rfl, rfl⟩ rfl rfl rfl rfl rfl (by kernel_rfl) Try.func10 (by kernel_rfl)
    (of_decide_eq_true (by kernel_rfl)) (by unfold Func.isWrapper; first | (rw [if_pos (by decide +kernel)]; kernel_rfl) | (rw [if_neg (by decide +kernel)]; exact ⟨rfl, rfl⟩))
    (fun os started H enc _ => law_lifted (s := Rows.angleBetweenSpec) started Try.func10 (by kernel_rfl) (by kernel_rfl) rfl (by kernel_rfl)
      (fun ds hl => by
        have hl' : ds.length = 2 := hl
        match ds, hl' with
        | [d0, d1], _ => exact ⟨rfl, rfl, rfl⟩)
      (ChangeSpec.witness6 (enc := enc) (C := Try.checked) false ⟨#[], #[.agg #[I 0, I 0, I 0], I 0], []⟩ 8 (by kernel_rfl) (by kernel_rfl) (by kernel_rfl) (by kernel_rfl)) angleBetween_walked)

end Go.Proofs.Ytfjkijpfkpcjdaa
