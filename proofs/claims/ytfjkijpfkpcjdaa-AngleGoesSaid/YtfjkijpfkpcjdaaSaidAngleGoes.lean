/- The given statements: AngleGoes. No conditions. -/
import Derived.Test.YtfjkijpfkpcjdaaLifti
import Derived.Test.YtfjkijpfkpcjdaaAngh
namespace Go.Proofs.Ytfjkijpfkpcjdaa
open Go.ChangeShapes Go.WideShapes Go.ChangeAt Go.RowKit

theorem angleGoes_walked : Walked 11 Try.f11 := by
  intro H enc W base args ds p hval hA
  rw [Try.params11] at hA hval
  obtain ⟨v0, v1, v2, d0, d1, d2, p0, p1, p2, hargs, rfl, rfl, h0, h1, h2⟩ := trodAll_three hA
  obtain rfl : args = #[v0, v1, v2] := by cases args; simp_all
  obtain ⟨a0, rfl, rfl, rfl, wa0⟩ := open_int Try.underlying3 (hval 0 3 v0 rfl rfl) h0
  obtain ⟨a1, rfl, rfl, rfl, wa1⟩ := open_int Try.underlying3 (hval 1 3 v1 rfl rfl) h1
  obtain ⟨l2, rfl, f2⟩ := flat_array 8 Try.underlying46 (by kernel_rfl) (hval 2 46 v2 rfl rfl) h2
  obtain ⟨b20, m20, rfl, wb20, g20⟩ := flat_i f2
  obtain ⟨b21, m21, rfl, wb21, g21⟩ := flat_i g20
  obtain ⟨b22, m22, rfl, wb22, g22⟩ := flat_i g21
  obtain rfl := flat_nil g22
  exact goes_law a0 a1 b20 b21 b22 W (u16w wb20) (u16w wb21) (u16w wb22)

set_option maxRecDepth 100000 in
theorem angleGoes_holds : Rows.AngleGoesSaid :=
  OpenClaim.holds_of_wide 11 Try.f11 rfl rfl rfl rfl rfl rfl rfl ⟨rfl, rfl, rfl, rfl, rfl⟩ rfl rfl rfl rfl rfl (by kernel_rfl) Try.func11 (by kernel_rfl)
    (of_decide_eq_true (by kernel_rfl)) (by unfold Func.isWrapper; first | (rw [if_pos (by decide +kernel)]; kernel_rfl) | (rw [if_neg (by decide +kernel)]; exact ⟨rfl, rfl⟩))
    (fun os started H enc _ => law_lifted (s := Rows.angleGoesSpec) started Try.func11 (by kernel_rfl) (by kernel_rfl) rfl (by kernel_rfl)
      (fun ds hl => by
        have hl' : ds.length = 3 := hl
        match ds, hl' with
        | [d0, d1, d2], _ => exact ⟨rfl, rfl, rfl⟩)
      (ChangeSpec.witness6 (enc := enc) (C := Try.checked) false ⟨#[], #[I 0, I 0, .agg #[.int .u16 0, .int .u16 0, .int .u16 0]], []⟩ 8 (by kernel_rfl) (by kernel_rfl) (by kernel_rfl) (by kernel_rfl)) angleGoes_walked)

end Go.Proofs.Ytfjkijpfkpcjdaa
