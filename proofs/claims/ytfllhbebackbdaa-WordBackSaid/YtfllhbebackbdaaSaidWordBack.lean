/- The given statements: WordBack. No conditions. -/
import Derived.Test.YtfllhbebackbdaaLift
import Derived.Test.YtfllhbebackbdaaWordn
namespace Go.Proofs.Ytfllhbebackbdaa
open Go.ChangeShapes Go.WideShapes Go.ChangeAt Go.RowKit

theorem wordBack_walked : Walked 13 Try.f13 := by
  intro H enc W base args ds p hval hA
  rw [Try.params13] at hA hval
  obtain ⟨v0, v1, v2, d0, d1, d2, p0, p1, p2, hargs, rfl, rfl, h0, h1, h2⟩ := trodAll_three hA
  obtain rfl : args = #[v0, v1, v2] := by cases args; simp_all
  obtain ⟨l0, rfl, f0⟩ := flat_struct 8 Try.underlying54 (by kernel_rfl) (hval 0 54 v0 rfl rfl) h0
  obtain ⟨b00, m00, rfl, wb00, g00⟩ := flat_i f0
  obtain ⟨b01, m01, rfl, wb01, g01⟩ := flat_i g00
  obtain ⟨b02, m02, rfl, wb02, g02⟩ := flat_i g01
  obtain ⟨b03, m03, rfl, wb03, g03⟩ := flat_i g02
  obtain rfl := flat_nil g03
  obtain ⟨a1, rfl, rfl, rfl, wa1⟩ := open_int Try.underlying3 (hval 1 3 v1 rfl rfl) h1
  obtain ⟨a2, rfl, rfl, rfl, wa2⟩ := open_int Try.underlying3 (hval 2 3 v2 rfl rfl) h2
  exact back_any b00 b01 b02 b03 a1 a2 W

set_option maxRecDepth 100000 in
theorem wordBack_holds : Rows.WordBackSaid :=
  OpenClaim.holds_of_wide 13 Try.f13 rfl rfl rfl rfl rfl rfl rfl ⟨rfl, rfl, rfl, rfl, rfl⟩ rfl rfl rfl rfl rfl (by kernel_rfl) Try.func13 (by kernel_rfl)
    (of_decide_eq_true (by kernel_rfl)) (by unfold Func.isWrapper; first | (rw [if_pos (by decide +kernel)]; kernel_rfl) | (rw [if_neg (by decide +kernel)]; exact ⟨rfl, rfl⟩))
    (fun os started H enc _ => law_lifted (s := Rows.wordBackSpec) started Try.func13 (by kernel_rfl) (by kernel_rfl) rfl (by kernel_rfl)
      (fun ds hl => by
        have hl' : ds.length = 3 := hl
        match ds, hl' with
        | [d0, d1, d2], _ => exact ⟨rfl, rfl, rfl⟩)
      (ChangeSpec.witness6 (enc := enc) (C := Try.checked) false ⟨#[], #[.agg #[I 0, I 0, I 0, I 0], I 0, I 0], []⟩ 8 (by kernel_rfl) (by kernel_rfl) (by kernel_rfl) (by kernel_rfl)) wordBack_walked)

end Go.Proofs.Ytfllhbebackbdaa
