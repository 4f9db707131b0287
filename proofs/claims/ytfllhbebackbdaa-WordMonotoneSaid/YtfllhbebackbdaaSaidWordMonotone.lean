/- The given statements: WordMonotone. No conditions. -/
import Derived.Test.YtfllhbebackbdaaLift
import Derived.Test.YtfllhbebackbdaaWordn
namespace Go.Proofs.Ytfllhbebackbdaa
open Go.ChangeShapes Go.WideShapes Go.ChangeAt Go.RowKit

theorem wordMonotone_walked : Walked 10 Try.f10 := by
  intro H enc W base args ds p hval hA
  rw [Try.params10] at hA hval
  obtain ⟨v0, v1, v2, d0, d1, d2, p0, p1, p2, hargs, rfl, rfl, h0, h1, h2⟩ := trodAll_three hA
  obtain rfl : args = #[v0, v1, v2] := by cases args; simp_all
  obtain ⟨l0, rfl, f0⟩ := flat_struct 8 Try.underlying23 (by kernel_rfl) (hval 0 23 v0 rfl rfl) h0
  obtain ⟨b00, m00, rfl, wb00, g00⟩ := flat_i f0
  obtain ⟨b01, m01, rfl, wb01, g01⟩ := flat_i g00
  obtain rfl := flat_nil g01
  obtain ⟨l1, rfl, f1⟩ := flat_array 8 Try.underlying60 (by kernel_rfl) (hval 1 60 v1 rfl rfl) h1
  obtain ⟨b10, m10, rfl, wb10, g10⟩ := flat_i f1
  obtain ⟨b11, m11, rfl, wb11, g11⟩ := flat_i g10
  obtain ⟨b12, m12, rfl, wb12, g12⟩ := flat_i g11
  obtain rfl := flat_nil g12
  obtain ⟨l2, rfl, f2⟩ := flat_struct 8 Try.underlying38 (by kernel_rfl) (hval 2 38 v2 rfl rfl) h2
  obtain ⟨b20, m20, rfl, wb20, g20⟩ := flat_i f2
  obtain ⟨b21, m21, rfl, wb21, g21⟩ := flat_i g20
  obtain rfl := flat_nil g21
  exact mono_any b00 b01 b10 b11 b12 b20 b21 W

set_option maxRecDepth 100000 in
theorem wordMonotone_holds : Rows.WordMonotoneSaid :=
  OpenClaim.holds_of_wide 10 Try.f10 rfl rfl rfl rfl rfl rfl rfl ⟨rfl, rfl, rfl, rfl, rfl⟩ rfl rfl rfl rfl rfl (by kernel_rfl) Try.func10 (by kernel_rfl)
    (of_decide_eq_true (by kernel_rfl)) (by unfold Func.isWrapper; first | (rw [if_pos (by decide +kernel)]; kernel_rfl) | (rw [if_neg (by decide +kernel)]; exact ⟨rfl, rfl⟩))
    (fun os started H enc _ => law_lifted (s := Rows.wordMonotoneSpec) started Try.func10 (by kernel_rfl) (by kernel_rfl) rfl (by kernel_rfl)
      (fun ds hl => by
        have hl' : ds.length = 3 := hl
        match ds, hl' with
        | [d0, d1, d2], _ => exact ⟨rfl, rfl, rfl⟩)
      (ChangeSpec.witness6 (enc := enc) (C := Try.checked) false ⟨#[], #[.agg #[I 0, I 0], .agg #[I 0, I 0, I 0], .agg #[I 0, I 0]], []⟩ 8 (by kernel_rfl) (by kernel_rfl) (by kernel_rfl) (by kernel_rfl)) wordMonotone_walked)

end Go.Proofs.Ytfllhbebackbdaa
