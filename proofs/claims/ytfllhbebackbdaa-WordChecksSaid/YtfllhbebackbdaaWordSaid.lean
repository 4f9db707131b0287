/- The given statements: WordChecks, WordShifts, WordAdds, WordMuls, WordDivs, WordConverts. No conditions. -/
import Derived.Test.YtfllhbebackbdaaLift
import Derived.Test.YtfllhbebackbdaaWordj
namespace Go.Proofs.Ytfllhbebackbdaa
open Go.ChangeShapes Go.WideShapes Go.ChangeAt Go.RowKit

theorem wordChecks_walked : Walked 3 Try.f3 := by
  intro H enc W base args ds p hval hA
  rw [Try.params3] at hA hval
  obtain ⟨v0, v1, d0, d1, p0, p1, hargs, rfl, rfl, h0, h1⟩ := trodAll_two hA
  obtain rfl : args = #[v0, v1] := by cases args; simp_all
  obtain ⟨l0, rfl, f0⟩ := flat_struct 8 Try.underlying23 (by kernel_rfl) (hval 0 23 v0 rfl rfl) h0
  obtain ⟨b00, m00, rfl, wb00, g00⟩ := flat_i f0
  obtain ⟨b01, m01, rfl, wb01, g01⟩ := flat_i g00
  obtain rfl := flat_nil g01
  obtain ⟨a1, rfl, rfl, rfl, wa1⟩ := open_int Try.underlying3 (hval 1 3 v1 rfl rfl) h1
  exact checks_any b00 b01 a1 W

set_option maxRecDepth 100000 in
theorem wordChecks_holds : Rows.WordChecksSaid :=
  OpenClaim.holds_of_wide 3 Try.f3 rfl rfl rfl rfl rfl rfl rfl ⟨rfl, rfl, rfl, rfl, rfl⟩ rfl rfl rfl rfl rfl (by kernel_rfl) Try.func3 (by kernel_rfl)
    (of_decide_eq_true (by kernel_rfl)) (by unfold Func.isWrapper; first | (rw [if_pos (by decide +kernel)]; kernel_rfl) | (rw [if_neg (by decide +kernel)]; exact ⟨rfl, rfl⟩))
    (fun os started H enc _ => law_lifted (s := Rows.wordChecksSpec) started Try.func3 (by kernel_rfl) (by kernel_rfl) rfl (by kernel_rfl)
      (fun ds hl => by
        have hl' : ds.length = 2 := hl
        match ds, hl' with
        | [d0, d1], _ => exact ⟨rfl, rfl, rfl⟩)
      (ChangeSpec.witness6 (enc := enc) (C := Try.checked) false ⟨#[], #[.agg #[I 0, I 0], I 0], []⟩ 8 (by kernel_rfl) (by kernel_rfl) (by kernel_rfl) (by kernel_rfl)) wordChecks_walked)

theorem wordShifts_walked : Walked 4 Try.f4 := by
  intro H enc W base args ds p hval hA
  rw [Try.params4] at hA hval
  obtain ⟨v0, v1, d0, d1, p0, p1, hargs, rfl, rfl, h0, h1⟩ := trodAll_two hA
  obtain rfl : args = #[v0, v1] := by cases args; simp_all
  obtain ⟨a0, rfl, rfl, rfl, wa0⟩ := open_int Try.underlying3 (hval 0 3 v0 rfl rfl) h0
  obtain ⟨l1, rfl, f1⟩ := flat_struct 8 Try.underlying38 (by kernel_rfl) (hval 1 38 v1 rfl rfl) h1
  obtain ⟨b10, m10, rfl, wb10, g10⟩ := flat_i f1
  obtain ⟨b11, m11, rfl, wb11, g11⟩ := flat_i g10
  obtain rfl := flat_nil g11
  exact shifts_any a0 b10 b11 W (in64w wa0)

set_option maxRecDepth 100000 in
theorem wordShifts_holds : Rows.WordShiftsSaid :=
  OpenClaim.holds_of_wide 4 Try.f4 rfl rfl rfl rfl rfl rfl rfl ⟨rfl, rfl, rfl, rfl, rfl⟩ rfl rfl rfl rfl rfl (by kernel_rfl) Try.func4 (by kernel_rfl)
    (of_decide_eq_true (by kernel_rfl)) (by unfold Func.isWrapper; first | (rw [if_pos (by decide +kernel)]; kernel_rfl) | (rw [if_neg (by decide +kernel)]; exact ⟨rfl, rfl⟩))
    (fun os started H enc _ => law_lifted (s := Rows.wordShiftsSpec) started Try.func4 (by kernel_rfl) (by kernel_rfl) rfl (by kernel_rfl)
      (fun ds hl => by
        have hl' : ds.length = 2 := hl
        match ds, hl' with
        | [d0, d1], _ => exact ⟨rfl, rfl, rfl⟩)
      (ChangeSpec.witness6 (enc := enc) (C := Try.checked) false ⟨#[], #[I 0, .agg #[I 0, I 0]], []⟩ 8 (by kernel_rfl) (by kernel_rfl) (by kernel_rfl) (by kernel_rfl)) wordShifts_walked)

theorem wordAdds_walked : Walked 5 Try.f5 := by
  intro H enc W base args ds p hval hA
  rw [Try.params5] at hA hval
  obtain ⟨v0, v1, d0, d1, p0, p1, hargs, rfl, rfl, h0, h1⟩ := trodAll_two hA
  obtain rfl : args = #[v0, v1] := by cases args; simp_all
  obtain ⟨l0, rfl, f0⟩ := flat_struct 8 Try.underlying23 (by kernel_rfl) (hval 0 23 v0 rfl rfl) h0
  obtain ⟨b00, m00, rfl, wb00, g00⟩ := flat_i f0
  obtain ⟨b01, m01, rfl, wb01, g01⟩ := flat_i g00
  obtain rfl := flat_nil g01
  obtain ⟨l1, rfl, f1⟩ := flat_struct 8 Try.underlying45 (by kernel_rfl) (hval 1 45 v1 rfl rfl) h1
  obtain ⟨b10, m10, rfl, wb10, g10⟩ := flat_i f1
  obtain ⟨b11, m11, rfl, wb11, g11⟩ := flat_i g10
  obtain rfl := flat_nil g11
  exact adds_any b00 b01 b10 b11 W

set_option maxRecDepth 100000 in
theorem wordAdds_holds : Rows.WordAddsSaid :=
  OpenClaim.holds_of_wide 5 Try.f5 rfl rfl rfl rfl rfl rfl rfl ⟨rfl, rfl, rfl, rfl, rfl⟩ rfl rfl rfl rfl rfl (by kernel_rfl) Try.func5 (by kernel_rfl)
    (of_decide_eq_true (by kernel_rfl)) (by unfold Func.isWrapper; first | (rw [if_pos (by decide +kernel)]; kernel_rfl) | (rw [if_neg (by decide +kernel)]; exact ⟨rfl, rfl⟩))
    (fun os started H enc _ => law_lifted (s := Rows.wordAddsSpec) started Try.func5 (by kernel_rfl) (by kernel_rfl) rfl (by kernel_rfl)
      (fun ds hl => by
        have hl' : ds.length = 2 := hl
        match ds, hl' with
        | [d0, d1], _ => exact ⟨rfl, rfl, rfl⟩)
      (ChangeSpec.witness6 (enc := enc) (C := Try.checked) false ⟨#[], #[.agg #[I 0, I 0], .agg #[I 0, I 0]], []⟩ 8 (by kernel_rfl) (by kernel_rfl) (by kernel_rfl) (by kernel_rfl)) wordAdds_walked)

theorem wordMuls_walked : Walked 6 Try.f6 := by
  intro H enc W base args ds p hval hA
  rw [Try.params6] at hA hval
  obtain ⟨v0, v1, v2, d0, d1, d2, p0, p1, p2, hargs, rfl, rfl, h0, h1, h2⟩ := trodAll_three hA
  obtain rfl : args = #[v0, v1, v2] := by cases args; simp_all
  obtain ⟨l0, rfl, f0⟩ := flat_struct 8 Try.underlying23 (by kernel_rfl) (hval 0 23 v0 rfl rfl) h0
  obtain ⟨b00, m00, rfl, wb00, g00⟩ := flat_i f0
  obtain ⟨b01, m01, rfl, wb01, g01⟩ := flat_i g00
  obtain rfl := flat_nil g01
  obtain ⟨l1, rfl, f1⟩ := flat_struct 8 Try.underlying45 (by kernel_rfl) (hval 1 45 v1 rfl rfl) h1
  obtain ⟨b10, m10, rfl, wb10, g10⟩ := flat_i f1
  obtain ⟨b11, m11, rfl, wb11, g11⟩ := flat_i g10
  obtain rfl := flat_nil g11
  obtain ⟨l2, rfl, f2⟩ := flat_struct 8 Try.underlying38 (by kernel_rfl) (hval 2 38 v2 rfl rfl) h2
  obtain ⟨b20, m20, rfl, wb20, g20⟩ := flat_i f2
  obtain ⟨b21, m21, rfl, wb21, g21⟩ := flat_i g20
  obtain rfl := flat_nil g21
  exact muls_any b00 b01 b10 b11 b20 b21 W

set_option maxRecDepth 100000 in
theorem wordMuls_holds : Rows.WordMulsSaid :=
  OpenClaim.holds_of_wide 6 Try.f6 rfl rfl rfl rfl rfl rfl rfl ⟨rfl, rfl, rfl, rfl, rfl⟩ rfl rfl rfl rfl rfl (by kernel_rfl) Try.func6 (by kernel_rfl)
    (of_decide_eq_true (by kernel_rfl)) (by unfold Func.isWrapper; first | (rw [if_pos (by decide +kernel)]; kernel_rfl) | (rw [if_neg (by decide +kernel)]; exact ⟨rfl, rfl⟩))
    (fun os started H enc _ => law_lifted (s := Rows.wordMulsSpec) started Try.func6 (by kernel_rfl) (by kernel_rfl) rfl (by kernel_rfl)
      (fun ds hl => by
        have hl' : ds.length = 3 := hl
        match ds, hl' with
        | [d0, d1, d2], _ => exact ⟨rfl, rfl, rfl⟩)
      (ChangeSpec.witness6 (enc := enc) (C := Try.checked) false ⟨#[], #[.agg #[I 0, I 0], .agg #[I 0, I 0], .agg #[I 0, I 0]], []⟩ 8 (by kernel_rfl) (by kernel_rfl) (by kernel_rfl) (by kernel_rfl)) wordMuls_walked)

theorem wordDivs_walked : Walked 7 Try.f7 := by
  intro H enc W base args ds p hval hA
  rw [Try.params7] at hA hval
  obtain ⟨v0, v1, v2, d0, d1, d2, p0, p1, p2, hargs, rfl, rfl, h0, h1, h2⟩ := trodAll_three hA
  obtain rfl : args = #[v0, v1, v2] := by cases args; simp_all
  obtain ⟨l0, rfl, f0⟩ := flat_struct 8 Try.underlying23 (by kernel_rfl) (hval 0 23 v0 rfl rfl) h0
  obtain ⟨b00, m00, rfl, wb00, g00⟩ := flat_i f0
  obtain ⟨b01, m01, rfl, wb01, g01⟩ := flat_i g00
  obtain rfl := flat_nil g01
  obtain ⟨l1, rfl, f1⟩ := flat_struct 8 Try.underlying45 (by kernel_rfl) (hval 1 45 v1 rfl rfl) h1
  obtain ⟨b10, m10, rfl, wb10, g10⟩ := flat_i f1
  obtain ⟨b11, m11, rfl, wb11, g11⟩ := flat_i g10
  obtain rfl := flat_nil g11
  obtain ⟨l2, rfl, f2⟩ := flat_struct 8 Try.underlying38 (by kernel_rfl) (hval 2 38 v2 rfl rfl) h2
  obtain ⟨b20, m20, rfl, wb20, g20⟩ := flat_i f2
  obtain ⟨b21, m21, rfl, wb21, g21⟩ := flat_i g20
  obtain rfl := flat_nil g21
  exact divs_any b00 b01 b10 b11 b20 b21 W

set_option maxRecDepth 100000 in
theorem wordDivs_holds : Rows.WordDivsSaid :=
  OpenClaim.holds_of_wide 7 Try.f7 rfl rfl rfl rfl rfl rfl rfl ⟨rfl, rfl, rfl, rfl, rfl⟩ rfl rfl rfl rfl rfl (by kernel_rfl) Try.func7 (by kernel_rfl)
    (of_decide_eq_true (by kernel_rfl)) (by unfold Func.isWrapper; first | (rw [if_pos (by decide +kernel)]; kernel_rfl) | (rw [if_neg (by decide +kernel)]; exact ⟨rfl, rfl⟩))
    (fun os started H enc _ => law_lifted (s := Rows.wordDivsSpec) started Try.func7 (by kernel_rfl) (by kernel_rfl) rfl (by kernel_rfl)
      (fun ds hl => by
        have hl' : ds.length = 3 := hl
        match ds, hl' with
        | [d0, d1, d2], _ => exact ⟨rfl, rfl, rfl⟩)
      (ChangeSpec.witness6 (enc := enc) (C := Try.checked) false ⟨#[], #[.agg #[I 0, I 0], .agg #[I 0, I 0], .agg #[I 0, I 0]], []⟩ 8 (by kernel_rfl) (by kernel_rfl) (by kernel_rfl) (by kernel_rfl)) wordDivs_walked)

theorem wordConverts_walked : Walked 8 Try.f8 := by
  intro H enc W base args ds p hval hA
  rw [Try.params8] at hA hval
  obtain ⟨v0, v1, v2, d0, d1, d2, p0, p1, p2, hargs, rfl, rfl, h0, h1, h2⟩ := trodAll_three hA
  obtain rfl : args = #[v0, v1, v2] := by cases args; simp_all
  obtain ⟨l0, rfl, f0⟩ := flat_struct 8 Try.underlying54 (by kernel_rfl) (hval 0 54 v0 rfl rfl) h0
  obtain ⟨b00, m00, rfl, wb00, g00⟩ := flat_i f0
  obtain ⟨b01, m01, rfl, wb01, g01⟩ := flat_i g00
  obtain ⟨b02, m02, rfl, wb02, g02⟩ := flat_i g01
  obtain ⟨b03, m03, rfl, wb03, g03⟩ := flat_i g02
  obtain rfl := flat_nil g03
  obtain ⟨a1, rfl, rfl, rfl, wa1⟩ := open_int Try.underlying3 (hval 1 3 v1 rfl rfl) h1
  obtain ⟨a2, rfl, rfl, rfl, wa2⟩ := open_int Try.underlying3 (hval 2 3 v2 rfl rfl) h2
  exact converts_any b00 b01 b02 b03 a1 a2 W

set_option maxRecDepth 100000 in
theorem wordConverts_holds : Rows.WordConvertsSaid :=
  OpenClaim.holds_of_wide 8 Try.f8 rfl rfl rfl rfl rfl rfl rfl ⟨rfl, rfl, rfl, rfl, rfl⟩ rfl rfl rfl rfl rfl (by kernel_rfl) Try.func8 (by kernel_rfl)
    (of_decide_eq_true (by kernel_rfl)) (by unfold Func.isWrapper; first | (rw [if_pos (by decide +kernel)]; kernel_rfl) | (rw [if_neg (by decide +kernel)]; exact ⟨rfl, rfl⟩))
    (fun os started H enc _ => law_lifted (s := Rows.wordConvertsSpec) started Try.func8 (by kernel_rfl) (by kernel_rfl) rfl (by kernel_rfl)
      (fun ds hl => by
        have hl' : ds.length = 3 := hl
        match ds, hl' with
        | [d0, d1, d2], _ => exact ⟨rfl, rfl, rfl⟩)
      (ChangeSpec.witness6 (enc := enc) (C := Try.checked) false ⟨#[], #[.agg #[I 0, I 0, I 0, I 0], I 0, I 0], []⟩ 8 (by kernel_rfl) (by kernel_rfl) (by kernel_rfl) (by kernel_rfl)) wordConverts_walked)

end Go.Proofs.Ytfllhbebackbdaa
