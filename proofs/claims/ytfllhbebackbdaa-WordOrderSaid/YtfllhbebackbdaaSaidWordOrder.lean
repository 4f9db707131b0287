/- The given statement WordOrder. No conditions. -/
import Derived.Test.YtfllhbebackbdaaSlice
import Derived.Test.YtfllhbebackbdaaWords
import Derived.Lib.SmallJoins
namespace Go.Proofs.Ytfllhbebackbdaa
open Go.ChangeShapes Go.WideShapes Go.ChangeAt Go.RowKit Go.Joins

theorem wordOrder_walked : Walked 12 Try.f12 := by
  intro H enc W base args ds p hval hA
  rw [Try.params12] at hA hval
  obtain ⟨v0, v1, v2, d0, d1, d2, p0, p1, p2, hargs, rfl, rfl, h0, h1, h2⟩ := trodAll_three hA
  obtain rfl : args = #[v0, v1, v2] := by cases args; simp_all
  obtain ⟨l0, rfl, f0⟩ := flat_struct 8 Try.underlying23 (by kernel_rfl) (hval 0 23 v0 rfl rfl) h0
  obtain ⟨b00, m00, rfl, wb00, g00⟩ := flat_i f0
  obtain ⟨b01, m01, rfl, wb01, g01⟩ := flat_i g00
  obtain rfl := flat_nil g01
  obtain ⟨l2, rfl, f2⟩ := flat_struct 8 Try.underlying38 (by kernel_rfl) (hval 2 38 v2 rfl rfl) h2
  obtain ⟨b20, m20, rfl, wb20, g20⟩ := flat_i f2
  obtain ⟨b21, m21, rfl, wb21, g21⟩ := flat_i g20
  obtain rfl := flat_nil g21
  obtain ⟨c0, c1, y0, y1, k, rfl, _, _, e0, e1⟩ := open_agg2 Try.underlying64 (by kernel_rfl) (by kernel_rfl) (hval 1 64 v1 rfl rfl) h1
  obtain ⟨aA, LA, cA, eA, hlA, _, hA'⟩ := int_slice (t := 62) Try.underlying62 Try.underlying3 (by kernel_rfl) e0
  obtain ⟨aB, LB, cB, eB, hlB, _, hB'⟩ := int_slice (t := 62) Try.underlying62 Try.underlying3 (by kernel_rfl) e1
  simp only [List.cons.injEq, and_true] at eA eB
  subst eA eB
  by_cases h : LA = LB ∧ 1 ≤ LA ∧ LA ≤ 200
  · obtain ⟨rfl, k1, k2⟩ := h
    obtain ⟨ba, oa, f, rfl, hba, fa, _⟩ := hA' k1
    obtain ⟨bb, ob, g, rfl, hbb, fb, _⟩ := hB' k1
    exact order_long b00 b01 b20 b21 f g LA k1 k2 W ba oa cA bb ob cB hba hbb hlA hlB fa fb
  · exact order_short b00 b01 b20 b21 aA aB LA cA LB cB W h

set_option maxRecDepth 100000 in
theorem wordOrder_holds : Rows.WordOrderSaid :=
  OpenClaim.holds_of_wide 12 Try.f12 rfl rfl rfl rfl rfl rfl rfl ⟨rfl, rfl, rfl, rfl, rfl⟩ rfl rfl rfl rfl rfl (by kernel_rfl) Try.func12 (by kernel_rfl)
    (of_decide_eq_true (by kernel_rfl)) (by unfold Func.isWrapper; first | (rw [if_pos (by decide +kernel)]; kernel_rfl) | (rw [if_neg (by decide +kernel)]; exact ⟨rfl, rfl⟩))
    (fun os started H enc _ => law_lifted (s := Rows.wordOrderSpec) started Try.func12 (by kernel_rfl) (by kernel_rfl) rfl (by kernel_rfl)
      (fun ds hl => by
        have hl' : ds.length = 3 := hl
        match ds, hl' with
        | [d0, d1, d2], _ => exact ⟨rfl, rfl, rfl⟩)
      (ChangeSpec.witness6 (enc := enc) (C := Try.checked) false ⟨#[], #[.agg #[I 0, I 0], .agg #[.slice none 0 0, .slice none 0 0], .agg #[I 0, I 0]], []⟩ 8 (by kernel_rfl) (by kernel_rfl) (by kernel_rfl) (by kernel_rfl)) wordOrder_walked)

end Go.Proofs.Ytfllhbebackbdaa
