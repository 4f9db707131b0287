/- The given statement: CodeOrders. No conditions. -/
import Derived.Test.YtommlhdiefoocaaKop
import Derived.Test.YtommlhdiefoocaaKlo
namespace Go.Proofs.Ytommlhdiefoocaa
open Go.ChangeShapes Go.WideShapes Go.ChangeAt Go.RowKit

set_option maxRecDepth 100000 in
theorem codeOrders_walked : Walked 8 Try.f8 := by
  intro H enc W base args ds p hval hA
  rw [Try.params8] at hA hval
  obtain ⟨v0, v1, v2, d0, d1, d2, p0, p1, p2, hargs, rfl, rfl, h0, h1, h2⟩ := trodAll_three hA
  obtain rfl : args = #[v0, v1, v2] := by cases args; simp_all
  obtain ⟨a0, rfl, rfl, rfl, wa0⟩ := open_int Try.underlying57 (hval 0 57 v0 rfl rfl) h0
  obtain ⟨a1, rfl, rfl, rfl, wa1⟩ := open_int Try.underlying57 (hval 1 57 v1 rfl rfl) h1
  obtain ⟨l2, rfl, f2⟩ := flat_array 8 Try.underlying58 (ks := [some .u8, some .u8]) (by kernel_rfl) (hval 2 58 v2 rfl rfl) h2
  obtain ⟨x2, g2, rfl, wx2, f2⟩ := flat_i f2
  obtain ⟨y2, g2', rfl, wy2, f2⟩ := flat_i f2
  obtain rfl := flat_nil f2
  exact orders_any (i16w wa0) (i16w wa1) (u8w wx2) (u8w wy2)

set_option maxRecDepth 100000 in
theorem codeOrders_holds : Rows.CodeOrdersSaid :=
  OpenClaim.holds_of_wide 8 Try.f8 rfl rfl rfl rfl rfl rfl rfl ⟨rfl, rfl, rfl, rfl, rfl⟩ rfl rfl rfl rfl rfl (by kernel_rfl) Try.func8 (by kernel_rfl)
    (of_decide_eq_true (by kernel_rfl)) (by unfold Func.isWrapper; first | (rw [if_pos (by decide +kernel)]; kernel_rfl) | (rw [if_neg (by decide +kernel)]; exact ⟨rfl, rfl⟩))
    (fun os started H enc _ => law_lifted (s := Rows.codeOrdersSpec) started Try.func8 (by kernel_rfl) (by kernel_rfl) rfl (by kernel_rfl)
      (fun ds hl => by
        have hl' : ds.length = 3 := hl
        match ds, hl' with
        | [d0, d1, d2], _ => exact ⟨rfl, rfl, rfl⟩)
      (ChangeSpec.witness6 (enc := enc) (C := Try.checked) false ⟨#[], #[.int .i16 0, .int .i16 0, .agg #[.int .u8 0, .int .u8 0]], []⟩ 8 (by kernel_rfl) (by kernel_rfl) (by kernel_rfl) (by kernel_rfl)) codeOrders_walked)

end Go.Proofs.Ytommlhdiefoocaa
