/- The given statement ScalesUniform: its card. The condition is the row's own: the table lies as the program's text lays it. -/
import Derived.Test.YtgnngldlgcdnfaaDoorOpi
import Derived.Test.YtgnngldlgcdnfaaDoorScn
namespace Go.Proofs.YtgnngldlgcdnfaaDoor
open Go.ChangeShapes Go.WideShapes Go.ChangeAt Go.RowKit

set_option maxRecDepth 100000 in
theorem scalesUniform_walked : WalkedT 4 Tryd.f4 := by
  intro H enc W base args ds p hT hval hA
  rw [Tryd.params4] at hA hval
  obtain ⟨v0, v1, d0, d1, p0, p1, hargs, rfl, rfl, h0, h1⟩ := trodAll_two hA
  obtain rfl : args = #[v0, v1] := by cases args; simp_all
  obtain ⟨D0, q0, rfl, m0⟩ := open_dia (hval 0 26 v0 rfl rfl) h0
  obtain ⟨A1, n1, c1, R1, F1, G1, B1, k1, e1, X1, rfl, m1, r1, l1, w1⟩ := open_ranged (hval 1 29 v1 rfl rfl) h1
  exact uniform_any m0 hT m1 r1 l1 w1

set_option maxRecDepth 100000 in
theorem scalesUniform_holds : Rows.ScalesUniformSaid :=
  OpenClaim.holds_of_wide 4 Tryd.f4 rfl rfl rfl rfl rfl rfl rfl ⟨rfl, rfl, rfl, rfl, rfl⟩ rfl rfl rfl rfl rfl (by kernel_rfl) Tryd.func4 (by kernel_rfl)
    (of_decide_eq_true (by kernel_rfl)) (by unfold Func.isWrapper; first | (rw [if_pos (by decide +kernel)]; kernel_rfl) | (rw [if_neg (by decide +kernel)]; exact ⟨rfl, rfl⟩))
    (fun os started H enc _ => law_liftedT (s := Rows.scalesUniformSpec) started Tryd.func4 (by kernel_rfl) (by kernel_rfl) rfl (by kernel_rfl)
      (fun ds hl => by
        have hl' : ds.length = 2 := hl
        match ds, hl' with
        | [d0, d1], _ => exact ⟨rfl, rfl, rfl⟩)
      #[.agg #[.slice none 0 0, .slice none 0 0, .slice none 0 0], .agg #[.slice none 0 0, .slice none 0 0]] (by kernel_rfl) (by kernel_rfl) (by kernel_rfl) scalesUniform_walked)

set_option maxRecDepth 100000 in
theorem scalesUniform_plain (f : FuncId) (fn : Func) (hf : Tryd.pinned.checked.prog.funcNamed Rows.scalesUniformRow.func = some f) (hfn : Tryd.pinned.checked.prog.funcs[f]? = some fn) :
    true = Tryd.pinned.checked.prog.looks [] ∧ ∀ (j : Nat) t, fn.params[j]? = some t → Tryd.pinned.checked.prog.wantsStandIn t = false := by
  obtain rfl : f = 4 := Option.some.inj ((show Tryd.prog.funcNamed Rows.scalesUniformRow.func = some 4 by kernel_rfl).symm.trans hf) |>.symm
  obtain rfl : fn = Tryd.f4 := (Option.some.inj (Tryd.func4.symm.trans hfn)).symm
  refine ⟨by kernel_rfl, fun j t ht => ?_⟩
  rw [Tryd.params4] at ht
  obtain rfl | rfl : t = 26 ∨ t = 29 := by simpa using Array.mem_of_getElem? ht
  · exact (show Tryd.prog.wantsStandIn 26 = false by kernel_rfl)
  · exact (show Tryd.prog.wantsStandIn 29 = false by kernel_rfl)

theorem scalesUniform_card : Rows.ScalesUniformCardSaid :=
  Claim7.holds_tied_plain_at .later [] _ _ _ _ scalesUniform_holds (fun _ h => by cases h) (by kernel_rfl) (fun _ h => by cases h) scalesUniform_row_tie rfl ⟨rfl, rfl⟩ (by kernel_rfl) rfl scalesUniform_plain (by kernel_rfl)

end Go.Proofs.YtgnngldlgcdnfaaDoor
