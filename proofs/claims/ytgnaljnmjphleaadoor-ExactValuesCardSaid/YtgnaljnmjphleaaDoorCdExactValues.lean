/- The given statement ExactValues: its card. The condition is the row's own: the table lies as the program's text lays it. -/
import Derived.Test.YtgnaljnmjphleaaDoorDgp
import Derived.Test.YtgnaljnmjphleaaDoorEym
namespace Go.Proofs.YtgnaljnmjphleaaDoor
open Go.ChangeShapes Go.WideShapes Go.ChangeAt Go.RowKit

set_option maxRecDepth 100000 in
theorem exactValues_walked : WalkedT 5 Tryd.f5 := by
  intro H enc W base args ds p hT hval hA
  rw [Tryd.params5] at hA hval
  obtain ⟨v0, d0, hargs, rfl, h0⟩ := trodAll_one hA
  obtain rfl : args = #[v0] := by cases args; simp_all
  obtain ⟨l0, rfl, f0⟩ := flat_struct 8 Tryd.underlying40 (by kernel_rfl) (hval 0 40 v0 rfl rfl) h0
  obtain ⟨a0, m0, rfl, wa0, g0⟩ := flat_i f0
  obtain ⟨b0, n0, rfl, wb0, k0⟩ := flat_i g0
  obtain rfl := flat_nil k0
  exact exactValues_any hT a0 b0 (in64w wa0) (in64w wb0)

set_option maxRecDepth 100000 in
theorem exactValues_holds : Rows.ExactValuesSaid :=
  OpenClaim.holds_of_wide 5 Tryd.f5 rfl rfl rfl rfl rfl rfl rfl ⟨rfl, rfl, rfl, rfl, rfl⟩ rfl rfl rfl rfl rfl (by kernel_rfl) Tryd.func5 (by kernel_rfl)
    (of_decide_eq_true (by kernel_rfl)) (by unfold Func.isWrapper; first | (rw [if_pos (by decide +kernel)]; kernel_rfl) | (rw [if_neg (by decide +kernel)]; exact ⟨rfl, rfl⟩))
    (fun os started H enc _ => law_liftedT (s := Rows.exactValuesSpec) started Tryd.func5 (by kernel_rfl) (by kernel_rfl) rfl (by kernel_rfl)
      (fun ds hl => by
        have hl' : ds.length = 1 := hl
        match ds, hl' with
        | [d0], _ => exact ⟨rfl, rfl, rfl⟩)
      #[.agg #[I 0, I 0]] (by kernel_rfl) (by kernel_rfl) (by kernel_rfl) exactValues_walked)

set_option maxRecDepth 100000 in
theorem exactValues_plain (f : FuncId) (fn : Func) (hf : Tryd.pinned.checked.prog.funcNamed Rows.exactValuesRow.func = some f) (hfn : Tryd.pinned.checked.prog.funcs[f]? = some fn) :
    true = Tryd.pinned.checked.prog.looks [] ∧ ∀ (j : Nat) t, fn.params[j]? = some t → Tryd.pinned.checked.prog.wantsStandIn t = false := by
  obtain rfl : f = 5 := Option.some.inj ((show Tryd.prog.funcNamed Rows.exactValuesRow.func = some 5 by kernel_rfl).symm.trans hf) |>.symm
  obtain rfl : fn = Tryd.f5 := (Option.some.inj (Tryd.func5.symm.trans hfn)).symm
  refine ⟨by kernel_rfl, fun j t ht => ?_⟩
  rw [Tryd.params5] at ht
  obtain rfl : t = 40 := by simpa using Array.mem_of_getElem? ht
  · exact (show Tryd.prog.wantsStandIn 40 = false by kernel_rfl)

theorem exactValues_card : Rows.ExactValuesCardSaid :=
  Claim7.holds_tied_plain_at .later [] _ _ _ _ exactValues_holds (fun _ h => by cases h) (by kernel_rfl) (fun _ h => by cases h) exactValues_row_tie rfl ⟨rfl, rfl⟩ (by kernel_rfl) rfl exactValues_plain (by kernel_rfl)

end Go.Proofs.YtgnaljnmjphleaaDoor
