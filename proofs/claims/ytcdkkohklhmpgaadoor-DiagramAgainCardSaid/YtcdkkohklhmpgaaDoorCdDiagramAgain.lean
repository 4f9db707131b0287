/- The given statement DiagramAgain: its card. The condition is the row's own: the table lies as the program's text lays it. -/
import Derived.Test.YtcdkkohklhmpgaaDoorDgp
import Derived.Test.YtcdkkohklhmpgaaDoorDag
namespace Go.Proofs.YtcdkkohklhmpgaaDoor
open Go.ChangeShapes Go.WideShapes Go.ChangeAt Go.RowKit

set_option maxRecDepth 100000 in
theorem diagramAgain_walked : WalkedT 3 Tryd.f3 := by
  intro H enc W base args ds p hT hval hA
  rw [Tryd.params3] at hA hval
  obtain ⟨v0, d0, hargs, rfl, h0⟩ := trodAll_one hA
  obtain rfl : args = #[v0] := by cases args; simp_all
  obtain ⟨D0, q0, rfl, m0⟩ := open_dia (hval 0 26 v0 rfl rfl) h0
  exact diagramAgain_any m0 hT

set_option maxRecDepth 100000 in
theorem diagramAgain_holds : Rows.DiagramAgainSaid :=
  OpenClaim.holds_of_wide 3 Tryd.f3 rfl rfl rfl rfl rfl rfl rfl ⟨rfl, rfl, rfl, rfl, rfl⟩ rfl rfl rfl rfl rfl (by kernel_rfl) Tryd.func3 (by kernel_rfl)
    (of_decide_eq_true (by kernel_rfl)) (by unfold Func.isWrapper; first | (rw [if_pos (by decide +kernel)]; kernel_rfl) | (rw [if_neg (by decide +kernel)]; exact ⟨rfl, rfl⟩))
    (fun os started H enc _ => law_liftedT (s := Rows.diagramAgainSpec) started Tryd.func3 (by kernel_rfl) (by kernel_rfl) rfl (by kernel_rfl)
      (fun ds hl => by
        have hl' : ds.length = 1 := hl
        match ds, hl' with
        | [d0], _ => exact ⟨rfl, rfl, rfl⟩)
      #[.agg #[.slice none 0 0, .slice none 0 0, .slice none 0 0]] (by kernel_rfl) (by kernel_rfl) (by kernel_rfl) diagramAgain_walked)

set_option maxRecDepth 100000 in
theorem diagramAgain_plain (f : FuncId) (fn : Func) (hf : Tryd.pinned.checked.prog.funcNamed Rows.diagramAgainRow.func = some f) (hfn : Tryd.pinned.checked.prog.funcs[f]? = some fn) :
    true = Tryd.pinned.checked.prog.looks [] ∧ ∀ (j : Nat) t, fn.params[j]? = some t → Tryd.pinned.checked.prog.wantsStandIn t = false := by
  obtain rfl : f = 3 := Option.some.inj ((show Tryd.prog.funcNamed Rows.diagramAgainRow.func = some 3 by kernel_rfl).symm.trans hf) |>.symm
  obtain rfl : fn = Tryd.f3 := (Option.some.inj (Tryd.func3.symm.trans hfn)).symm
  refine ⟨by kernel_rfl, fun j t ht => ?_⟩
  rw [Tryd.params3] at ht
  obtain rfl : t = 26 := by simpa using Array.mem_of_getElem? ht
  · exact (show Tryd.prog.wantsStandIn 26 = false by kernel_rfl)

theorem diagramAgain_card : Rows.DiagramAgainCardSaid :=
  Claim7.holds_tied_plain_at .later [] _ _ _ _ diagramAgain_holds (fun _ h => by cases h) (by kernel_rfl) (fun _ h => by cases h) diagramAgain_row_tie rfl ⟨rfl, rfl⟩ (by kernel_rfl) rfl diagramAgain_plain (by kernel_rfl)

end Go.Proofs.YtcdkkohklhmpgaaDoor
