/- The given statement ExactSteps: its card. The condition is the row's own: the table lies as the program's text lays it. -/
import Derived.Test.YtgnaljnmjphleaaGreatDoorExh
import Derived.Test.YtgnaljnmjphleaaGreatDoorExg
namespace Go.Proofs.YtgnaljnmjphleaaGreatDoor
open Go.ChangeShapes Go.WideShapes Go.ChangeAt Go.RowKit

set_option maxRecDepth 100000 in
theorem exactSteps_walked : WalkedT 3 Tryz.f3 := by
  intro H enc W base args ds p hT hval hA
  rw [Tryz.params3] at hA hval
  obtain ⟨v0, v1, v2, d0, d1, d2, p0, p1, p2, hargs, rfl, rfl, h0, h1, h2⟩ := trodAll_three hA
  obtain rfl : args = #[v0, v1, v2] := by cases args; simp_all
  obtain ⟨D0, q0, rfl, m0⟩ := open_dia (hval 0 26 v0 rfl rfl) h0
  obtain ⟨A1, n1, c1, R1, F1, rfl, m1⟩ := open_nums (hval 1 27 v1 rfl rfl) h1
  obtain ⟨A2, n2, c2, X2, rfl, r2, l2, w2⟩ := open_ints' (hval 2 24 v2 rfl rfl) h2
  exact exactSteps_any m0 hT m1 r2 l2

set_option maxRecDepth 100000 in
theorem exactSteps_holds : Rows.ExactStepsSaid :=
  OpenClaim.holds_of_wide 3 Tryz.f3 rfl rfl rfl rfl rfl rfl rfl ⟨rfl, rfl, rfl, rfl, rfl⟩ rfl rfl rfl rfl rfl (by kernel_rfl) Tryz.func3 (by kernel_rfl)
    (of_decide_eq_true (by kernel_rfl)) (by unfold Func.isWrapper; first | (rw [if_pos (by decide +kernel)]; kernel_rfl) | (rw [if_neg (by decide +kernel)]; exact ⟨rfl, rfl⟩))
    (fun os started H enc _ => law_liftedT (s := Rows.exactStepsSpec) started Tryz.func3 (by kernel_rfl) (by kernel_rfl) rfl (by kernel_rfl)
      (fun ds hl => by
        have hl' : ds.length = 3 := hl
        match ds, hl' with
        | [d0, d1, d2], _ => exact ⟨rfl, rfl, rfl⟩)
      #[.agg #[.slice none 0 0, .slice none 0 0, .slice none 0 0], .slice none 0 0, .slice none 0 0] (by kernel_rfl) (by kernel_rfl) (by kernel_rfl) exactSteps_walked)

set_option maxRecDepth 100000 in
theorem exactSteps_plain (f : FuncId) (fn : Func) (hf : Tryz.pinned.checked.prog.funcNamed Rows.exactStepsRow.func = some f) (hfn : Tryz.pinned.checked.prog.funcs[f]? = some fn) :
    true = Tryz.pinned.checked.prog.looks [] ∧ ∀ (j : Nat) t, fn.params[j]? = some t → Tryz.pinned.checked.prog.wantsStandIn t = false := by
  obtain rfl : f = 3 := Option.some.inj ((show Tryz.prog.funcNamed Rows.exactStepsRow.func = some 3 by kernel_rfl).symm.trans hf) |>.symm
  obtain rfl : fn = Tryz.f3 := (Option.some.inj (Tryz.func3.symm.trans hfn)).symm
  refine ⟨by kernel_rfl, fun j t ht => ?_⟩
  rw [Tryz.params3] at ht
  obtain rfl | rfl | rfl : t = 26 ∨ t = 27 ∨ t = 24 := by simpa using Array.mem_of_getElem? ht
  · exact (show Tryz.prog.wantsStandIn 26 = false by kernel_rfl)
  · exact (show Tryz.prog.wantsStandIn 27 = false by kernel_rfl)
  · exact (show Tryz.prog.wantsStandIn 24 = false by kernel_rfl)

theorem exactSteps_card : Rows.ExactStepsCardSaid :=
  Claim7.holds_tied_plain_at .later [] _ _ _ _ exactSteps_holds (fun _ h => by cases h) (by kernel_rfl) (fun _ h => by cases h) exactSteps_row_tie rfl ⟨rfl, rfl⟩ (by kernel_rfl) rfl exactSteps_plain (by kernel_rfl)

end Go.Proofs.YtgnaljnmjphleaaGreatDoor
