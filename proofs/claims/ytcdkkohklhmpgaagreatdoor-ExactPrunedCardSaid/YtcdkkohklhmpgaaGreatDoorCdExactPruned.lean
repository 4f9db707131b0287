/- The given statement ExactPruned: its card. The condition is the row's own: the table lies as the program's text lays it. -/
import Derived.Test.YtcdkkohklhmpgaaGreatDoorExh
import Derived.Test.YtcdkkohklhmpgaaGreatDoorExp
namespace Go.Proofs.YtcdkkohklhmpgaaGreatDoor
open Go.ChangeShapes Go.WideShapes Go.ChangeAt Go.RowKit

set_option maxRecDepth 100000 in
theorem exactPruned_walked : WalkedT 5 Tryz.f5 := by
  intro H enc W base args ds p hT hval hA
  rw [Tryz.params5] at hA hval
  obtain ⟨v0, v1, d0, d1, p0, p1, hargs, rfl, rfl, h0, h1⟩ := trodAll_two hA
  obtain rfl : args = #[v0, v1] := by cases args; simp_all
  obtain ⟨D0, q0, rfl, m0⟩ := open_dia (hval 0 48 v0 rfl rfl) h0
  obtain ⟨A1, n1, c1, AA1, m1, cc1, X1, rfl, r1, l1, w1⟩ := open_lists (hval 1 49 v1 rfl rfl) h1
  exact exactPruned_any m0 hT r1 l1

set_option maxRecDepth 100000 in
theorem exactPruned_holds : Rows.ExactPrunedSaid :=
  OpenClaim.holds_of_wide 5 Tryz.f5 rfl rfl rfl rfl rfl rfl rfl ⟨rfl, rfl, rfl, rfl, rfl⟩ rfl rfl rfl rfl rfl (by kernel_rfl) Tryz.func5 (by kernel_rfl)
    (of_decide_eq_true (by kernel_rfl)) (by unfold Func.isWrapper; first | (rw [if_pos (by decide +kernel)]; kernel_rfl) | (rw [if_neg (by decide +kernel)]; exact ⟨rfl, rfl⟩))
    (fun os started H enc _ => law_liftedT (s := Rows.exactPrunedSpec) started Tryz.func5 (by kernel_rfl) (by kernel_rfl) rfl (by kernel_rfl)
      (fun ds hl => by
        have hl' : ds.length = 2 := hl
        match ds, hl' with
        | [d0, d1], _ => exact ⟨rfl, rfl, rfl⟩)
      #[.agg #[.slice none 0 0, .slice none 0 0, .slice none 0 0], .slice none 0 0] (by kernel_rfl) (by kernel_rfl) (by kernel_rfl) exactPruned_walked)

set_option maxRecDepth 100000 in
theorem exactPruned_plain (f : FuncId) (fn : Func) (hf : Tryz.pinned.checked.prog.funcNamed Rows.exactPrunedRow.func = some f) (hfn : Tryz.pinned.checked.prog.funcs[f]? = some fn) :
    true = Tryz.pinned.checked.prog.looks [] ∧ ∀ (j : Nat) t, fn.params[j]? = some t → Tryz.pinned.checked.prog.wantsStandIn t = false := by
  obtain rfl : f = 5 := Option.some.inj ((show Tryz.prog.funcNamed Rows.exactPrunedRow.func = some 5 by kernel_rfl).symm.trans hf) |>.symm
  obtain rfl : fn = Tryz.f5 := (Option.some.inj (Tryz.func5.symm.trans hfn)).symm
  refine ⟨by kernel_rfl, fun j t ht => ?_⟩
  rw [Tryz.params5] at ht
  obtain rfl | rfl : t = 48 ∨ t = 49 := by simpa using Array.mem_of_getElem? ht
  · exact (show Tryz.prog.wantsStandIn 48 = false by kernel_rfl)
  · exact (show Tryz.prog.wantsStandIn 49 = false by kernel_rfl)

theorem exactPruned_card : Rows.ExactPrunedCardSaid :=
  Claim7.holds_tied_plain_at .later [] _ _ _ _ exactPruned_holds (fun _ h => by cases h) (by kernel_rfl) (fun _ h => by cases h) exactPruned_row_tie rfl ⟨rfl, rfl⟩ (by kernel_rfl) rfl exactPruned_plain (by kernel_rfl)

end Go.Proofs.YtcdkkohklhmpgaaGreatDoor
