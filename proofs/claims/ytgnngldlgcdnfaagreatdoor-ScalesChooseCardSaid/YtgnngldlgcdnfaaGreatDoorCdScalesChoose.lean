/- The given statement ScalesChoose: its card. The condition is the row's own: the table lies as the program's text lays it. -/
import Derived.Test.YtgnngldlgcdnfaaGreatDoorOpi
import Derived.Test.YtgnngldlgcdnfaaGreatDoorScq
namespace Go.Proofs.YtgnngldlgcdnfaaGreatDoor
open Go.ChangeShapes Go.WideShapes Go.ChangeAt Go.RowKit

set_option maxRecDepth 100000 in
theorem scalesChoose_walked : WalkedT 9 Tryz.f9 := by
  intro H enc W base args ds p hT hval hA
  rw [Tryz.params9] at hA hval
  obtain ⟨v0, v1, d0, d1, p0, p1, hargs, rfl, rfl, h0, h1⟩ := trodAll_two hA
  obtain rfl : args = #[v0, v1] := by cases args; simp_all
  obtain ⟨D0, q0, rfl, m0⟩ := open_dia (hval 0 26 v0 rfl rfl) h0
  obtain ⟨A1, n1, c1, R1, F1, G1, B1, k1, e1, X1, rfl, m1, r1, l1, w1⟩ := open_ranged (hval 1 86 v1 rfl rfl) h1
  exact choose_any m0 hT m1 r1 l1 w1

set_option maxRecDepth 100000 in
theorem scalesChoose_holds : Rows.ScalesChooseSaid :=
  OpenClaim.holds_of_wide 9 Tryz.f9 rfl rfl rfl rfl rfl rfl rfl ⟨rfl, rfl, rfl, rfl, rfl⟩ rfl rfl rfl rfl rfl (by kernel_rfl) Tryz.func9 (by kernel_rfl)
    (of_decide_eq_true (by kernel_rfl)) (by unfold Func.isWrapper; first | (rw [if_pos (by decide +kernel)]; kernel_rfl) | (rw [if_neg (by decide +kernel)]; exact ⟨rfl, rfl⟩))
    (fun os started H enc _ => law_liftedT (s := Rows.scalesChooseSpec) started Tryz.func9 (by kernel_rfl) (by kernel_rfl) rfl (by kernel_rfl)
      (fun ds hl => by
        have hl' : ds.length = 2 := hl
        match ds, hl' with
        | [d0, d1], _ => exact ⟨rfl, rfl, rfl⟩)
      #[.agg #[.slice none 0 0, .slice none 0 0, .slice none 0 0], .agg #[.slice none 0 0, .slice none 0 0]] (by kernel_rfl) (by kernel_rfl) (by kernel_rfl) scalesChoose_walked)

set_option maxRecDepth 100000 in
theorem scalesChoose_plain (f : FuncId) (fn : Func) (hf : Tryz.pinned.checked.prog.funcNamed Rows.scalesChooseRow.func = some f) (hfn : Tryz.pinned.checked.prog.funcs[f]? = some fn) :
    true = Tryz.pinned.checked.prog.looks [] ∧ ∀ (j : Nat) t, fn.params[j]? = some t → Tryz.pinned.checked.prog.wantsStandIn t = false := by
  obtain rfl : f = 9 := Option.some.inj ((show Tryz.prog.funcNamed Rows.scalesChooseRow.func = some 9 by kernel_rfl).symm.trans hf) |>.symm
  obtain rfl : fn = Tryz.f9 := (Option.some.inj (Tryz.func9.symm.trans hfn)).symm
  refine ⟨by kernel_rfl, fun j t ht => ?_⟩
  rw [Tryz.params9] at ht
  obtain rfl | rfl : t = 26 ∨ t = 86 := by simpa using Array.mem_of_getElem? ht
  · exact (show Tryz.prog.wantsStandIn 26 = false by kernel_rfl)
  · exact (show Tryz.prog.wantsStandIn 86 = false by kernel_rfl)

theorem scalesChoose_card : Rows.ScalesChooseCardSaid :=
  Claim7.holds_tied_plain_at .later [] _ _ _ _ scalesChoose_holds (fun _ h => by cases h) (by kernel_rfl) (fun _ h => by cases h) scalesChoose_row_tie rfl ⟨rfl, rfl⟩ (by kernel_rfl) rfl scalesChoose_plain (by kernel_rfl)

end Go.Proofs.YtgnngldlgcdnfaaGreatDoor
