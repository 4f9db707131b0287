/- The given statement DiagramDepends: its card. The condition is the row's own: the table lies as the program's text lays it. -/
import Derived.Test.YtgajibdmihdkcaaDoorDgp
import Derived.Test.YtgajibdmihdkcaaDoorDhe
namespace Go.Proofs.YtgajibdmihdkcaaDoor
open Go.ChangeShapes Go.WideShapes Go.ChangeAt Go.RowKit

set_option maxRecDepth 100000 in
theorem diagramDepends_walked : WalkedT 10 Tryd.f10 := by
  intro H enc W base args ds p hT hval hA
  rw [Tryd.params10] at hA hval
  obtain ⟨v0, v1, d0, d1, p0, p1, hargs, rfl, rfl, h0, h1⟩ := trodAll_two hA
  obtain rfl : args = #[v0, v1] := by cases args; simp_all
  obtain ⟨D0, q0, rfl, m0⟩ := open_dia (hval 0 26 v0 rfl rfl) h0
  obtain ⟨a1, rfl, rfl, rfl, wa1⟩ := open_int Tryd.underlying5 (hval 1 5 v1 rfl rfl) h1
  exact depends_any m0 hT a1 (u8w wa1)

set_option maxRecDepth 100000 in
theorem diagramDepends_holds : Rows.DiagramDependsSaid :=
  OpenClaim.holds_of_wide 10 Tryd.f10 rfl rfl rfl rfl rfl rfl rfl ⟨rfl, rfl, rfl, rfl, rfl⟩ rfl rfl rfl rfl rfl (by kernel_rfl) Tryd.func10 (by kernel_rfl)
    (of_decide_eq_true (by kernel_rfl)) (by unfold Func.isWrapper; first | (rw [if_pos (by decide +kernel)]; kernel_rfl) | (rw [if_neg (by decide +kernel)]; exact ⟨rfl, rfl⟩))
    (fun os started H enc _ => law_liftedT (s := Rows.diagramDependsSpec) started Tryd.func10 (by kernel_rfl) (by kernel_rfl) rfl (by kernel_rfl)
      (fun ds hl => by
        have hl' : ds.length = 2 := hl
        match ds, hl' with
        | [d0, d1], _ => exact ⟨rfl, rfl, rfl⟩)
      #[.agg #[.slice none 0 0, .slice none 0 0, .slice none 0 0], .int .u8 0] (by kernel_rfl) (by kernel_rfl) (by kernel_rfl) diagramDepends_walked)

set_option maxRecDepth 100000 in
theorem diagramDepends_plain (f : FuncId) (fn : Func) (hf : Tryd.pinned.checked.prog.funcNamed Rows.diagramDependsRow.func = some f) (hfn : Tryd.pinned.checked.prog.funcs[f]? = some fn) :
    true = Tryd.pinned.checked.prog.looks [] ∧ ∀ (j : Nat) t, fn.params[j]? = some t → Tryd.pinned.checked.prog.wantsStandIn t = false := by
  obtain rfl : f = 10 := Option.some.inj ((show Tryd.prog.funcNamed Rows.diagramDependsRow.func = some 10 by kernel_rfl).symm.trans hf) |>.symm
  obtain rfl : fn = Tryd.f10 := (Option.some.inj (Tryd.func10.symm.trans hfn)).symm
  refine ⟨by kernel_rfl, fun j t ht => ?_⟩
  rw [Tryd.params10] at ht
  obtain rfl | rfl : t = 26 ∨ t = 5 := by simpa using Array.mem_of_getElem? ht
  · exact (show Tryd.prog.wantsStandIn 26 = false by kernel_rfl)
  · exact (show Tryd.prog.wantsStandIn 5 = false by kernel_rfl)

theorem diagramDepends_card : Rows.DiagramDependsCardSaid :=
  Claim7.holds_tied_plain_at .later [] _ _ _ _ diagramDepends_holds (fun _ h => by cases h) (by kernel_rfl) (fun _ h => by cases h) diagramDepends_row_tie rfl ⟨rfl, rfl⟩ (by kernel_rfl) rfl diagramDepends_plain (by kernel_rfl)

end Go.Proofs.YtgajibdmihdkcaaDoor
