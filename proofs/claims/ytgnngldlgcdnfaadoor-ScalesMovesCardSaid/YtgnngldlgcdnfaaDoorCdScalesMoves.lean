/- The given statement ScalesMoves: its card. The condition is the row's own: the table lies as the program's text lays it. -/
import Derived.Test.YtgnngldlgcdnfaaDoorDgp
import Derived.Test.YtgnngldlgcdnfaaDoorSci
namespace Go.Proofs.YtgnngldlgcdnfaaDoor
open Go.ChangeShapes Go.WideShapes Go.ChangeAt Go.RowKit

set_option maxRecDepth 100000 in
theorem scalesMoves_walked : WalkedT 6 Tryd.f6 := by
  intro H enc W base args ds p hT hval hA
  rw [Tryd.params6] at hA hval
  obtain ⟨v0, v1, v2, d0, d1, d2, p0, p1, p2, hargs, rfl, rfl, h0, h1, h2⟩ := trodAll_three hA
  obtain rfl : args = #[v0, v1, v2] := by cases args; simp_all
  obtain ⟨D0, q0, rfl, m0⟩ := open_dia (hval 0 26 v0 rfl rfl) h0
  obtain ⟨a1, rfl, rfl, rfl, wa1⟩ := open_int Tryd.underlying5 (hval 1 5 v1 rfl rfl) h1
  obtain ⟨a2, rfl, rfl, rfl, wa2⟩ := open_int Tryd.underlying5 (hval 2 5 v2 rfl rfl) h2
  exact moves_any m0 hT a1 (u8w wa1) a2 (u8w wa2)

set_option maxRecDepth 100000 in
theorem scalesMoves_holds : Rows.ScalesMovesSaid :=
  OpenClaim.holds_of_wide 6 Tryd.f6 rfl rfl rfl rfl rfl rfl rfl ⟨rfl, rfl, rfl, rfl, rfl⟩ rfl rfl rfl rfl rfl (by kernel_rfl) Tryd.func6 (by kernel_rfl)
    (of_decide_eq_true (by kernel_rfl)) (by unfold Func.isWrapper; first | (rw [if_pos (by decide +kernel)]; kernel_rfl) | (rw [if_neg (by decide +kernel)]; exact ⟨rfl, rfl⟩))
    (fun os started H enc _ => law_liftedT (s := Rows.scalesMovesSpec) started Tryd.func6 (by kernel_rfl) (by kernel_rfl) rfl (by kernel_rfl)
      (fun ds hl => by
        have hl' : ds.length = 3 := hl
        match ds, hl' with
        | [d0, d1, d2], _ => exact ⟨rfl, rfl, rfl⟩)
      #[.agg #[.slice none 0 0, .slice none 0 0, .slice none 0 0], .int .u8 0, .int .u8 0] (by kernel_rfl) (by kernel_rfl) (by kernel_rfl) scalesMoves_walked)

set_option maxRecDepth 100000 in
theorem scalesMoves_plain (f : FuncId) (fn : Func) (hf : Tryd.pinned.checked.prog.funcNamed Rows.scalesMovesRow.func = some f) (hfn : Tryd.pinned.checked.prog.funcs[f]? = some fn) :
    true = Tryd.pinned.checked.prog.looks [] ∧ ∀ (j : Nat) t, fn.params[j]? = some t → Tryd.pinned.checked.prog.wantsStandIn t = false := by
  obtain rfl : f = 6 := Option.some.inj ((show Tryd.prog.funcNamed Rows.scalesMovesRow.func = some 6 by kernel_rfl).symm.trans hf) |>.symm
  obtain rfl : fn = Tryd.f6 := (Option.some.inj (Tryd.func6.symm.trans hfn)).symm
  refine ⟨by kernel_rfl, fun j t ht => ?_⟩
  rw [Tryd.params6] at ht
  obtain rfl | rfl : t = 26 ∨ t = 5 := by simpa using Array.mem_of_getElem? ht
  · exact (show Tryd.prog.wantsStandIn 26 = false by kernel_rfl)
  · exact (show Tryd.prog.wantsStandIn 5 = false by kernel_rfl)

theorem scalesMoves_card : Rows.ScalesMovesCardSaid :=
  Claim7.holds_tied_plain_at .later [] _ _ _ _ scalesMoves_holds (fun _ h => by cases h) (by kernel_rfl) (fun _ h => by cases h) scalesMoves_row_tie rfl ⟨rfl, rfl⟩ (by kernel_rfl) rfl scalesMoves_plain (by kernel_rfl)

end Go.Proofs.YtgnngldlgcdnfaaDoor
