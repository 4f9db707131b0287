/- The given statement CompileCells: its card. The condition is the row's own: the table lies as the program's text lays it. -/
import Derived.Test.YtkocmdpfknoiaaaGreatDoorOpz
import Derived.Test.YtkocmdpfknoiaaaGreatDoorLifto
import Derived.Test.YtkocmdpfknoiaaaGreatDoorKxs
namespace Go.Proofs.YtkocmdpfknoiaaaGreatDoor
open Go.ChangeShapes Go.WideShapes Go.ChangeAt Go.RowKit

set_option maxRecDepth 100000 in
theorem compileCells_walked : WalkedO 6 Tryz.f6 := by
  intro H enc W base args ds p hT hO hval hA
  rw [Tryz.params6] at hA hval
  obtain ⟨v0, v1, v2, d0, d1, d2, p0, p1, p2, hargs, rfl, rfl, h0, h1, h2⟩ := trodAll_three hA
  obtain rfl : args = #[v0, v1, v2] := by cases args; simp_all
  obtain ⟨D0, q0, rfl, m0⟩ := open_dia (hval 0 26 v0 rfl rfl) h0
  obtain ⟨A1, n1, c1, X1, rfl, r1, l1, w1⟩ := open_ints' (hval 1 24 v1 rfl rfl) h1
  obtain ⟨A2, n2, c2, X2, rfl, r2, l2, w2⟩ := open_ints' (hval 2 24 v2 rfl rfl) h2
  exact compileCells_any m0 r1 l1 r2 l2 hT hO

set_option maxRecDepth 100000 in
theorem compileCells_holds : Rows.CompileCellsSaid :=
  OpenClaim.holds_of_wide 6 Tryz.f6 rfl rfl rfl rfl rfl rfl rfl ⟨rfl, rfl, rfl, rfl, rfl⟩ rfl rfl rfl rfl rfl (by kernel_rfl) Tryz.func6 (by kernel_rfl)
    (of_decide_eq_true (by kernel_rfl)) (by unfold Func.isWrapper; first | (rw [if_pos (by decide +kernel)]; kernel_rfl) | (rw [if_neg (by decide +kernel)]; exact ⟨rfl, rfl⟩))
    (fun os started H enc _ => law_liftedO (s := Rows.compileCellsSpec) started Tryz.func6 (by kernel_rfl) (by kernel_rfl) rfl (by kernel_rfl)
      (fun ds hl => by
        have hl' : ds.length = 3 := hl
        match ds, hl' with
        | [d0, d1, d2], _ => exact ⟨rfl, rfl, rfl⟩)
      #[.agg #[.slice none 0 0, .slice none 0 0, .slice none 0 0], .slice none 0 0, .slice none 0 0] (by kernel_rfl) (by kernel_rfl) (by kernel_rfl) compileCells_walked)

set_option maxRecDepth 100000 in
theorem compileCells_plain (f : FuncId) (fn : Func) (hf : Tryz.pinned.checked.prog.funcNamed Rows.compileCellsRow.func = some f) (hfn : Tryz.pinned.checked.prog.funcs[f]? = some fn) :
    true = Tryz.pinned.checked.prog.looks [] ∧ ∀ (j : Nat) t, fn.params[j]? = some t → Tryz.pinned.checked.prog.wantsStandIn t = false := by
  obtain rfl : f = 6 := Option.some.inj ((show Tryz.prog.funcNamed Rows.compileCellsRow.func = some 6 by kernel_rfl).symm.trans hf) |>.symm
  obtain rfl : fn = Tryz.f6 := (Option.some.inj (Tryz.func6.symm.trans hfn)).symm
  refine ⟨by kernel_rfl, fun j t ht => ?_⟩
  rw [Tryz.params6] at ht
  obtain rfl | rfl : t = 26 ∨ t = 24 := by simpa using Array.mem_of_getElem? ht
  · exact (show Tryz.prog.wantsStandIn 26 = false by kernel_rfl)
  · exact (show Tryz.prog.wantsStandIn 24 = false by kernel_rfl)

theorem compileCells_card : Rows.CompileCellsCardSaid :=
  Claim7.holds_tied_plain_at .later [] _ _ _ _ compileCells_holds (fun _ h => by cases h) (by kernel_rfl) (fun _ h => by cases h) compileCells_row_tie rfl ⟨rfl, rfl⟩ (by kernel_rfl) rfl compileCells_plain (by kernel_rfl)

end Go.Proofs.YtkocmdpfknoiaaaGreatDoor
