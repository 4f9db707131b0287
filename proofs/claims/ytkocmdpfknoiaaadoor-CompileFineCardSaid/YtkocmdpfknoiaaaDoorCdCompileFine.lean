/- The given statement CompileFine: its card. The condition is the row's own: the table lies as the program's text lays it. -/
import Derived.Test.YtkocmdpfknoiaaaDoorDgp
import Derived.Test.YtkocmdpfknoiaaaDoorLifto
import Derived.Test.YtkocmdpfknoiaaaDoorKxp
namespace Go.Proofs.YtkocmdpfknoiaaaDoor
open Go.ChangeShapes Go.WideShapes Go.ChangeAt Go.RowKit

set_option maxRecDepth 100000 in
theorem compileFine_walked : WalkedO 4 Tryd.f4 := by
  intro H enc W base args ds p hT hO hval hA
  rw [Tryd.params4] at hA hval
  obtain ⟨v0, v1, d0, d1, p0, p1, hargs, rfl, rfl, h0, h1⟩ := trodAll_two hA
  obtain rfl : args = #[v0, v1] := by cases args; simp_all
  obtain ⟨l0, rfl, f0⟩ := flat_struct 8 Tryd.underlying23 (by kernel_rfl) (hval 0 23 v0 rfl rfl) h0
  obtain ⟨a0, m0, rfl, wa0, g0⟩ := flat_i f0
  obtain ⟨b0, n0, rfl, wb0, k0⟩ := flat_i g0
  obtain rfl := flat_nil k0
  obtain ⟨a1, rfl, rfl, rfl, wa1⟩ := open_int Tryd.underlying5 (hval 1 5 v1 rfl rfl) h1
  exact compileFine_any a0 b0 a1 (u8w wa1) _ hT hO

set_option maxRecDepth 100000 in
theorem compileFine_holds : Rows.CompileFineSaid :=
  OpenClaim.holds_of_wide 4 Tryd.f4 rfl rfl rfl rfl rfl rfl rfl ⟨rfl, rfl, rfl, rfl, rfl⟩ rfl rfl rfl rfl rfl (by kernel_rfl) Tryd.func4 (by kernel_rfl)
    (of_decide_eq_true (by kernel_rfl)) (by unfold Func.isWrapper; first | (rw [if_pos (by decide +kernel)]; kernel_rfl) | (rw [if_neg (by decide +kernel)]; exact ⟨rfl, rfl⟩))
    (fun os started H enc _ => law_liftedO (s := Rows.compileFineSpec) started Tryd.func4 (by kernel_rfl) (by kernel_rfl) rfl (by kernel_rfl)
      (fun ds hl => by
        have hl' : ds.length = 2 := hl
        match ds, hl' with
        | [d0, d1], _ => exact ⟨rfl, rfl, rfl⟩)
      #[.agg #[I 0, I 0], .int .u8 0] (by kernel_rfl) (by kernel_rfl) (by kernel_rfl) compileFine_walked)

set_option maxRecDepth 100000 in
theorem compileFine_plain (f : FuncId) (fn : Func) (hf : Tryd.pinned.checked.prog.funcNamed Rows.compileFineRow.func = some f) (hfn : Tryd.pinned.checked.prog.funcs[f]? = some fn) :
    true = Tryd.pinned.checked.prog.looks [] ∧ ∀ (j : Nat) t, fn.params[j]? = some t → Tryd.pinned.checked.prog.wantsStandIn t = false := by
  obtain rfl : f = 4 := Option.some.inj ((show Tryd.prog.funcNamed Rows.compileFineRow.func = some 4 by kernel_rfl).symm.trans hf) |>.symm
  obtain rfl : fn = Tryd.f4 := (Option.some.inj (Tryd.func4.symm.trans hfn)).symm
  refine ⟨by kernel_rfl, fun j t ht => ?_⟩
  rw [Tryd.params4] at ht
  obtain rfl | rfl : t = 23 ∨ t = 5 := by simpa using Array.mem_of_getElem? ht
  · exact (show Tryd.prog.wantsStandIn 23 = false by kernel_rfl)
  · exact (show Tryd.prog.wantsStandIn 5 = false by kernel_rfl)

theorem compileFine_card : Rows.CompileFineCardSaid :=
  Claim7.holds_tied_plain_at .later [] _ _ _ _ compileFine_holds (fun _ h => by cases h) (by kernel_rfl) (fun _ h => by cases h) compileFine_row_tie rfl ⟨rfl, rfl⟩ (by kernel_rfl) rfl compileFine_plain (by kernel_rfl)

end Go.Proofs.YtkocmdpfknoiaaaDoor
