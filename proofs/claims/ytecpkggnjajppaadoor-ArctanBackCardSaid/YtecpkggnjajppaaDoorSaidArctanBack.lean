/- The given statement ArctanBack: its card. The condition is the row's own: the table lies as the program's text lays it. -/
import Derived.Test.YtecpkggnjajppaaDoorArcs
import Derived.Test.YtecpkggnjajppaaDoorArck
namespace Go.Proofs.YtecpkggnjajppaaDoor
open Go.ChangeShapes Go.WideShapes Go.ChangeAt Go.RowKit

set_option maxRecDepth 100000 in
theorem arctanBack_walked : WalkedT 6 Tryd.f6 := by
  intro H enc W base args ds p hT hval hA
  rw [Tryd.params6] at hA hval
  obtain ⟨v0, v1, d0, d1, p0, p1, hargs, rfl, rfl, h0, h1⟩ := trodAll_two hA
  obtain rfl : args = #[v0, v1] := by cases args; simp_all
  obtain ⟨a0, rfl, rfl, rfl, wa0⟩ := open_int Tryd.underlying3 (hval 0 3 v0 rfl rfl) h0
  obtain ⟨a1, rfl, rfl, rfl, wa1⟩ := open_int Tryd.underlying29 (hval 1 29 v1 rfl rfl) h1
  exact back_law' a0 a1 W hT (u32w wa1).1 (u32w wa1).2

set_option maxRecDepth 100000 in
theorem arctanBack_holds : Rows.ArctanBackSaid :=
  OpenClaim.holds_of_wide 6 Tryd.f6 rfl rfl rfl rfl rfl rfl rfl ⟨rfl, rfl, rfl, rfl, rfl⟩ rfl rfl rfl rfl rfl (by kernel_rfl) Tryd.func6 (by kernel_rfl)
    (of_decide_eq_true (by kernel_rfl)) (by unfold Func.isWrapper; first | (rw [if_pos (by decide +kernel)]; kernel_rfl) | (rw [if_neg (by decide +kernel)]; exact ⟨rfl, rfl⟩))
    (fun os started H enc _ => law_liftedT (s := Rows.arctanBackSpec) started Tryd.func6 (by kernel_rfl) (by kernel_rfl) rfl (by kernel_rfl)
      (fun ds hl => by
        have hl' : ds.length = 2 := hl
        match ds, hl' with
        | [d0, d1], _ => exact ⟨rfl, rfl, rfl⟩)
      #[I 0, .int .u32 0] (by kernel_rfl) (by kernel_rfl) (by kernel_rfl) arctanBack_walked)

set_option maxRecDepth 100000 in
theorem arctanBack_plain (f : FuncId) (fn : Func) (hf : Tryd.pinned.checked.prog.funcNamed Rows.arctanBackRow.func = some f) (hfn : Tryd.pinned.checked.prog.funcs[f]? = some fn) :
    false = Tryd.pinned.checked.prog.looks [] ∧ ∀ (j : Nat) t, fn.params[j]? = some t → Tryd.pinned.checked.prog.wantsStandIn t = false := by
  obtain rfl : f = 6 := Option.some.inj ((show Tryd.prog.funcNamed Rows.arctanBackRow.func = some 6 by kernel_rfl).symm.trans hf) |>.symm
  obtain rfl : fn = Tryd.f6 := (Option.some.inj (Tryd.func6.symm.trans hfn)).symm
  refine ⟨by kernel_rfl, fun j t ht => ?_⟩
  rw [Tryd.params6] at ht
  obtain rfl | rfl : t = 3 ∨ t = 29 := by simpa using Array.mem_of_getElem? ht
  · exact (show Tryd.prog.wantsStandIn 3 = false by kernel_rfl)
  · exact (show Tryd.prog.wantsStandIn 29 = false by kernel_rfl)

theorem arctanBack_card : Rows.ArctanBackCardSaid :=
  Claim7.holds_tied_plain_at .later [] _ _ _ _ arctanBack_holds (fun _ h => by cases h) (by kernel_rfl) (fun _ h => by cases h) arctanBack_row_tie rfl ⟨rfl, rfl⟩ (by kernel_rfl) rfl arctanBack_plain (by kernel_rfl)

end Go.Proofs.YtecpkggnjajppaaDoor
