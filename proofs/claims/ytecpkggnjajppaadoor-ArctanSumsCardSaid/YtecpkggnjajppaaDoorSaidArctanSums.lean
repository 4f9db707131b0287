/- The given statement ArctanSums: its card. The condition is the row's own: the table lies as the program's text lays it. -/
import Derived.Test.YtecpkggnjajppaaDoorArcs
import Derived.Test.YtecpkggnjajppaaDoorArcl
namespace Go.Proofs.YtecpkggnjajppaaDoor
open Go.ChangeShapes Go.WideShapes Go.ChangeAt Go.RowKit

set_option maxRecDepth 100000 in
theorem arctanSums_walked : WalkedT 11 Tryd.f11 := by
  intro H enc W base args ds p hT hval hA
  rw [Tryd.params11] at hA hval
  obtain ⟨v0, v1, v2, d0, d1, d2, p0, p1, p2, hargs, rfl, rfl, h0, h1, h2⟩ := trodAll_three hA
  obtain rfl : args = #[v0, v1, v2] := by cases args; simp_all
  obtain ⟨a0, rfl, rfl, rfl, wa0⟩ := open_int Tryd.underlying3 (hval 0 3 v0 rfl rfl) h0
  obtain ⟨a1, rfl, rfl, rfl, wa1⟩ := open_int Tryd.underlying3 (hval 1 3 v1 rfl rfl) h1
  obtain ⟨a2, rfl, rfl, rfl, wa2⟩ := open_int Tryd.underlying3 (hval 2 3 v2 rfl rfl) h2
  exact sums_law' a0 a1 a2 W hT

set_option maxRecDepth 100000 in
theorem arctanSums_holds : Rows.ArctanSumsSaid :=
  OpenClaim.holds_of_wide 11 Tryd.f11 rfl rfl rfl rfl rfl rfl rfl ⟨rfl, rfl, rfl, rfl, rfl⟩ rfl rfl rfl rfl rfl (by kernel_rfl) Tryd.func11 (by kernel_rfl)
    (of_decide_eq_true (by kernel_rfl)) (by unfold Func.isWrapper; first | (rw [if_pos (by decide +kernel)]; kernel_rfl) | (rw [if_neg (by decide +kernel)]; exact ⟨rfl, rfl⟩))
    (fun os started H enc _ => law_liftedT (s := Rows.arctanSumsSpec) started Tryd.func11 (by kernel_rfl) (by kernel_rfl) rfl (by kernel_rfl)
      (fun ds hl => by
        have hl' : ds.length = 3 := hl
        match ds, hl' with
        | [d0, d1, d2], _ => exact ⟨rfl, rfl, rfl⟩)
      #[I 0, I 0, I 0] (by kernel_rfl) (by kernel_rfl) (by kernel_rfl) arctanSums_walked)

set_option maxRecDepth 100000 in
theorem arctanSums_plain (f : FuncId) (fn : Func) (hf : Tryd.pinned.checked.prog.funcNamed Rows.arctanSumsRow.func = some f) (hfn : Tryd.pinned.checked.prog.funcs[f]? = some fn) :
    false = Tryd.pinned.checked.prog.looks [] ∧ ∀ (j : Nat) t, fn.params[j]? = some t → Tryd.pinned.checked.prog.wantsStandIn t = false := by
  obtain rfl : f = 11 := Option.some.inj ((show Tryd.prog.funcNamed Rows.arctanSumsRow.func = some 11 by kernel_rfl).symm.trans hf) |>.symm
  obtain rfl : fn = Tryd.f11 := (Option.some.inj (Tryd.func11.symm.trans hfn)).symm
  refine ⟨by kernel_rfl, fun j t ht => ?_⟩
  rw [Tryd.params11] at ht
  obtain rfl : t = 3 := by simpa using Array.mem_of_getElem? ht
  · exact (show Tryd.prog.wantsStandIn 3 = false by kernel_rfl)

theorem arctanSums_card : Rows.ArctanSumsCardSaid :=
  Claim7.holds_tied_plain_at .later [] _ _ _ _ arctanSums_holds (fun _ h => by cases h) (by kernel_rfl) (fun _ h => by cases h) arctanSums_row_tie rfl ⟨rfl, rfl⟩ (by kernel_rfl) rfl arctanSums_plain (by kernel_rfl)

end Go.Proofs.YtecpkggnjajppaaDoor
