/- The given statement: DyadicParses: its card. -/
import Derived.Test.YtlnphamgmicniaaGreatDoorLiftx
import Derived.Test.YtlnphamgmicniaaGreatDoorLwp
namespace Go.Proofs.YtlnphamgmicniaaGreatDoor
open Go.ChangeShapes Go.WideShapes Go.ChangeAt Go.RowKit

set_option maxRecDepth 100000 in
theorem dyadicParses_walked : WalkedX 3 Tryz.f3 := by
  intro H enc W base args ds p hT hP hE hval hA
  rw [Tryz.params3] at hA hval
  obtain ⟨v0, d0, hargs, rfl, h0⟩ := trodAll_one hA
  obtain rfl : args = #[v0] := by cases args; simp_all
  obtain ⟨s0, rfl, rfl, rfl, hs0⟩ := Go.ChangeMaps.open_string Tryz.underlying9 (hval 0 9 v0 rfl rfl) h0
  exact parses_law s0 W hT hP hE

set_option maxRecDepth 100000 in
theorem dyadicParses_holds : Rows.DyadicParsesSaid :=
  OpenClaim.holds_of_wide 3 Tryz.f3 rfl rfl rfl rfl rfl rfl rfl ⟨rfl, rfl, rfl, rfl, rfl⟩ rfl rfl rfl rfl rfl (by kernel_rfl) Tryz.func3 (by kernel_rfl)
    (of_decide_eq_true (by kernel_rfl)) (by unfold Func.isWrapper; first | (rw [if_pos (by decide +kernel)]; kernel_rfl) | (rw [if_neg (by decide +kernel)]; exact ⟨rfl, rfl⟩))
    (fun os started H enc _ => law_liftedX (s := Rows.dyadicParsesSpec) started Tryz.func3 (by kernel_rfl) (by kernel_rfl) rfl (by kernel_rfl)
      (fun ds hl => by
        have hl' : ds.length = 1 := hl
        match ds, hl' with
        | [d0], _ => exact ⟨rfl, rfl, rfl⟩)
      #[.string ⟨#[]⟩] (by kernel_rfl) (by kernel_rfl) (by kernel_rfl) dyadicParses_walked)

set_option maxRecDepth 100000 in
theorem dyadicParses_plain (f : FuncId) (fn : Func) (hf : Tryz.pinned.checked.prog.funcNamed Rows.dyadicParsesRow.func = some f) (hfn : Tryz.pinned.checked.prog.funcs[f]? = some fn) :
    true = Tryz.pinned.checked.prog.looks [] ∧ ∀ (j : Nat) t, fn.params[j]? = some t → Tryz.pinned.checked.prog.wantsStandIn t = false := by
  obtain rfl : f = 3 := Option.some.inj ((show Tryz.prog.funcNamed Rows.dyadicParsesRow.func = some 3 by kernel_rfl).symm.trans hf) |>.symm
  obtain rfl : fn = Tryz.f3 := (Option.some.inj (Tryz.func3.symm.trans hfn)).symm
  refine ⟨by kernel_rfl, fun j t ht => ?_⟩
  rw [Tryz.params3] at ht
  obtain rfl : t = 9 := by simpa using Array.mem_of_getElem? ht
  exact (show Tryz.prog.wantsStandIn 9 = false by kernel_rfl)

theorem dyadicParses_card : Rows.DyadicParsesCardSaid :=
  Claim7.holds_tied_plain_at .later [] _ _ _ _ dyadicParses_holds (fun _ h => by cases h) (by kernel_rfl) (fun _ h => by cases h) dyadicParses_row_tie rfl ⟨rfl, rfl⟩ (by kernel_rfl) rfl dyadicParses_plain (by kernel_rfl)

end Go.Proofs.YtlnphamgmicniaaGreatDoor
