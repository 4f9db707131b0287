import Derived.Test.YtgnngldlgcdnfaaGreatDoorSx
import Derived.Test.YtgnngldlgcdnfaaGreatDoorQag
import Derived.Test.YtgnngldlgcdnfaaGreatDoorSaa
namespace Go.Proofs.YtgnngldlgcdnfaaGreatDoor
open Go.ChangeShapes Go.WideShapes Go.ChangeAt Go.RowKit
set_option maxRecDepth 100000 in
theorem rangesHold_walked : WalkedT 4 Tryz.f4 := by
 intro H enc W base args ds p hT hval hA
 rw [Tryz.params4] at hA hval
 obtain ⟨v0, v1, d0, d1, p0, p1, hargs, rfl, rfl, h0, h1⟩ := trodAll_two hA
 obtain rfl : args = #[v0, v1] := by cases args; simp_all
 obtain ⟨D0, q0, rfl, m0⟩ := open_dia (hval 0 26 v0 rfl rfl) h0
 obtain ⟨a1, rfl, rfl, rfl, wa1⟩ := open_int Tryz.underlying5 (hval 1 5 v1 rfl rfl) h1
 exact hold_any m0 hT a1 (u8w wa1)
set_option maxRecDepth 100000 in
theorem rangesHold_holds : Rows.RangesHoldSaid :=
 OpenClaim.holds_of_wide 4 Tryz.f4 rfl rfl rfl rfl rfl rfl rfl ⟨rfl, rfl, rfl, rfl, rfl⟩ rfl rfl rfl rfl rfl (by kernel_rfl) Tryz.func4 (by kernel_rfl)
  (of_decide_eq_true (by kernel_rfl)) (by unfold Func.isWrapper; first | (rw [if_pos (by decide +kernel)]; kernel_rfl) | (rw [if_neg (by decide +kernel)]; exact ⟨rfl, rfl⟩))
  (fun os started H enc _ => law_liftedT (s := Rows.rangesHoldSpec) started Tryz.func4 (by kernel_rfl) (by kernel_rfl) rfl (by kernel_rfl)
   (fun ds hl => by
    have hl' : ds.length = 2 := hl
    match ds, hl' with
    | [d0, d1], _ => exact ⟨rfl, rfl, rfl⟩)
   #[.agg #[.slice none 0 0, .slice none 0 0, .slice none 0 0], .int .u8 0] (by kernel_rfl) (by kernel_rfl) (by kernel_rfl) rangesHold_walked)
set_option maxRecDepth 100000 in
theorem rangesHold_plain (f : FuncId) (fn : Func) (hf : Tryz.pinned.checked.prog.funcNamed Rows.rangesHoldRow.func = some f) (hfn : Tryz.pinned.checked.prog.funcs[f]? = some fn) :
  true = Tryz.pinned.checked.prog.looks [] ∧ ∀ (j : Nat) t, fn.params[j]? = some t → Tryz.pinned.checked.prog.wantsStandIn t = false := by
 obtain rfl : f = 4 := Option.some.inj ((show Tryz.prog.funcNamed Rows.rangesHoldRow.func = some 4 by kernel_rfl).symm.trans hf) |>.symm
 obtain rfl : fn = Tryz.f4 := (Option.some.inj (Tryz.func4.symm.trans hfn)).symm
 refine ⟨by kernel_rfl, fun j t ht => ?_⟩
 rw [Tryz.params4] at ht
 obtain rfl | rfl : t = 26 ∨ t = 5 := by simpa using Array.mem_of_getElem? ht
 ·exact (show Tryz.prog.wantsStandIn 26 = false by kernel_rfl)
 ·exact (show Tryz.prog.wantsStandIn 5 = false by kernel_rfl)
theorem rangesHold_card : Rows.RangesHoldCardSaid :=
 Claim7.holds_tied_plain_at .later [] _ _ _ _ rangesHold_holds (fun _ h => by cases h) (by kernel_rfl) (fun _ h => by cases h) rangesHold_row_tie rfl ⟨rfl, rfl⟩ (by kernel_rfl) rfl rangesHold_plain (by kernel_rfl)
end Go.Proofs.YtgnngldlgcdnfaaGreatDoor
