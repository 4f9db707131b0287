import Derived.Test.YtgnngldlgcdnfaaGreatDoorRx
import Derived.Test.YtgnngldlgcdnfaaGreatDoorRak
namespace Go.Proofs.YtgnngldlgcdnfaaGreatDoor
open Go.ChangeShapes Go.WideShapes Go.ChangeAt Go.RowKit
set_option maxRecDepth 100000 in
theorem rangesContain_walked : WalkedT 5 Tryz.f5 := by
 intro H enc W base args ds p hT hval hA
 rw [Tryz.params5] at hA hval
 obtain ⟨v0, v1, v2, d0, d1, d2, p0, p1, p2, hargs, rfl, rfl, h0, h1, h2⟩ := trodAll_three hA
 obtain rfl : args = #[v0, v1, v2] := by cases args; simp_all
 obtain ⟨D0, q0, rfl, m0⟩ := open_dia (hval 0 26 v0 rfl rfl) h0
 obtain ⟨A1, n1, c1, R1, F1, G1, B1, k1, e1, X1, rfl, m1, r1, l1⟩ := open_state (hval 1 52 v1 rfl rfl) h1
 obtain ⟨A2, n2, c2, X2, rfl, r2, l2, w2⟩ := open_ints' (hval 2 24 v2 rfl rfl) h2
 exact contain_any m0 hT m1 r1 l1 r2 l2
set_option maxRecDepth 100000 in
theorem rangesContain_holds : Rows.RangesContainSaid :=
 OpenClaim.holds_of_wide 5 Tryz.f5 rfl rfl rfl rfl rfl rfl rfl ⟨rfl, rfl, rfl, rfl, rfl⟩ rfl rfl rfl rfl rfl (by kernel_rfl) Tryz.func5 (by kernel_rfl)
  (of_decide_eq_true (by kernel_rfl)) (by unfold Func.isWrapper; first | (rw [if_pos (by decide +kernel)]; kernel_rfl) | (rw [if_neg (by decide +kernel)]; exact ⟨rfl, rfl⟩))
  (fun os started H enc _ => law_liftedT (s := Rows.rangesContainSpec) started Tryz.func5 (by kernel_rfl) (by kernel_rfl) rfl (by kernel_rfl)
   (fun ds hl => by
    have hl' : ds.length = 3 := hl
    match ds, hl' with
    | [d0, d1, d2], _ => exact ⟨rfl, rfl, rfl⟩)
   #[.agg #[.slice none 0 0, .slice none 0 0, .slice none 0 0], .agg #[.slice none 0 0, .slice none 0 0], .slice none 0 0] (by kernel_rfl) (by kernel_rfl) (by kernel_rfl) rangesContain_walked)
set_option maxRecDepth 100000 in
theorem rangesContain_plain (f : FuncId) (fn : Func) (hf : Tryz.pinned.checked.prog.funcNamed Rows.rangesContainRow.func = some f) (hfn : Tryz.pinned.checked.prog.funcs[f]? = some fn) :
  true = Tryz.pinned.checked.prog.looks [] ∧ ∀ (j : Nat) t, fn.params[j]? = some t → Tryz.pinned.checked.prog.wantsStandIn t = false := by
 obtain rfl : f = 5 := Option.some.inj ((show Tryz.prog.funcNamed Rows.rangesContainRow.func = some 5 by kernel_rfl).symm.trans hf) |>.symm
 obtain rfl : fn = Tryz.f5 := (Option.some.inj (Tryz.func5.symm.trans hfn)).symm
 refine ⟨by kernel_rfl, fun j t ht => ?_⟩
 rw [Tryz.params5] at ht
 obtain rfl | rfl | rfl : t = 26 ∨ t = 52 ∨ t = 24 := by simpa using Array.mem_of_getElem? ht
 ·exact (show Tryz.prog.wantsStandIn 26 = false by kernel_rfl)
 ·exact (show Tryz.prog.wantsStandIn 52 = false by kernel_rfl)
 ·exact (show Tryz.prog.wantsStandIn 24 = false by kernel_rfl)
theorem rangesContain_card : Rows.RangesContainCardSaid :=
 Claim7.holds_tied_plain_at .later [] _ _ _ _ rangesContain_holds (fun _ h => by cases h) (by kernel_rfl) (fun _ h => by cases h) rangesContain_row_tie rfl ⟨rfl, rfl⟩ (by kernel_rfl) rfl rangesContain_plain (by kernel_rfl)
end Go.Proofs.YtgnngldlgcdnfaaGreatDoor
