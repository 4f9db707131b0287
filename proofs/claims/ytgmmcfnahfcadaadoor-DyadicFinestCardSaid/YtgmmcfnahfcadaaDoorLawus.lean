/- The given statement: DyadicFinest: its card. -/
import Derived.Test.YtgmmcfnahfcadaaDoorLift
import Derived.Test.YtgmmcfnahfcadaaDoorLawu
namespace Go.Proofs.YtgmmcfnahfcadaaDoor
open Go.ChangeShapes Go.WideShapes Go.ChangeAt Go.RowKit

theorem finest_any {w : World} {n y : Int} (hT : Tabs w) (h1 : -9223372036854775808 ≤ n) (h2 : n ≤ 9223372036854775807) (h3 : -9223372036854775808 ≤ y) (h4 : y ≤ 9223372036854775807) :
    Calls Tryd.prog 10 #[I n, I y] w fun e w' => e = .returned (.bool true) ∧ Ext w w' := finest_true hT h1 h2 h3 h4

theorem int_range {n : Int} (h : (Lit.int .i64 n).wf = true) : -9223372036854775808 ≤ n ∧ n ≤ 9223372036854775807 := by simp [Lit.wf, IntKind.min, IntKind.max, IntKind.signed, IntKind.bits] at h; omega

set_option maxRecDepth 100000 in
theorem dyadicFinest_walked : WalkedT 10 Tryd.f10 := by
  intro H enc W base args ds p hT hval hA
  rw [Tryd.params10] at hA hval
  obtain ⟨v0, v1, d0, d1, p0, p1, hargs, rfl, rfl, h0, h1⟩ := trodAll_two hA
  obtain rfl : args = #[v0, v1] := by cases args; simp_all
  obtain ⟨n, rfl, rfl, rfl, wn⟩ := open_int Tryd.underlying3 (hval 0 3 v0 rfl rfl) h0
  obtain ⟨y, rfl, rfl, rfl, wy⟩ := open_int Tryd.underlying3 (hval 1 3 v1 rfl rfl) h1
  exact finest_any hT (int_range wn).1 (int_range wn).2 (int_range wy).1 (int_range wy).2

set_option maxRecDepth 100000 in
theorem dyadicFinest_holds : Rows.DyadicFinestSaid :=
  OpenClaim.holds_of_wide 10 Tryd.f10 rfl rfl rfl rfl rfl rfl rfl ⟨rfl, rfl, rfl, rfl, rfl⟩ rfl rfl rfl rfl rfl (by kernel_rfl) Tryd.func10 (by kernel_rfl)
    (of_decide_eq_true (by kernel_rfl)) (by unfold Func.isWrapper; first | (rw [if_pos (by decide +kernel)]; kernel_rfl) | (rw [if_neg (by decide +kernel)]; exact ⟨rfl, rfl⟩))
    (fun os started H enc _ => law_liftedT (s := Rows.dyadicFinestSpec) started Tryd.func10 (by kernel_rfl) (by kernel_rfl) rfl (by kernel_rfl)
      (fun ds hl => by
        have hl' : ds.length = 2 := hl
        match ds, hl' with
        | [d0, d1], _ => exact ⟨rfl, rfl, rfl⟩)
      #[I 0, I 0] (by kernel_rfl) (by kernel_rfl) (by kernel_rfl) dyadicFinest_walked)

set_option maxRecDepth 100000 in
theorem dyadicFinest_plain (f : FuncId) (fn : Func) (hf : Tryd.pinned.checked.prog.funcNamed Rows.dyadicFinestRow.func = some f) (hfn : Tryd.pinned.checked.prog.funcs[f]? = some fn) :
    true = Tryd.pinned.checked.prog.looks [] ∧ ∀ (j : Nat) t, fn.params[j]? = some t → Tryd.pinned.checked.prog.wantsStandIn t = false := by
  obtain rfl : f = 10 := Option.some.inj ((show Tryd.prog.funcNamed Rows.dyadicFinestRow.func = some 10 by kernel_rfl).symm.trans hf) |>.symm
  obtain rfl : fn = Tryd.f10 := (Option.some.inj (Tryd.func10.symm.trans hfn)).symm
  refine ⟨by kernel_rfl, fun j t ht => ?_⟩
  rw [Tryd.params10] at ht
  obtain rfl : t = 3 := by simpa using Array.mem_of_getElem? ht
  exact (show Tryd.prog.wantsStandIn 3 = false by kernel_rfl)

theorem dyadicFinest_card : Rows.DyadicFinestCardSaid :=
  Claim7.holds_tied_plain_at .later [] _ _ _ _ dyadicFinest_holds (fun _ h => by cases h) (by kernel_rfl) (fun _ h => by cases h) dyadicFinest_row_tie rfl ⟨rfl, rfl⟩ (by kernel_rfl) rfl dyadicFinest_plain (by kernel_rfl)

end Go.Proofs.YtgmmcfnahfcadaaDoor
