/- The given statement: DyadicTexts: its card. -/
import Derived.Test.YtimpgdkeiopboaaGreatDoorLiftx
import Derived.Test.YtimpgdkeiopboaaGreatDoorLwt
namespace Go.Proofs.YtimpgdkeiopboaaGreatDoor
open Go.ChangeShapes Go.WideShapes Go.ChangeAt Go.RowKit

theorem texts_any {w : World} {na : Bool} {A : Option Addr} {a0 a1 : Nat} {da : Int} {fa : Nat → Nat} (hT : Tabs w) (hP : TabP w) (hE : Errs w) (ra : Rd w A a0 fa) (oa : SlOk A a0 a1) (ba : ∀ i, i < a0 → fa i < 4294967296) :
    Calls Tryz.prog 3 #[dv na A a0 a1 da] w fun e w' => e = .returned (.bool true) ∧ Ext w w' := by
  by_cases h : fewOk a0 da
  · have h' := h
    obtain ⟨ka, _⟩ := h'
    have ha_ : Dy w na A a0 a1 da _ _ _ := Dy.any ra oa ba (by omega)
    exact texts_true ha_ hT hP hE h (sm_of ha_.wf ba h)
  · exact texts_off hT h

set_option maxRecDepth 100000 in
theorem dyadicTexts_walked : WalkedX 3 Tryz.f3 := by
  intro H enc W base args ds p hT hP hE hval hA
  rw [Tryz.params3] at hA hval
  obtain ⟨v0, d0, hargs, rfl, h0⟩ := trodAll_one hA
  obtain rfl : args = #[v0] := by cases args; simp_all
  obtain ⟨na, A, a0, a1, da, fa, rfl, ra, oa, ba, _⟩ := open_dy (hval 0 24 v0 rfl rfl) h0
  exact texts_any hT hP hE ra oa ba

set_option maxRecDepth 100000 in
theorem dyadicTexts_holds : Rows.DyadicTextsSaid :=
  OpenClaim.holds_of_wide 3 Tryz.f3 rfl rfl rfl rfl rfl rfl rfl ⟨rfl, rfl, rfl, rfl, rfl⟩ rfl rfl rfl rfl rfl (by kernel_rfl) Tryz.func3 (by kernel_rfl)
    (of_decide_eq_true (by kernel_rfl)) (by unfold Func.isWrapper; first | (rw [if_pos (by decide +kernel)]; kernel_rfl) | (rw [if_neg (by decide +kernel)]; exact ⟨rfl, rfl⟩))
    (fun os started H enc _ => law_liftedX (s := Rows.dyadicTextsSpec) started Tryz.func3 (by kernel_rfl) (by kernel_rfl) rfl (by kernel_rfl)
      (fun ds hl => by
        have hl' : ds.length = 1 := hl
        match ds, hl' with
        | [d0], _ => exact ⟨rfl, rfl, rfl⟩)
      #[dv false none 0 0 0] (by kernel_rfl) (by kernel_rfl) (by kernel_rfl) dyadicTexts_walked)

set_option maxRecDepth 100000 in
theorem dyadicTexts_plain (f : FuncId) (fn : Func) (hf : Tryz.pinned.checked.prog.funcNamed Rows.dyadicTextsRow.func = some f) (hfn : Tryz.pinned.checked.prog.funcs[f]? = some fn) :
    true = Tryz.pinned.checked.prog.looks [] ∧ ∀ (j : Nat) t, fn.params[j]? = some t → Tryz.pinned.checked.prog.wantsStandIn t = false := by
  obtain rfl : f = 3 := Option.some.inj ((show Tryz.prog.funcNamed Rows.dyadicTextsRow.func = some 3 by kernel_rfl).symm.trans hf) |>.symm
  obtain rfl : fn = Tryz.f3 := (Option.some.inj (Tryz.func3.symm.trans hfn)).symm
  refine ⟨by kernel_rfl, fun j t ht => ?_⟩
  rw [Tryz.params3] at ht
  obtain rfl : t = 24 := by simpa using Array.mem_of_getElem? ht
  exact (show Tryz.prog.wantsStandIn 24 = false by kernel_rfl)

theorem dyadicTexts_card : Rows.DyadicTextsCardSaid :=
  Claim7.holds_tied_plain_at .later [] _ _ _ _ dyadicTexts_holds (fun _ h => by cases h) (by kernel_rfl) (fun _ h => by cases h) dyadicTexts_row_tie rfl ⟨rfl, rfl⟩ (by kernel_rfl) rfl dyadicTexts_plain (by kernel_rfl)

end Go.Proofs.YtimpgdkeiopboaaGreatDoor
