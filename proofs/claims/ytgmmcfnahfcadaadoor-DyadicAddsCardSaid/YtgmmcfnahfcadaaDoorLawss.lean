/- The given statement: DyadicAdds: its card. -/
import Derived.Test.YtgmmcfnahfcadaaDoorLift
import Derived.Test.YtgmmcfnahfcadaaDoorLaws
namespace Go.Proofs.YtgmmcfnahfcadaaDoor
open Go.ChangeShapes Go.WideShapes Go.ChangeAt Go.RowKit

theorem adds_any {w : World} {na nb : Bool} {A B : Option Addr} {a0 a1 b0 b1 : Nat} {da db : Int} {fa fb : Nat → Nat} (hT : Tabs w) (ra : Rd w A a0 fa) (oa : SlOk A a0 a1) (ba : ∀ i, i < a0 → fa i < 4294967296) (rb : Rd w B b0 fb) (ob : SlOk B b0 b1) (bb : ∀ i, i < b0 → fb i < 4294967296) :
    Calls Tryd.prog 4 #[dv na A a0 a1 da, dv nb B b0 b1 db] w fun e w' => e = .returned (.bool true) ∧ Ext w w' := by
  by_cases h : fewOk a0 da ∧ fewOk b0 db
  · have h' := h
    obtain ⟨⟨ka, _⟩, ⟨kb, _⟩⟩ := h'
    have ha_ : Dy w na A a0 a1 da _ _ _ := Dy.any ra oa ba (by omega)
    have hb_ : Dy w nb B b0 b1 db _ _ _ := Dy.any rb ob bb (by omega)
    exact adds_true ha_ hb_ hT h.1 h.2 (sm_of ha_.wf ba h.1) (sm_of hb_.wf bb h.2)
  · exact adds_off hT h

set_option maxRecDepth 100000 in
theorem dyadicAdds_walked : WalkedT 4 Tryd.f4 := by
  intro H enc W base args ds p hT hval hA
  rw [Tryd.params4] at hA hval
  obtain ⟨v0, v1, d0, d1, p0, p1, hargs, rfl, rfl, h0, h1⟩ := trodAll_two hA
  obtain rfl : args = #[v0, v1] := by cases args; simp_all
  obtain ⟨na, A, a0, a1, da, fa, rfl, ra, oa, ba, _⟩ := open_dy (hval 0 24 v0 rfl rfl) h0
  obtain ⟨nb, B, b0, b1, db, fb, rfl, rb, ob, bb, _⟩ := open_dy (hval 1 24 v1 rfl rfl) h1
  exact adds_any hT ra oa ba rb ob bb

set_option maxRecDepth 100000 in
theorem dyadicAdds_holds : Rows.DyadicAddsSaid :=
  OpenClaim.holds_of_wide 4 Tryd.f4 rfl rfl rfl rfl rfl rfl rfl ⟨rfl, rfl, rfl, rfl, rfl⟩ rfl rfl rfl rfl rfl (by kernel_rfl) Tryd.func4 (by kernel_rfl)
    (of_decide_eq_true (by kernel_rfl)) (by unfold Func.isWrapper; first | (rw [if_pos (by decide +kernel)]; kernel_rfl) | (rw [if_neg (by decide +kernel)]; exact ⟨rfl, rfl⟩))
    (fun os started H enc _ => law_liftedT (s := Rows.dyadicAddsSpec) started Tryd.func4 (by kernel_rfl) (by kernel_rfl) rfl (by kernel_rfl)
      (fun ds hl => by
        have hl' : ds.length = 2 := hl
        match ds, hl' with
        | [d0, d1], _ => exact ⟨rfl, rfl, rfl⟩)
      #[dv false none 0 0 0, dv false none 0 0 0] (by kernel_rfl) (by kernel_rfl) (by kernel_rfl) dyadicAdds_walked)

set_option maxRecDepth 100000 in
theorem dyadicAdds_plain (f : FuncId) (fn : Func) (hf : Tryd.pinned.checked.prog.funcNamed Rows.dyadicAddsRow.func = some f) (hfn : Tryd.pinned.checked.prog.funcs[f]? = some fn) :
    true = Tryd.pinned.checked.prog.looks [] ∧ ∀ (j : Nat) t, fn.params[j]? = some t → Tryd.pinned.checked.prog.wantsStandIn t = false := by
  obtain rfl : f = 4 := Option.some.inj ((show Tryd.prog.funcNamed Rows.dyadicAddsRow.func = some 4 by kernel_rfl).symm.trans hf) |>.symm
  obtain rfl : fn = Tryd.f4 := (Option.some.inj (Tryd.func4.symm.trans hfn)).symm
  refine ⟨by kernel_rfl, fun j t ht => ?_⟩
  rw [Tryd.params4] at ht
  obtain rfl : t = 24 := by simpa using Array.mem_of_getElem? ht
  exact (show Tryd.prog.wantsStandIn 24 = false by kernel_rfl)

theorem dyadicAdds_card : Rows.DyadicAddsCardSaid :=
  Claim7.holds_tied_plain_at .later [] _ _ _ _ dyadicAdds_holds (fun _ h => by cases h) (by kernel_rfl) (fun _ h => by cases h) dyadicAdds_row_tie rfl ⟨rfl, rfl⟩ (by kernel_rfl) rfl dyadicAdds_plain (by kernel_rfl)

end Go.Proofs.YtgmmcfnahfcadaaDoor
