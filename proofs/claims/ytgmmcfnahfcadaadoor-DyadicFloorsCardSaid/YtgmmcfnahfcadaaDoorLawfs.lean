/- The given statement: DyadicFloors: its card. -/
import Derived.Test.YtgmmcfnahfcadaaDoorLift
import Derived.Test.YtgmmcfnahfcadaaDoorLawg
import Derived.Test.YtgmmcfnahfcadaaDoorLawf
namespace Go.Proofs.YtgmmcfnahfcadaaDoor
open Go.ChangeShapes Go.WideShapes Go.ChangeAt Go.RowKit

theorem floors_any {w : World} {na : Bool} {A : Option Addr} {a0 a1 : Nat} {da : Int} {fa : Nat → Nat} {nn : Int} (hT : Tabs w) (ra : Rd w A a0 fa) (oa : SlOk A a0 a1) (ba : ∀ i, i < a0 → fa i < 4294967296) (_hn1 : -9223372036854775808 ≤ nn) (_hn2 : nn ≤ 9223372036854775807) :
    Calls Tryd.prog 7 #[dv na A a0 a1 da, I nn] w fun e w' => e = .returned (.bool true) ∧ Ext w w' := by
  by_cases h : fewOk a0 da
  · have h' := h
    obtain ⟨ka, _⟩ := h'
    have ha_ : Dy w na A a0 a1 da _ _ _ := Dy.any ra oa ba (by omega)
    by_cases h3 : 400 < nn ∧ nn ≤ 65536
    · exact floors_off2 hT h h3.1 h3.2
    · by_cases h4 : nn < 0 ∨ 65536 < nn
      · exact floors_bad ha_ hT nn h4 h
      · obtain ⟨k, rfl⟩ : ∃ k : Nat, nn = (k : Int) := ⟨nn.toNat, by omega⟩
        exact floors_true ha_ hT k (by omega) h (sm_of ha_.wf ba h)
  · exact floors_off hT h

theorem int_range {n : Int} (h : (Lit.int .i64 n).wf = true) : -9223372036854775808 ≤ n ∧ n ≤ 9223372036854775807 := by simp [Lit.wf, IntKind.min, IntKind.max, IntKind.signed, IntKind.bits] at h; omega

set_option maxRecDepth 100000 in
theorem dyadicFloors_walked : WalkedT 7 Tryd.f7 := by
  intro H enc W base args ds p hT hval hA
  rw [Tryd.params7] at hA hval
  obtain ⟨v0, v1, d0, d1, p0, p1, hargs, rfl, rfl, h0, h1⟩ := trodAll_two hA
  obtain rfl : args = #[v0, v1] := by cases args; simp_all
  obtain ⟨na, A, a0, a1, da, fa, rfl, ra, oa, ba, _⟩ := open_dy (hval 0 24 v0 rfl rfl) h0
  obtain ⟨nn, rfl, rfl, rfl, wnn⟩ := open_int Tryd.underlying3 (hval 1 3 v1 rfl rfl) h1
  exact floors_any hT ra oa ba (int_range wnn).1 (int_range wnn).2

set_option maxRecDepth 100000 in
theorem dyadicFloors_holds : Rows.DyadicFloorsSaid :=
  OpenClaim.holds_of_wide 7 Tryd.f7 rfl rfl rfl rfl rfl rfl rfl ⟨rfl, rfl, rfl, rfl, rfl⟩ rfl rfl rfl rfl rfl (by kernel_rfl) Tryd.func7 (by kernel_rfl)
    (of_decide_eq_true (by kernel_rfl)) (by unfold Func.isWrapper; first | (rw [if_pos (by decide +kernel)]; kernel_rfl) | (rw [if_neg (by decide +kernel)]; exact ⟨rfl, rfl⟩))
    (fun os started H enc _ => law_liftedT (s := Rows.dyadicFloorsSpec) started Tryd.func7 (by kernel_rfl) (by kernel_rfl) rfl (by kernel_rfl)
      (fun ds hl => by
        have hl' : ds.length = 2 := hl
        match ds, hl' with
        | [d0, d1], _ => exact ⟨rfl, rfl, rfl⟩)
      #[dv false none 0 0 0, I 0] (by kernel_rfl) (by kernel_rfl) (by kernel_rfl) dyadicFloors_walked)

set_option maxRecDepth 100000 in
theorem dyadicFloors_plain (f : FuncId) (fn : Func) (hf : Tryd.pinned.checked.prog.funcNamed Rows.dyadicFloorsRow.func = some f) (hfn : Tryd.pinned.checked.prog.funcs[f]? = some fn) :
    true = Tryd.pinned.checked.prog.looks [] ∧ ∀ (j : Nat) t, fn.params[j]? = some t → Tryd.pinned.checked.prog.wantsStandIn t = false := by
  obtain rfl : f = 7 := Option.some.inj ((show Tryd.prog.funcNamed Rows.dyadicFloorsRow.func = some 7 by kernel_rfl).symm.trans hf) |>.symm
  obtain rfl : fn = Tryd.f7 := (Option.some.inj (Tryd.func7.symm.trans hfn)).symm
  refine ⟨by kernel_rfl, fun j t ht => ?_⟩
  rw [Tryd.params7] at ht
  have : t = 24 ∨ t = 3 := by simpa using Array.mem_of_getElem? ht
  rcases this with rfl | rfl
  · exact (show Tryd.prog.wantsStandIn 24 = false by kernel_rfl)
  · exact (show Tryd.prog.wantsStandIn 3 = false by kernel_rfl)

theorem dyadicFloors_card : Rows.DyadicFloorsCardSaid :=
  Claim7.holds_tied_plain_at .later [] _ _ _ _ dyadicFloors_holds (fun _ h => by cases h) (by kernel_rfl) (fun _ h => by cases h) dyadicFloors_row_tie rfl ⟨rfl, rfl⟩ (by kernel_rfl) rfl dyadicFloors_plain (by kernel_rfl)

end Go.Proofs.YtgmmcfnahfcadaaDoor
