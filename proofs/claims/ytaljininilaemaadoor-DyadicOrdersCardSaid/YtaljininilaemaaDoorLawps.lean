/- The given statement: DyadicOrders: its card. -/
import Derived.Test.YtaljininilaemaaDoorLiftp
import Derived.Test.YtaljininilaemaaDoorLawp
import Derived.Test.YtaljininilaemaaDoorLawq
namespace Go.Proofs.YtaljininilaemaaDoor
open Go.ChangeShapes Go.WideShapes Go.ChangeAt Go.RowKit

theorem orders_any {w : World} {na nb nc : Bool} {A B C : Option Addr} {a0 a1 b0 b1 c0 c1 : Nat} {da db dc : Int} {fa fb fc : Nat → Nat} (hT : Tabs w) (hP : TabP w) (ra : Rd w A a0 fa) (oa : SlOk A a0 a1) (ba : ∀ i, i < a0 → fa i < 4294967296) (rb : Rd w B b0 fb) (ob : SlOk B b0 b1) (bb : ∀ i, i < b0 → fb i < 4294967296) (rc : Rd w C c0 fc) (oc : SlOk C c0 c1) (bc : ∀ i, i < c0 → fc i < 4294967296) :
    Calls Tryd.prog 4 #[dv na A a0 a1 da, dv nb B b0 b1 db, dv nc C c0 c1 dc] w fun e w' => e = .returned (.bool true) ∧ Ext w w' := by
  by_cases h : fewOk a0 da ∧ fewOk b0 db ∧ fewOk c0 dc
  · have h' := h
    obtain ⟨⟨ka, _⟩, ⟨kb, _⟩, ⟨kc, _⟩⟩ := h'
    have ha_ : Dy w na A a0 a1 da _ _ _ := Dy.any ra oa ba (by omega)
    have hb_ : Dy w nb B b0 b1 db _ _ _ := Dy.any rb ob bb (by omega)
    have hc_ : Dy w nc C c0 c1 dc _ _ _ := Dy.any rc oc bc (by omega)
    by_cases h0 : cmpD (nrA na a0 fa da) (nrA nb b0 fb db) = 0
    · exact orders_eq ha_ hb_ hc_ hT h.1 h.2.1 h.2.2 (sm_of ha_.wf ba h.1) (sm_of hb_.wf bb h.2.1) (sm_of hc_.wf bc h.2.2) hP h0
    · exact orders_ne ha_ hb_ hc_ hT h.1 h.2.1 h.2.2 (sm_of ha_.wf ba h.1) (sm_of hb_.wf bb h.2.1) (sm_of hc_.wf bc h.2.2) hP h0
  · exact orders_off hT h

set_option maxRecDepth 100000 in
theorem dyadicOrders_walked : WalkedP 4 Tryd.f4 := by
  intro H enc W base args ds p hT hP hval hA
  rw [Tryd.params4] at hA hval
  obtain ⟨v0, v1, v2, d0, d1, d2, p0, p1, p2, hargs, rfl, rfl, h0, h1, h2⟩ := trodAll_three hA
  obtain rfl : args = #[v0, v1, v2] := by cases args; simp_all
  obtain ⟨na, A, a0, a1, da, fa, rfl, ra, oa, ba, _⟩ := open_dy (hval 0 24 v0 rfl rfl) h0
  obtain ⟨nb, B, b0, b1, db, fb, rfl, rb, ob, bb, _⟩ := open_dy (hval 1 24 v1 rfl rfl) h1
  obtain ⟨nc, C, c0, c1, dc, fc, rfl, rc, oc, bc, _⟩ := open_dy (hval 2 24 v2 rfl rfl) h2
  exact orders_any hT hP ra oa ba rb ob bb rc oc bc

set_option maxRecDepth 100000 in
theorem dyadicOrders_holds : Rows.DyadicOrdersSaid :=
  OpenClaim.holds_of_wide 4 Tryd.f4 rfl rfl rfl rfl rfl rfl rfl ⟨rfl, rfl, rfl, rfl, rfl⟩ rfl rfl rfl rfl rfl (by kernel_rfl) Tryd.func4 (by kernel_rfl)
    (of_decide_eq_true (by kernel_rfl)) (by unfold Func.isWrapper; first | (rw [if_pos (by decide +kernel)]; kernel_rfl) | (rw [if_neg (by decide +kernel)]; exact ⟨rfl, rfl⟩))
    (fun os started H enc _ => law_liftedP (s := Rows.dyadicOrdersSpec) started Tryd.func4 (by kernel_rfl) (by kernel_rfl) rfl (by kernel_rfl)
      (fun ds hl => by
        have hl' : ds.length = 3 := hl
        match ds, hl' with
        | [d0, d1, d2], _ => exact ⟨rfl, rfl, rfl⟩)
      #[dv false none 0 0 0, dv false none 0 0 0, dv false none 0 0 0] (by kernel_rfl) (by kernel_rfl) (by kernel_rfl) dyadicOrders_walked)

set_option maxRecDepth 100000 in
theorem dyadicOrders_plain (f : FuncId) (fn : Func) (hf : Tryd.pinned.checked.prog.funcNamed Rows.dyadicOrdersRow.func = some f) (hfn : Tryd.pinned.checked.prog.funcs[f]? = some fn) :
    true = Tryd.pinned.checked.prog.looks [] ∧ ∀ (j : Nat) t, fn.params[j]? = some t → Tryd.pinned.checked.prog.wantsStandIn t = false := by
  obtain rfl : f = 4 := Option.some.inj ((show Tryd.prog.funcNamed Rows.dyadicOrdersRow.func = some 4 by kernel_rfl).symm.trans hf) |>.symm
  obtain rfl : fn = Tryd.f4 := (Option.some.inj (Tryd.func4.symm.trans hfn)).symm
  refine ⟨by kernel_rfl, fun j t ht => ?_⟩
  rw [Tryd.params4] at ht
  obtain rfl : t = 24 := by simpa using Array.mem_of_getElem? ht
  exact (show Tryd.prog.wantsStandIn 24 = false by kernel_rfl)

theorem dyadicOrders_card : Rows.DyadicOrdersCardSaid :=
  Claim7.holds_tied_plain_at .later [] _ _ _ _ dyadicOrders_holds (fun _ h => by cases h) (by kernel_rfl) (fun _ h => by cases h) dyadicOrders_row_tie rfl ⟨rfl, rfl⟩ (by kernel_rfl) rfl dyadicOrders_plain (by kernel_rfl)

end Go.Proofs.YtaljininilaemaaDoor
