/- The given statement: DyadicRings: its card. -/
import Derived.Test.YtbghikgagejbiaaDoorLiftd
import Derived.Test.YtbghikgagejbiaaDoorLawr
namespace Go.Proofs.YtbghikgagejbiaaDoor
open Go.ChangeShapes Go.WideShapes Go.ChangeAt Go.RowKit

theorem rings_any {w : World} {na nb nc : Bool} {A B C : Option Addr} {n ca m cb l cc : Nat} {da db dc : Int} {fa fb fc : Nat → Nat} (hT : Tabs w) (ra : Rd w A n fa) (oa : SlOk A n ca) (ba : ∀ i, i < n → fa i < 4294967296)
    (rb : Rd w B m fb) (ob : SlOk B m cb) (bb : ∀ i, i < m → fb i < 4294967296) (rc : Rd w C l fc) (oc : SlOk C l cc) (bc : ∀ i, i < l → fc i < 4294967296) :
    Calls Tryd.prog 6 #[dv na A n ca da, dv nb B m cb db, dv nc C l cc dc] w fun e w' => e = .returned (.bool true) ∧ Ext w w' := by
  by_cases h : fewOk n da ∧ fewOk m db ∧ fewOk l dc
  · have h' := h
    obtain ⟨⟨ka, _⟩, ⟨kb, _⟩, kc, _⟩ := h'
    have ha : Dy w na A n ca da _ _ _ := Dy.any ra oa ba (by omega)
    have hb : Dy w nb B m cb db _ _ _ := Dy.any rb ob bb (by omega)
    have hc : Dy w nc C l cc dc _ _ _ := Dy.any rc oc bc (by omega)
    exact rings_true ha hb hc hT h.1 h.2.1 h.2.2 (sm_of ha.wf ba h.1) (sm_of hb.wf bb h.2.1) (sm_of hc.wf bc h.2.2)
  · exact rings_off hT h

set_option maxRecDepth 100000 in
theorem dyadicRings_walked : WalkedT 6 Tryd.f6 := by
  intro H enc W base args ds p hT hval hA
  rw [Tryd.params6] at hA hval
  obtain ⟨v0, v1, v2, d0, d1, d2, p0, p1, p2, hargs, rfl, rfl, h0, h1, h2⟩ := trodAll_three hA
  obtain rfl : args = #[v0, v1, v2] := by cases args; simp_all
  obtain ⟨na, A, n, ca, da, fa, rfl, ra, oa, ba, _⟩ := open_dy (hval 0 24 v0 rfl rfl) h0
  obtain ⟨nb, B, m, cb, db, fb, rfl, rb, ob, bb, _⟩ := open_dy (hval 1 24 v1 rfl rfl) h1
  obtain ⟨nc, C, l, cc, dc, fc, rfl, rc, oc, bc, _⟩ := open_dy (hval 2 24 v2 rfl rfl) h2
  exact rings_any hT ra oa ba rb ob bb rc oc bc

set_option maxRecDepth 100000 in
theorem dyadicRings_holds : Rows.DyadicRingsSaid :=
  OpenClaim.holds_of_wide 6 Tryd.f6 rfl rfl rfl rfl rfl rfl rfl ⟨rfl, rfl, rfl, rfl, rfl⟩ rfl rfl rfl rfl rfl (by kernel_rfl) Tryd.func6 (by kernel_rfl)
    (of_decide_eq_true (by kernel_rfl)) (by unfold Func.isWrapper; first | (rw [if_pos (by decide +kernel)]; kernel_rfl) | (rw [if_neg (by decide +kernel)]; exact ⟨rfl, rfl⟩))
    (fun os started H enc _ => law_liftedT (s := Rows.dyadicRingsSpec) started Tryd.func6 (by kernel_rfl) (by kernel_rfl) rfl (by kernel_rfl)
      (fun ds hl => by
        have hl' : ds.length = 3 := hl
        match ds, hl' with
        | [d0, d1, d2], _ => exact ⟨rfl, rfl, rfl⟩)
      #[dv false none 0 0 0, dv false none 0 0 0, dv false none 0 0 0] (by kernel_rfl) (by kernel_rfl) (by kernel_rfl) dyadicRings_walked)

set_option maxRecDepth 100000 in
theorem dyadicRings_plain (f : FuncId) (fn : Func) (hf : Tryd.pinned.checked.prog.funcNamed Rows.dyadicRingsRow.func = some f) (hfn : Tryd.pinned.checked.prog.funcs[f]? = some fn) :
    true = Tryd.pinned.checked.prog.looks [] ∧ ∀ (j : Nat) t, fn.params[j]? = some t → Tryd.pinned.checked.prog.wantsStandIn t = false := by
  obtain rfl : f = 6 := Option.some.inj ((show Tryd.prog.funcNamed Rows.dyadicRingsRow.func = some 6 by kernel_rfl).symm.trans hf) |>.symm
  obtain rfl : fn = Tryd.f6 := (Option.some.inj (Tryd.func6.symm.trans hfn)).symm
  refine ⟨by kernel_rfl, fun j t ht => ?_⟩
  rw [Tryd.params6] at ht
  obtain rfl : t = 24 := by simpa using Array.mem_of_getElem? ht
  exact (show Tryd.prog.wantsStandIn 24 = false by kernel_rfl)

theorem dyadicRings_card : Rows.DyadicRingsCardSaid :=
  Claim7.holds_tied_plain_at .later [] _ _ _ _ dyadicRings_holds (fun _ h => by cases h) (by kernel_rfl) (fun _ h => by cases h) dyadicRings_row_tie rfl ⟨rfl, rfl⟩ (by kernel_rfl) rfl dyadicRings_plain (by kernel_rfl)

end Go.Proofs.YtbghikgagejbiaaDoor
