/- The given statement: DyadicValid: its card. -/
import Derived.Test.YtaljininilaemaaDoorLiftp
import Derived.Test.YtaljininilaemaaDoorLawv
namespace Go.Proofs.YtaljininilaemaaDoor
open Go.ChangeShapes Go.WideShapes Go.ChangeAt Go.RowKit

set_option maxRecDepth 100000 in
set_option maxHeartbeats 1000000 in
theorem validL_off {w : World} {na nb : Bool} {A B : Option Addr} {a0 a1 b0 b1 : Nat} {da db : Int} (hT : Tabs w) (h : ¬ (fewOk a0 da ∧ fewOk b0 db)) :
    Calls Tryd.prog 3 #[dv na A a0 a1 da, dv nb B b0 b1 db] w fun e w' => e = .returned (.bool true) ∧ Ext w w' := by
  have HT := Lib.hid hT; clear hT
  have HFW := Lib.hid (few2_not h)
  clear h
  go_enter Tryd.func3, Tryd.ntmps3
  go_wp2_with fail
  have HN := Lib.hid (nums2 ((w.alloc (.cells #[.bool na, .slice A a0 a1, I da] 24)).alloc (.cells #[.bool nb, .slice B b0 b1, I db] 24)) (w.heap.size + 1 + 1) (by simp) na nb A B a0 b0 a1 b1 da db 24)
  with_reducible refine (few_false HN.out (by simp) (by omega) HFW.out).mono ?_
  rintro e wf ⟨rfl, hx⟩
  have HEF : Hid (Ext w wf) := ((((Ext.alloc _ _).trans (Ext.alloc _ _)).trans (Ext.alloc _ _))).trans hx
  clear hx
  go_wp2_with fail
  refine (awake_any _ (HT.out.ext HEF.out)).mono ?_
  rintro e w0 ⟨rfl, hx⟩
  have HEW := Lib.hid (HEF.out.trans hx)
  clear hx
  go_wp2_with fail
  go_ret
  exact ⟨rfl, HEW.out⟩

theorem validL_any {w : World} {na nb : Bool} {A B : Option Addr} {a0 a1 b0 b1 : Nat} {da db : Int} {fa fb : Nat → Nat} (hT : Tabs w) (hP : TabP w) (ra : Rd w A a0 fa) (oa : SlOk A a0 a1) (ba : ∀ i, i < a0 → fa i < 4294967296) (rb : Rd w B b0 fb) (ob : SlOk B b0 b1) (bb : ∀ i, i < b0 → fb i < 4294967296) :
    Calls Tryd.prog 3 #[dv na A a0 a1 da, dv nb B b0 b1 db] w fun e w' => e = .returned (.bool true) ∧ Ext w w' := by
  by_cases h : fewOk a0 da ∧ fewOk b0 db
  · have h' := h
    obtain ⟨⟨ka, _⟩, ⟨kb, _⟩⟩ := h'
    have ha_ : Dy w na A a0 a1 da _ _ _ := Dy.any ra oa ba (by omega)
    have hb_ : Dy w nb B b0 b1 db _ _ _ := Dy.any rb ob bb (by omega)
    have sa := sm_of ha_.wf ba h.1
    have sb := sm_of hb_.wf bb h.2
    obtain ⟨dq, ev, nu, hdq, hld, hQ, hNu⟩ := quo_is (nrA na a0 fa da) (nrA nb b0 fb db) sa.2.1 sb.2.2
    exact valid_true ha_ hb_ hT hP h.1 h.2 sa sb (va := vld na a0 fa da) (vb := vld nb b0 fb db) (fun w' e => valid_any _ _ _ _ _ _ _ (ra.ext e) ba (by omega)) (fun w' e => rvalid_any _ _ _ _ _ _ _ (ra.ext e) ba (by omega)) (fun w' e => valid_any _ _ _ _ _ _ _ (rb.ext e) bb (by omega)) (fun w' e => rvalid_any _ _ _ _ _ _ _ (rb.ext e) bb (by omega)) hdq hld hQ hNu
  · exact validL_off hT h

set_option maxRecDepth 100000 in
theorem dyadicValid_walked : WalkedP 3 Tryd.f3 := by
  intro H enc W base args ds p hT hP hval hA
  rw [Tryd.params3] at hA hval
  obtain ⟨v0, v1, d0, d1, p0, p1, hargs, rfl, rfl, h0, h1⟩ := trodAll_two hA
  obtain rfl : args = #[v0, v1] := by cases args; simp_all
  obtain ⟨na, A, a0, a1, da, fa, rfl, ra, oa, ba, _⟩ := open_dy (hval 0 24 v0 rfl rfl) h0
  obtain ⟨nb, B, b0, b1, db, fb, rfl, rb, ob, bb, _⟩ := open_dy (hval 1 24 v1 rfl rfl) h1
  exact validL_any hT hP ra oa ba rb ob bb

set_option maxRecDepth 100000 in
theorem dyadicValid_holds : Rows.DyadicValidSaid :=
  OpenClaim.holds_of_wide 3 Tryd.f3 rfl rfl rfl rfl rfl rfl rfl ⟨rfl, rfl, rfl, rfl, rfl⟩ rfl rfl rfl rfl rfl (by kernel_rfl) Tryd.func3 (by kernel_rfl)
    (of_decide_eq_true (by kernel_rfl)) (by unfold Func.isWrapper; first | (rw [if_pos (by decide +kernel)]; kernel_rfl) | (rw [if_neg (by decide +kernel)]; exact ⟨rfl, rfl⟩))
    (fun os started H enc _ => law_liftedP (s := Rows.dyadicValidSpec) started Tryd.func3 (by kernel_rfl) (by kernel_rfl) rfl (by kernel_rfl)
      (fun ds hl => by
        have hl' : ds.length = 2 := hl
        match ds, hl' with
        | [d0, d1], _ => exact ⟨rfl, rfl, rfl⟩)
      #[dv false none 0 0 0, dv false none 0 0 0] (by kernel_rfl) (by kernel_rfl) (by kernel_rfl) dyadicValid_walked)

set_option maxRecDepth 100000 in
theorem dyadicValid_plain (f : FuncId) (fn : Func) (hf : Tryd.pinned.checked.prog.funcNamed Rows.dyadicValidRow.func = some f) (hfn : Tryd.pinned.checked.prog.funcs[f]? = some fn) :
    true = Tryd.pinned.checked.prog.looks [] ∧ ∀ (j : Nat) t, fn.params[j]? = some t → Tryd.pinned.checked.prog.wantsStandIn t = false := by
  obtain rfl : f = 3 := Option.some.inj ((show Tryd.prog.funcNamed Rows.dyadicValidRow.func = some 3 by kernel_rfl).symm.trans hf) |>.symm
  obtain rfl : fn = Tryd.f3 := (Option.some.inj (Tryd.func3.symm.trans hfn)).symm
  refine ⟨by kernel_rfl, fun j t ht => ?_⟩
  rw [Tryd.params3] at ht
  obtain rfl : t = 24 := by simpa using Array.mem_of_getElem? ht
  exact (show Tryd.prog.wantsStandIn 24 = false by kernel_rfl)

theorem dyadicValid_card : Rows.DyadicValidCardSaid :=
  Claim7.holds_tied_plain_at .later [] _ _ _ _ dyadicValid_holds (fun _ h => by cases h) (by kernel_rfl) (fun _ h => by cases h) dyadicValid_row_tie rfl ⟨rfl, rfl⟩ (by kernel_rfl) rfl dyadicValid_plain (by kernel_rfl)

end Go.Proofs.YtaljininilaemaaDoor
