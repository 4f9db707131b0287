/- The given statement: DyadicMuls: its card. -/
import Derived.Test.YtgmmcfnahfcadaaDoorLift
import Derived.Test.YtgmmcfnahfcadaaDoorLawt
namespace Go.Proofs.YtgmmcfnahfcadaaDoor
open Go.ChangeShapes Go.WideShapes Go.ChangeAt Go.RowKit

theorem muls_any {w : World} {na nb : Bool} {A B : Option Addr} {a0 a1 b0 b1 : Nat} {da db : Int} {fa fb : Nat → Nat} {nn : Int} (hT : Tabs w) (ra : Rd w A a0 fa) (oa : SlOk A a0 a1) (ba : ∀ i, i < a0 → fa i < 4294967296) (rb : Rd w B b0 fb) (ob : SlOk B b0 b1) (bb : ∀ i, i < b0 → fb i < 4294967296) (hn1 : -9223372036854775808 ≤ nn) (hn2 : nn ≤ 9223372036854775807) :
    Calls Tryd.prog 5 #[dv na A a0 a1 da, dv nb B b0 b1 db, I nn] w fun e w' => e = .returned (.bool true) ∧ Ext w w' := by
  by_cases h : fewOk a0 da ∧ fewOk b0 db
  · have h' := h
    obtain ⟨⟨ka, _⟩, ⟨kb, _⟩⟩ := h'
    have ha_ : Dy w na A a0 a1 da _ _ _ := Dy.any ra oa ba (by omega)
    have hb_ : Dy w nb B b0 b1 db _ _ _ := Dy.any rb ob bb (by omega)
    by_cases h3 : (-1099511627776 < nn ∧ nn < -400) ∨ (400 < nn ∧ nn < 1099511627776)
    · exact muls_off2 hT h.1 h.2 h3
    · exact muls_true ha_ hb_ hT h.1 h.2 (sm_of ha_.wf ba h.1) (sm_of hb_.wf bb h.2) hn1 hn2 (by omega)
  · exact muls_off hT h

theorem int_range {n : Int} (h : (Lit.int .i64 n).wf = true) : -9223372036854775808 ≤ n ∧ n ≤ 9223372036854775807 := by simp [Lit.wf, IntKind.min, IntKind.max, IntKind.signed, IntKind.bits] at h; omega

set_option maxRecDepth 100000 in
theorem dyadicMuls_walked : WalkedT 5 Tryd.f5 := by
  intro H enc W base args ds p hT hval hA
  rw [Tryd.params5] at hA hval
  obtain ⟨v0, v1, v2, d0, d1, d2, p0, p1, p2, hargs, rfl, rfl, h0, h1, h2⟩ := trodAll_three hA
  obtain rfl : args = #[v0, v1, v2] := by cases args; simp_all
  obtain ⟨na, A, a0, a1, da, fa, rfl, ra, oa, ba, _⟩ := open_dy (hval 0 24 v0 rfl rfl) h0
  obtain ⟨nb, B, b0, b1, db, fb, rfl, rb, ob, bb, _⟩ := open_dy (hval 1 24 v1 rfl rfl) h1
  obtain ⟨nn, rfl, rfl, rfl, wnn⟩ := open_int Tryd.underlying3 (hval 2 3 v2 rfl rfl) h2
  exact muls_any hT ra oa ba rb ob bb (int_range wnn).1 (int_range wnn).2

set_option maxRecDepth 100000 in
theorem dyadicMuls_holds : Rows.DyadicMulsSaid :=
  OpenClaim.holds_of_wide 5 Tryd.f5 rfl rfl rfl rfl rfl rfl rfl ⟨rfl, rfl, rfl, rfl, rfl⟩ rfl rfl rfl rfl rfl (by kernel_rfl) Tryd.func5 (by kernel_rfl)
    (of_decide_eq_true (by kernel_rfl)) (by unfold Func.isWrapper; first | (rw [if_pos (by decide +kernel)]; kernel_rfl) | (rw [if_neg (by decide +kernel)]; exact ⟨rfl, rfl⟩))
    (fun os started H enc _ => law_liftedT (s := Rows.dyadicMulsSpec) started Tryd.func5 (by kernel_rfl) (by kernel_rfl) rfl (by kernel_rfl)
      (fun ds hl => by
        have hl' : ds.length = 3 := hl
        match ds, hl' with
        | [d0, d1, d2], _ => exact ⟨rfl, rfl, rfl⟩)
      #[dv false none 0 0 0, dv false none 0 0 0, I 0] (by kernel_rfl) (by kernel_rfl) (by kernel_rfl) dyadicMuls_walked)

set_option maxRecDepth 100000 in
theorem dyadicMuls_plain (f : FuncId) (fn : Func) (hf : Tryd.pinned.checked.prog.funcNamed Rows.dyadicMulsRow.func = some f) (hfn : Tryd.pinned.checked.prog.funcs[f]? = some fn) :
    true = Tryd.pinned.checked.prog.looks [] ∧ ∀ (j : Nat) t, fn.params[j]? = some t → Tryd.pinned.checked.prog.wantsStandIn t = false := by
  obtain rfl : f = 5 := Option.some.inj ((show Tryd.prog.funcNamed Rows.dyadicMulsRow.func = some 5 by kernel_rfl).symm.trans hf) |>.symm
  obtain rfl : fn = Tryd.f5 := (Option.some.inj (Tryd.func5.symm.trans hfn)).symm
  refine ⟨by kernel_rfl, fun j t ht => ?_⟩
  rw [Tryd.params5] at ht
  have : t = 24 ∨ t = 3 := by simpa using Array.mem_of_getElem? ht
  rcases this with rfl | rfl
  · exact (show Tryd.prog.wantsStandIn 24 = false by kernel_rfl)
  · exact (show Tryd.prog.wantsStandIn 3 = false by kernel_rfl)

theorem dyadicMuls_card : Rows.DyadicMulsCardSaid :=
  Claim7.holds_tied_plain_at .later [] _ _ _ _ dyadicMuls_holds (fun _ h => by cases h) (by kernel_rfl) (fun _ h => by cases h) dyadicMuls_row_tie rfl ⟨rfl, rfl⟩ (by kernel_rfl) rfl dyadicMuls_plain (by kernel_rfl)

end Go.Proofs.YtgmmcfnahfcadaaDoor
