/- The given statement: DyadicQuos: its card. -/
import Derived.Test.YtimpgdkeiopboaaDoorLift
import Derived.Test.YtimpgdkeiopboaaDoorLwqc
namespace Go.Proofs.YtimpgdkeiopboaaDoor
open Go.ChangeShapes Go.WideShapes Go.ChangeAt Go.RowKit

theorem den_100 {neg : Bool} {n : Nat} {den : Int} {f : Nat → Nat} (h : ¬ (100 < den ∧ den ≤ 65536)) : (nrA neg n f den).den ≤ 100 := by
  unfold nrA
  by_cases hv : vld neg n f den = true
  · rw [if_pos hv]
    show den.toNat ≤ 100
    cases n with
    | zero => rw [vld_zero] at hv; simp at hv; omega
    | succ k => rw [vld_succ] at hv; simp at hv; omega
  · rw [if_neg hv]; decide

theorem quos_any {w : World} {na nb : Bool} {A B : Option Addr} {a0 a1 b0 b1 : Nat} {da db : Int} {fa fb : Nat → Nat} {nn : Int} (hT : Tabs w) (ra : Rd w A a0 fa) (oa : SlOk A a0 a1) (ba : ∀ i, i < a0 → fa i < 4294967296)
    (rb : Rd w B b0 fb) (ob : SlOk B b0 b1) (bb : ∀ i, i < b0 → fb i < 4294967296) :
    Calls Tryd.prog 3 #[dv na A a0 a1 da, dv nb B b0 b1 db, I nn] w fun e w' => e = .returned (.bool true) ∧ Ext w w' := by
  by_cases h : fewOk a0 da ∧ fewOk b0 db
  · obtain ⟨ha, hb⟩ := h
    have ka := ha.1
    have kb := hb.1
    have ha_ : Dy w na A a0 a1 da _ _ _ := Dy.any ra oa ba (by omega)
    have hb_ : Dy w nb B b0 b1 db _ _ _ := Dy.any rb ob bb (by omega)
    by_cases hl : longQ a0 b0 da db nn
    · exact quos_long hT ha hb hl
    · have hl' := hl
      unfold longQ at hl'
      by_cases h4 : nn < 0 ∨ 65536 < nn
      · exact quos_err 3 (by omega) hT ha hb hl (fun w' _ => quo_err nn h4) (fun w' _ => rquo_err nn h4)
      · obtain ⟨k, rfl⟩ : ∃ k : Nat, nn = (k : Int) := ⟨nn.toNat, by omega⟩
        by_cases hz : (nrA nb b0 fb db).m = 0
        · exact quos_err 8 (by omega) hT ha hb hl (fun w' x => quo_zero k (hb_.ext x) (by omega) hz) (fun w' x => rquo_zero k (ha_.ext x) (hb_.ext x) (by omega) hz)
        · exact quos_true k ha_ hb_ hT (by omega) hz ha hb hl (sm_of ha_.wf ba ha).2.1 (sm_of hb_.wf bb hb).2.1 (den_100 (by omega))
  · exact quos_off hT h

set_option maxRecDepth 100000 in
theorem dyadicQuos_walked : WalkedT 3 Tryd.f3 := by
  intro H enc W base args ds p hT hval hA
  rw [Tryd.params3] at hA hval
  obtain ⟨v0, v1, v2, d0, d1, d2, p0, p1, p2, hargs, rfl, rfl, h0, h1, h2⟩ := trodAll_three hA
  obtain rfl : args = #[v0, v1, v2] := by cases args; simp_all
  obtain ⟨na, A, a0, a1, da, fa, rfl, ra, oa, ba, _⟩ := open_dy (hval 0 24 v0 rfl rfl) h0
  obtain ⟨nb, B, b0, b1, db, fb, rfl, rb, ob, bb, _⟩ := open_dy (hval 1 24 v1 rfl rfl) h1
  obtain ⟨nn, rfl, rfl, rfl, wnn⟩ := open_int Tryd.underlying3 (hval 2 3 v2 rfl rfl) h2
  exact quos_any hT ra oa ba rb ob bb

set_option maxRecDepth 100000 in
theorem dyadicQuos_holds : Rows.DyadicQuosSaid :=
  OpenClaim.holds_of_wide 3 Tryd.f3 rfl rfl rfl rfl rfl rfl rfl ⟨rfl, rfl, rfl, rfl, rfl⟩ rfl rfl rfl rfl rfl (by kernel_rfl) Tryd.func3 (by kernel_rfl)
    (of_decide_eq_true (by kernel_rfl)) (by unfold Func.isWrapper; first | (rw [if_pos (by decide +kernel)]; kernel_rfl) | (rw [if_neg (by decide +kernel)]; exact ⟨rfl, rfl⟩))
    (fun os started H enc _ => law_liftedT (s := Rows.dyadicQuosSpec) started Tryd.func3 (by kernel_rfl) (by kernel_rfl) rfl (by kernel_rfl)
      (fun ds hl => by
        have hl' : ds.length = 3 := hl
        match ds, hl' with
        | [d0, d1, d2], _ => exact ⟨rfl, rfl, rfl⟩)
      #[dv false none 0 0 0, dv false none 0 0 0, I 0] (by kernel_rfl) (by kernel_rfl) (by kernel_rfl) dyadicQuos_walked)

set_option maxRecDepth 100000 in
theorem dyadicQuos_plain (f : FuncId) (fn : Func) (hf : Tryd.pinned.checked.prog.funcNamed Rows.dyadicQuosRow.func = some f) (hfn : Tryd.pinned.checked.prog.funcs[f]? = some fn) :
    true = Tryd.pinned.checked.prog.looks [] ∧ ∀ (j : Nat) t, fn.params[j]? = some t → Tryd.pinned.checked.prog.wantsStandIn t = false := by
  obtain rfl : f = 3 := Option.some.inj ((show Tryd.prog.funcNamed Rows.dyadicQuosRow.func = some 3 by kernel_rfl).symm.trans hf) |>.symm
  obtain rfl : fn = Tryd.f3 := (Option.some.inj (Tryd.func3.symm.trans hfn)).symm
  refine ⟨by kernel_rfl, fun j t ht => ?_⟩
  rw [Tryd.params3] at ht
  have : t = 24 ∨ t = 3 := by simpa using Array.mem_of_getElem? ht
  rcases this with rfl | rfl
  · exact (show Tryd.prog.wantsStandIn 24 = false by kernel_rfl)
  · exact (show Tryd.prog.wantsStandIn 3 = false by kernel_rfl)

theorem dyadicQuos_card : Rows.DyadicQuosCardSaid :=
  Claim7.holds_tied_plain_at .later [] _ _ _ _ dyadicQuos_holds (fun _ h => by cases h) (by kernel_rfl) (fun _ h => by cases h) dyadicQuos_row_tie rfl ⟨rfl, rfl⟩ (by kernel_rfl) rfl dyadicQuos_plain (by kernel_rfl)

end Go.Proofs.YtimpgdkeiopboaaDoor
