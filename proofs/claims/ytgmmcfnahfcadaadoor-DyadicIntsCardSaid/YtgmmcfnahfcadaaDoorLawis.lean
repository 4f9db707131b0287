/- The given statement: DyadicInts: its card. -/
import Derived.Test.YtgmmcfnahfcadaaDoorLift
import Derived.Test.YtgmmcfnahfcadaaDoorLawi
namespace Go.Proofs.YtgmmcfnahfcadaaDoor
open Go.ChangeShapes Go.WideShapes Go.ChangeAt Go.RowKit

theorem ints_any {w : World} {x y k : Int} (hT : Tabs w) (hx1 : -9223372036854775808 ≤ x) (hx2 : x ≤ 9223372036854775807) (hy1 : -9223372036854775808 ≤ y) (hy2 : y ≤ 9223372036854775807) (_hk1 : -9223372036854775808 ≤ k) (_hk2 : k ≤ 9223372036854775807) :
    Calls Tryd.prog 9 #[I x, I y, I k] w fun e w' => e = .returned (.bool true) ∧ Ext w w' := by
  by_cases h1 : 400 < k ∧ k ≤ 65536
  · exact ints_off hT h1.1 h1.2
  · by_cases h2 : k < 0 ∨ 65536 < k
    · exact ints_bad hT hx1 hx2 hy1 hy2 k h2
    · obtain ⟨j, rfl⟩ : ∃ j : Nat, k = (j : Int) := ⟨k.toNat, by omega⟩
      exact ints_good hT hx1 hx2 hy1 hy2 j (by omega)

theorem int_range {n : Int} (h : (Lit.int .i64 n).wf = true) : -9223372036854775808 ≤ n ∧ n ≤ 9223372036854775807 := by simp [Lit.wf, IntKind.min, IntKind.max, IntKind.signed, IntKind.bits] at h; omega

set_option maxRecDepth 100000 in
theorem dyadicInts_walked : WalkedT 9 Tryd.f9 := by
  intro H enc W base args ds p hT hval hA
  rw [Tryd.params9] at hA hval
  obtain ⟨v0, v1, v2, d0, d1, d2, p0, p1, p2, hargs, rfl, rfl, h0, h1, h2⟩ := trodAll_three hA
  obtain rfl : args = #[v0, v1, v2] := by cases args; simp_all
  obtain ⟨x, rfl, rfl, rfl, wx⟩ := open_int Tryd.underlying3 (hval 0 3 v0 rfl rfl) h0
  obtain ⟨y, rfl, rfl, rfl, wy⟩ := open_int Tryd.underlying3 (hval 1 3 v1 rfl rfl) h1
  obtain ⟨k, rfl, rfl, rfl, wk⟩ := open_int Tryd.underlying3 (hval 2 3 v2 rfl rfl) h2
  exact ints_any hT (int_range wx).1 (int_range wx).2 (int_range wy).1 (int_range wy).2 (int_range wk).1 (int_range wk).2

set_option maxRecDepth 100000 in
theorem dyadicInts_holds : Rows.DyadicIntsSaid :=
  OpenClaim.holds_of_wide 9 Tryd.f9 rfl rfl rfl rfl rfl rfl rfl ⟨rfl, rfl, rfl, rfl, rfl⟩ rfl rfl rfl rfl rfl (by kernel_rfl) Tryd.func9 (by kernel_rfl)
    (of_decide_eq_true (by kernel_rfl)) (by unfold Func.isWrapper; first | (rw [if_pos (by decide +kernel)]; kernel_rfl) | (rw [if_neg (by decide +kernel)]; exact ⟨rfl, rfl⟩))
    (fun os started H enc _ => law_liftedT (s := Rows.dyadicIntsSpec) started Tryd.func9 (by kernel_rfl) (by kernel_rfl) rfl (by kernel_rfl)
      (fun ds hl => by
        have hl' : ds.length = 3 := hl
        match ds, hl' with
        | [d0, d1, d2], _ => exact ⟨rfl, rfl, rfl⟩)
      #[I 0, I 0, I 0] (by kernel_rfl) (by kernel_rfl) (by kernel_rfl) dyadicInts_walked)

set_option maxRecDepth 100000 in
theorem dyadicInts_plain (f : FuncId) (fn : Func) (hf : Tryd.pinned.checked.prog.funcNamed Rows.dyadicIntsRow.func = some f) (hfn : Tryd.pinned.checked.prog.funcs[f]? = some fn) :
    true = Tryd.pinned.checked.prog.looks [] ∧ ∀ (j : Nat) t, fn.params[j]? = some t → Tryd.pinned.checked.prog.wantsStandIn t = false := by
  obtain rfl : f = 9 := Option.some.inj ((show Tryd.prog.funcNamed Rows.dyadicIntsRow.func = some 9 by kernel_rfl).symm.trans hf) |>.symm
  obtain rfl : fn = Tryd.f9 := (Option.some.inj (Tryd.func9.symm.trans hfn)).symm
  refine ⟨by kernel_rfl, fun j t ht => ?_⟩
  rw [Tryd.params9] at ht
  obtain rfl : t = 3 := by simpa using Array.mem_of_getElem? ht
  exact (show Tryd.prog.wantsStandIn 3 = false by kernel_rfl)

theorem dyadicInts_card : Rows.DyadicIntsCardSaid :=
  Claim7.holds_tied_plain_at .later [] _ _ _ _ dyadicInts_holds (fun _ h => by cases h) (by kernel_rfl) (fun _ h => by cases h) dyadicInts_row_tie rfl ⟨rfl, rfl⟩ (by kernel_rfl) rfl dyadicInts_plain (by kernel_rfl)

end Go.Proofs.YtgmmcfnahfcadaaDoor
