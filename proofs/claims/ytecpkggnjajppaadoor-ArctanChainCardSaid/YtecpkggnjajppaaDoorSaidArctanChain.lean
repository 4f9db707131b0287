/- The given statement ArctanChain: its card. The condition is the row's own: the table lies as the program's text lays it. -/
import Derived.Test.YtecpkggnjajppaaDoorArcs
import Derived.Test.YtecpkggnjajppaaDoorArcj
namespace Go.Proofs.YtecpkggnjajppaaDoor
open Go.ChangeShapes Go.WideShapes Go.ChangeAt Go.RowKit

set_option maxRecDepth 100000 in
theorem arctanChain_walked : WalkedT 9 Tryd.f9 := by
  intro H enc W base args ds p hT hval hA
  rw [Tryd.params9] at hA hval
  obtain ⟨v0, v1, v2, d0, d1, d2, p0, p1, p2, hargs, rfl, rfl, h0, h1, h2⟩ := trodAll_three hA
  obtain rfl : args = #[v0, v1, v2] := by cases args; simp_all
  obtain ⟨l0, rfl, f0⟩ := flat_struct 8 Tryd.underlying26 (by kernel_rfl) (hval 0 26 v0 rfl rfl) h0
  obtain ⟨b00, m00, rfl, wb00, g00⟩ := flat_i f0
  obtain ⟨b01, m01, rfl, wb01, g01⟩ := flat_i g00
  obtain rfl := flat_nil g01
  obtain ⟨l1, rfl, f1⟩ := flat_struct 8 Tryd.underlying26 (by kernel_rfl) (hval 1 26 v1 rfl rfl) h1
  obtain ⟨b10, m10, rfl, wb10, g10⟩ := flat_i f1
  obtain ⟨b11, m11, rfl, wb11, g11⟩ := flat_i g10
  obtain rfl := flat_nil g11
  obtain ⟨l2, rfl, f2⟩ := flat_struct 8 Tryd.underlying26 (by kernel_rfl) (hval 2 26 v2 rfl rfl) h2
  obtain ⟨b20, m20, rfl, wb20, g20⟩ := flat_i f2
  obtain ⟨b21, m21, rfl, wb21, g21⟩ := flat_i g20
  obtain rfl := flat_nil g21
  exact chain_law' b00 b01 b10 b11 b20 b21 W hT (i63 wb00) (i63 wb01) (i63 wb10) (i63 wb11) (i63 wb20) (i63 wb21)

set_option maxRecDepth 100000 in
theorem arctanChain_holds : Rows.ArctanChainSaid :=
  OpenClaim.holds_of_wide 9 Tryd.f9 rfl rfl rfl rfl rfl rfl rfl ⟨rfl, rfl, rfl, rfl, rfl⟩ rfl rfl rfl rfl rfl (by kernel_rfl) Tryd.func9 (by kernel_rfl)
    (of_decide_eq_true (by kernel_rfl)) (by unfold Func.isWrapper; first | (rw [if_pos (by decide +kernel)]; kernel_rfl) | (rw [if_neg (by decide +kernel)]; exact ⟨rfl, rfl⟩))
    (fun os started H enc _ => law_liftedT (s := Rows.arctanChainSpec) started Tryd.func9 (by kernel_rfl) (by kernel_rfl) rfl (by kernel_rfl)
      (fun ds hl => by
        have hl' : ds.length = 3 := hl
        match ds, hl' with
        | [d0, d1, d2], _ => exact ⟨rfl, rfl, rfl⟩)
      #[.agg #[I 0, I 0], .agg #[I 0, I 0], .agg #[I 0, I 0]] (by kernel_rfl) (by kernel_rfl) (by kernel_rfl) arctanChain_walked)

set_option maxRecDepth 100000 in
theorem arctanChain_plain (f : FuncId) (fn : Func) (hf : Tryd.pinned.checked.prog.funcNamed Rows.arctanChainRow.func = some f) (hfn : Tryd.pinned.checked.prog.funcs[f]? = some fn) :
    false = Tryd.pinned.checked.prog.looks [] ∧ ∀ (j : Nat) t, fn.params[j]? = some t → Tryd.pinned.checked.prog.wantsStandIn t = false := by
  obtain rfl : f = 9 := Option.some.inj ((show Tryd.prog.funcNamed Rows.arctanChainRow.func = some 9 by kernel_rfl).symm.trans hf) |>.symm
  obtain rfl : fn = Tryd.f9 := (Option.some.inj (Tryd.func9.symm.trans hfn)).symm
  refine ⟨by kernel_rfl, fun j t ht => ?_⟩
  rw [Tryd.params9] at ht
  obtain rfl : t = 26 := by simpa using Array.mem_of_getElem? ht
  · exact (show Tryd.prog.wantsStandIn 26 = false by kernel_rfl)

theorem arctanChain_card : Rows.ArctanChainCardSaid :=
  Claim7.holds_tied_plain_at .later [] _ _ _ _ arctanChain_holds (fun _ h => by cases h) (by kernel_rfl) (fun _ h => by cases h) arctanChain_row_tie rfl ⟨rfl, rfl⟩ (by kernel_rfl) rfl arctanChain_plain (by kernel_rfl)

end Go.Proofs.YtecpkggnjajppaaDoor
