/- The given statement: IntervalMakes: its card. -/
import Derived.Test.YtlnphamgmicniaaGreatDoorLiq
import Derived.Test.YtlnphamgmicniaaGreatDoorImk
namespace Go.Proofs.YtlnphamgmicniaaGreatDoor
open Go.ChangeShapes Go.WideShapes Go.ChangeAt Go.RowKit

theorem i64b {n : Int} (h : (Lit.int .i64 n).wf = true) : -9223372036854775808 ≤ n ∧ n ≤ 9223372036854775807 := by simp [Lit.wf, IntKind.min, IntKind.max, IntKind.signed, IntKind.bits] at h; omega
theorem nrA_len8 {neg : Bool} {n : Nat} {f : Nat → Nat} {den : Int} (hb : ∀ i, i < n → f i < 4294967296) (hn : n ≤ 8) : len (nrA neg n f den).m ≤ 8 := by
  by_cases hv : vld neg n f den = true
  · rw [(nrA_t hb hv).2.1]; exact hn
  · unfold nrA; rw [if_neg hv, zero_len]; decide
theorem makes_any {w : World} {n1 n2 : Bool} {A B : Option Addr} {k1 c1 k2 c2 : Nat} {d1 d2 : Int} {f1 f2 : Nat → Nat} {s t : Int} (hT : Tabs w) (hP : TabP w) (r1 : Rd w A k1 f1) (o1 : SlOk A k1 c1) (b1 : ∀ i, i < k1 → f1 i < 4294967296) (r2 : Rd w B k2 f2) (o2 : SlOk B k2 c2) (b2 : ∀ i, i < k2 → f2 i < 4294967296)
    (hs : -9223372036854775808 ≤ s ∧ s ≤ 9223372036854775807) (ht : -9223372036854775808 ≤ t ∧ t ≤ 9223372036854775807) :
    Calls Tryz.prog 5 #[dv n1 A k1 c1 d1, dv n2 B k2 c2 d2, .agg #[I s, I t]] w fun e w' => e = .returned (.bool true) ∧ Ext w w' := by
  by_cases h : shOk k1 d1 ∧ shOk k2 d2
  · have l1 : k1 ≤ 8 := by have := h.1.1; omega
    have l2 : k2 ≤ 8 := by have := h.2.1; omega
    have ha : Dy w n1 A k1 c1 d1 _ _ _ := Dy.any r1 o1 b1 (by omega)
    have hb : Dy w n2 B k2 c2 d2 _ _ _ := Dy.any r2 o2 b2 (by omega)
    exact makes_true ha hb hT hP h ⟨ha.wf, Nat.le_trans (nrA_len8 b1 l1) (by decide)⟩ ⟨hb.wf, Nat.le_trans (nrA_len8 b2 l2) (by decide)⟩ hs.1 hs.2 ht.1 ht.2
  · exact makes_off hT hP h

set_option maxRecDepth 100000 in
theorem intervalMakes_walked : WalkedP 5 Tryz.f5 := by
  intro H enc W base args ds p hT hP hval hA
  rw [Tryz.params5] at hA hval
  obtain ⟨v0, v1, v2, d0, d1, d2, p0, p1, p2, hargs, rfl, rfl, h0, h1, h2⟩ := trodAll_three hA
  obtain rfl : args = #[v0, v1, v2] := by cases args; simp_all
  obtain ⟨n1, A, k1, c1, d1, f1, rfl, r1, o1, b1, _⟩ := open_dy (hval 0 25 v0 rfl rfl) h0
  obtain ⟨n2, B, k2, c2, d2, f2, rfl, r2, o2, b2, _⟩ := open_dy (hval 1 25 v1 rfl rfl) h1
  obtain ⟨l2, rfl, f20⟩ := flat_array 8 Tryz.underlying44 (by kernel_rfl) (hval 2 44 v2 rfl rfl) h2
  obtain ⟨s, m20, rfl, ws, g20⟩ := flat_i f20
  obtain ⟨t, m21, rfl, wt, g21⟩ := flat_i g20
  obtain rfl := flat_nil g21
  exact makes_any hT hP r1 o1 b1 r2 o2 b2 (i64b ws) (i64b wt)

set_option maxRecDepth 100000 in
theorem intervalMakes_holds : Rows.IntervalMakesSaid :=
  OpenClaim.holds_of_wide 5 Tryz.f5 rfl rfl rfl rfl rfl rfl rfl ⟨rfl, rfl, rfl, rfl, rfl⟩ rfl rfl rfl rfl rfl (by kernel_rfl) Tryz.func5 (by kernel_rfl)
    (of_decide_eq_true (by kernel_rfl)) (by unfold Func.isWrapper; first | (rw [if_pos (by decide +kernel)]; kernel_rfl) | (rw [if_neg (by decide +kernel)]; exact ⟨rfl, rfl⟩))
    (fun os started H enc _ => law_liftedP (s := Rows.intervalMakesSpec) started Tryz.func5 (by kernel_rfl) (by kernel_rfl) rfl (by kernel_rfl)
      (fun ds hl => by
        have hl' : ds.length = 3 := hl
        match ds, hl' with
        | [d0, d1, d2], _ => exact ⟨rfl, rfl, rfl⟩)
      #[dv false none 0 0 0, dv false none 0 0 0, .agg #[I 0, I 0]] (by kernel_rfl) (by kernel_rfl) (by kernel_rfl) intervalMakes_walked)

set_option maxRecDepth 100000 in
theorem intervalMakes_plain (f : FuncId) (fn : Func) (hf : Tryz.pinned.checked.prog.funcNamed Rows.intervalMakesRow.func = some f) (hfn : Tryz.pinned.checked.prog.funcs[f]? = some fn) :
    true = Tryz.pinned.checked.prog.looks [] ∧ ∀ (j : Nat) t, fn.params[j]? = some t → Tryz.pinned.checked.prog.wantsStandIn t = false := by
  obtain rfl : f = 5 := Option.some.inj ((show Tryz.prog.funcNamed Rows.intervalMakesRow.func = some 5 by kernel_rfl).symm.trans hf) |>.symm
  obtain rfl : fn = Tryz.f5 := (Option.some.inj (Tryz.func5.symm.trans hfn)).symm
  refine ⟨by kernel_rfl, fun j t ht => ?_⟩
  rw [Tryz.params5] at ht
  have ht2 : t = 25 ∨ t = 44 := by simpa using Array.mem_of_getElem? ht
  rcases ht2 with rfl | rfl
  · exact (show Tryz.prog.wantsStandIn 25 = false by kernel_rfl)
  · exact (show Tryz.prog.wantsStandIn 44 = false by kernel_rfl)

theorem intervalMakes_card : Rows.IntervalMakesCardSaid :=
  Claim7.holds_tied_plain_at .later [] _ _ _ _ intervalMakes_holds (fun _ h => by cases h) (by kernel_rfl) (fun _ h => by cases h) intervalMakes_row_tie rfl ⟨rfl, rfl⟩ (by kernel_rfl) rfl intervalMakes_plain (by kernel_rfl)

end Go.Proofs.YtlnphamgmicniaaGreatDoor
