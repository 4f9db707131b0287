/- The given statement: IntervalBounds: its card. -/
import Derived.Test.YtaljininilaemaaDoorLiftp
import Derived.Test.YtaljininilaemaaDoorIvz
import Derived.Test.YtaljininilaemaaDoorIvbt
import Derived.Test.YtaljininilaemaaDoorIvbu
namespace Go.Proofs.YtaljininilaemaaDoor
open Go.ChangeShapes Go.WideShapes Go.ChangeAt Go.RowKit

set_option maxRecDepth 100000 in
theorem dy_cells {H : Type} {enc : TypeId × Value → H} {w : World} {base : Nat} {held : Bool} {fuel : Nat} {l : List Value} {z : DataW H × List MemPlace} (hd' : DataW.trod enc Tryd.prog w base (fun _ => true) held fuel 24 l = some z) :
    ∃ (neg : Bool) (A : Option Addr) (n c : Nat) (den : Int) (f : Nat → Nat), l = [.bool neg, .slice A n c, I den] ∧ Rd w A n f ∧ SlOk A n c ∧ (∀ i, i < n → f i < 4294967296) := by
  obtain ⟨xs, m, _, _, hl, hlen, hf⟩ := DataW.trod_struct Tryd.underlying24 hd'
  have h3 : l.length = 3 := by rw [hl]; kernel_rfl
  match xs, hlen with
  | [y0, y1, y2], _ =>
    match l, h3 with
    | [c0, c1, c2], _ =>
      have k0 : Tryd.prog.cellsOf 4 = 1 := by kernel_rfl
      have k1 : Tryd.prog.cellsOf 22 = 1 := by kernel_rfl
      have k2 : Tryd.prog.cellsOf 3 = 1 := by kernel_rfl
      have e0 : DataW.trod enc Tryd.prog w base (fun _ => true) held m 4 (([c0, c1, c2].drop 0).take (Tryd.prog.cellsOf 4)) = some y0 := hf 0 _ rfl
      have e1 : DataW.trod enc Tryd.prog w base (fun _ => true) held m 22 (([c0, c1, c2].drop 1).take (Tryd.prog.cellsOf 22)) = some y1 := hf 1 _ rfl
      have e2 : DataW.trod enc Tryd.prog w base (fun _ => true) held m 3 (([c0, c1, c2].drop 2).take (Tryd.prog.cellsOf 3)) = some y2 := hf 2 _ rfl
      rw [k0] at e0
      rw [k1] at e1
      rw [k2] at e2
      obtain ⟨neg, h0, _⟩ := DataW.trod_bool Tryd.underlying4 e0
      obtain ⟨A, n, c, f, h1, ok, rd, hb⟩ := word_slice Tryd.underlying22 Tryd.underlying69 (by kernel_rfl) e1
      obtain ⟨den, h2, _, hw⟩ := DataW.trod_int Tryd.underlying3 e2
      cases h0; cases h1; cases h2
      exact ⟨neg, A, n, c, den, f, rfl, rd, ok, hb⟩
set_option maxRecDepth 100000 in
theorem open_iv {H : Type} {enc : TypeId × Value → H} {w w' : World} {base b0 : Nat} {held : Bool} {v : Value} {d : DataW H} {p : List MemPlace}
    (hv : Value.okWide Tryd.prog w' .any b0 49 v) (h : DataW.Trod enc Tryd.prog w base (fun _ => true) held 49 v d p) :
    ∃ (n1 : Bool) (A : Option Addr) (k c : Nat) (d1 : Int) (f : Nat → Nat) (n2 : Bool) (B : Option Addr) (m e : Nat) (d2 : Int) (g : Nat → Nat), v = iv n1 A k c d1 n2 B m e d2 ∧ (Rd w A k f ∧ SlOk A k c ∧ ∀ i, i < k → f i < 4294967296) ∧ (Rd w B m g ∧ SlOk B m e ∧ ∀ i, i < m → g i < 4294967296) := by
  obtain ⟨cs, rfl, _⟩ := okWide_struct Tryd.underlying49 hv
  obtain ⟨l⟩ := cs
  obtain ⟨fuel, hd⟩ := h
  have hd' : DataW.trod enc Tryd.prog w base (fun _ => true) held fuel 49 l = some (d, p) := hd
  obtain ⟨xs, m, _, _, hl, hlen, hf⟩ := DataW.trod_struct Tryd.underlying49 hd'
  have h6 : l.length = 6 := by rw [hl]; kernel_rfl
  match xs, hlen with
  | [y0, y1], _ =>
    match l, h6 with
    | [c0, c1, c2, c3, c4, c5], _ =>
      have k0 : Tryd.prog.cellsOf 24 = 3 := by kernel_rfl
      have e0 : DataW.trod enc Tryd.prog w base (fun _ => true) held m 24 (([c0, c1, c2, c3, c4, c5].drop 0).take (Tryd.prog.cellsOf 24)) = some y0 := hf 0 _ rfl
      have e1 : DataW.trod enc Tryd.prog w base (fun _ => true) held m 24 (([c0, c1, c2, c3, c4, c5].drop 3).take (Tryd.prog.cellsOf 24)) = some y1 := hf 1 _ rfl
      rw [k0] at e0 e1
      obtain ⟨n1, A, k, c, d1, f, h0, r0, o0, b0⟩ := dy_cells e0
      obtain ⟨n2, B, q, e, d2, g, h1, r1, o1, b1⟩ := dy_cells e1
      cases h0; cases h1
      exact ⟨n1, A, k, c, d1, f, n2, B, q, e, d2, g, rfl, ⟨r0, o0, b0⟩, ⟨r1, o1, b1⟩⟩

theorem sh_le {n : Nat} {d : Int} (h : shOk n d) : n ≤ 1048576 := by have := h.1; omega
theorem bounds_any {w : World} {n1 n2 n3 n4 n5 n6 : Bool} {A B X Y U V : Option Addr} {k1 c1 k2 c2 k3 c3 k4 c4 k5 c5 k6 c6 : Nat} {d1 d2 d3 d4 d5 d6 : Int} {f1 f2 f3 f4 f5 f6 : Nat → Nat} (hT : Tabs w) (hP : TabP w)
    (h1 : Rd w A k1 f1 ∧ SlOk A k1 c1 ∧ ∀ i, i < k1 → f1 i < 4294967296) (h2 : Rd w B k2 f2 ∧ SlOk B k2 c2 ∧ ∀ i, i < k2 → f2 i < 4294967296) (h3 : Rd w X k3 f3 ∧ SlOk X k3 c3 ∧ ∀ i, i < k3 → f3 i < 4294967296) (h4 : Rd w Y k4 f4 ∧ SlOk Y k4 c4 ∧ ∀ i, i < k4 → f4 i < 4294967296)
    (h5 : Rd w U k5 f5 ∧ SlOk U k5 c5 ∧ ∀ i, i < k5 → f5 i < 4294967296) (h6 : Rd w V k6 f6 ∧ SlOk V k6 c6 ∧ ∀ i, i < k6 → f6 i < 4294967296) :
    Calls Tryd.prog 6 #[iv n1 A k1 c1 d1 n2 B k2 c2 d2, iv n3 X k3 c3 d3 n4 Y k4 c4 d4, iv n5 U k5 c5 d5 n6 V k6 c6 d6] w fun e w' => e = .returned (.bool true) ∧ Ext w w' := by
  by_cases h : (∀ i, i < 3 → shOk (if i = 0 then k1 else if i = 1 then k3 else k5) (if i = 0 then d1 else if i = 1 then d3 else d5) ∧ shOk (if i = 0 then k2 else if i = 1 then k4 else k6) (if i = 0 then d2 else if i = 1 then d4 else d6))
  · have s0 : shOk k1 d1 ∧ shOk k2 d2 := h 0 (by omega)
    have s1 : shOk k3 d3 ∧ shOk k4 d4 := h 1 (by omega)
    have s2 : shOk k5 d5 ∧ shOk k6 d6 := h 2 (by omega)
    have ha : Iw w n1 A k1 c1 d1 n2 B k2 c2 d2 _ _ _ _ _ _ := Iw.any h1.1 h1.2.1 h1.2.2 (sh_le s0.1) h2.1 h2.2.1 h2.2.2 (sh_le s0.2)
    have hb : Iw w n3 X k3 c3 d3 n4 Y k4 c4 d4 _ _ _ _ _ _ := Iw.any h3.1 h3.2.1 h3.2.2 (sh_le s1.1) h4.1 h4.2.1 h4.2.2 (sh_le s1.2)
    have hc : Iw w n5 U k5 c5 d5 n6 V k6 c6 d6 _ _ _ _ _ _ := Iw.any h5.1 h5.2.1 h5.2.2 (sh_le s2.1) h6.1 h6.2.1 h6.2.2 (sh_le s2.2)
    by_cases hap : 0 < cmpD (maxD (ivL n1 k1 f1 d1 n2 k2 f2 d2) (ivL n3 k3 f3 d3 n4 k4 f4 d4)) (minD (ivH n1 k1 f1 d1 n2 k2 f2 d2) (ivH n3 k3 f3 d3 n4 k4 f4 d4))
    · exact bounds_apart ha hb hc hT hP h hap
    · exact bounds_meet ha hb hc hT hP h hap
  · exact bounds_off hT hP h

set_option maxRecDepth 100000 in
theorem intervalBounds_walked : WalkedP 6 Tryd.f6 := by
  intro H enc W base args ds p hT hP hval hA
  rw [Tryd.params6] at hA hval
  obtain ⟨v0, v1, v2, d0, d1, d2, p0, p1, p2, hargs, rfl, rfl, h0, h1, h2⟩ := trodAll_three hA
  obtain rfl : args = #[v0, v1, v2] := by cases args; simp_all
  obtain ⟨n1, A, k1, c1, d1, f1, n2, B, k2, c2, d2, f2, rfl, q1, q2⟩ := open_iv (hval 0 49 v0 rfl rfl) h0
  obtain ⟨n3, X, k3, c3, d3, f3, n4, Y, k4, c4, d4, f4, rfl, q3, q4⟩ := open_iv (hval 1 49 v1 rfl rfl) h1
  obtain ⟨n5, U, k5, c5, d5, f5, n6, V, k6, c6, d6, f6, rfl, q5, q6⟩ := open_iv (hval 2 49 v2 rfl rfl) h2
  exact bounds_any hT hP q1 q2 q3 q4 q5 q6

set_option maxRecDepth 100000 in
theorem intervalBounds_holds : Rows.IntervalBoundsSaid :=
  OpenClaim.holds_of_wide 6 Tryd.f6 rfl rfl rfl rfl rfl rfl rfl ⟨rfl, rfl, rfl, rfl, rfl⟩ rfl rfl rfl rfl rfl (by kernel_rfl) Tryd.func6 (by kernel_rfl)
    (of_decide_eq_true (by kernel_rfl)) (by unfold Func.isWrapper; first | (rw [if_pos (by decide +kernel)]; kernel_rfl) | (rw [if_neg (by decide +kernel)]; exact ⟨rfl, rfl⟩))
    (fun os started H enc _ => law_liftedP (s := Rows.intervalBoundsSpec) started Tryd.func6 (by kernel_rfl) (by kernel_rfl) rfl (by kernel_rfl)
      (fun ds hl => by
        have hl' : ds.length = 3 := hl
        match ds, hl' with
        | [d0, d1, d2], _ => exact ⟨rfl, rfl, rfl⟩)
      #[iv false none 0 0 0 false none 0 0 0, iv false none 0 0 0 false none 0 0 0, iv false none 0 0 0 false none 0 0 0] (by kernel_rfl) (by kernel_rfl) (by kernel_rfl) intervalBounds_walked)

set_option maxRecDepth 100000 in
theorem intervalBounds_plain (f : FuncId) (fn : Func) (hf : Tryd.pinned.checked.prog.funcNamed Rows.intervalBoundsRow.func = some f) (hfn : Tryd.pinned.checked.prog.funcs[f]? = some fn) :
    true = Tryd.pinned.checked.prog.looks [] ∧ ∀ (j : Nat) t, fn.params[j]? = some t → Tryd.pinned.checked.prog.wantsStandIn t = false := by
  obtain rfl : f = 6 := Option.some.inj ((show Tryd.prog.funcNamed Rows.intervalBoundsRow.func = some 6 by kernel_rfl).symm.trans hf) |>.symm
  obtain rfl : fn = Tryd.f6 := (Option.some.inj (Tryd.func6.symm.trans hfn)).symm
  refine ⟨by kernel_rfl, fun j t ht => ?_⟩
  rw [Tryd.params6] at ht
  obtain rfl : t = 49 := by simpa using Array.mem_of_getElem? ht
  exact (show Tryd.prog.wantsStandIn 49 = false by kernel_rfl)

theorem intervalBounds_card : Rows.IntervalBoundsCardSaid :=
  Claim7.holds_tied_plain_at .later [] _ _ _ _ intervalBounds_holds (fun _ h => by cases h) (by kernel_rfl) (fun _ h => by cases h) intervalBounds_row_tie rfl ⟨rfl, rfl⟩ (by kernel_rfl) rfl intervalBounds_plain (by kernel_rfl)

end Go.Proofs.YtaljininilaemaaDoor
