/- The given statement: IntervalLimits: its card. -/
import Derived.Test.YtcdkkohklhmpgaaGreatDoorLiq
import Derived.Test.YtcdkkohklhmpgaaGreatDoorIlmm
namespace Go.Proofs.YtcdkkohklhmpgaaGreatDoor
open Go.ChangeShapes Go.WideShapes Go.ChangeAt Go.RowKit

set_option maxRecDepth 100000 in
theorem dy_cells {H : Type} {enc : TypeId × Value → H} {w : World} {base : Nat} {held : Bool} {fuel : Nat} {l : List Value} {z : DataW H × List MemPlace} (hd' : DataW.trod enc Tryz.prog w base (fun _ => true) held fuel 24 l = some z) :
    ∃ (neg : Bool) (A : Option Addr) (n c : Nat) (den : Int) (f : Nat → Nat), l = [.bool neg, .slice A n c, I den] ∧ Rd w A n f ∧ SlOk A n c ∧ (∀ i, i < n → f i < 4294967296) := by
  obtain ⟨xs, m, _, _, hl, hlen, hf⟩ := DataW.trod_struct Tryz.underlying24 hd'
  have h3 : l.length = 3 := by rw [hl]; kernel_rfl
  match xs, hlen with
  | [y0, y1, y2], _ =>
    match l, h3 with
    | [c0, c1, c2], _ =>
      have k0 : Tryz.prog.cellsOf 4 = 1 := by kernel_rfl
      have k1 : Tryz.prog.cellsOf 22 = 1 := by kernel_rfl
      have k2 : Tryz.prog.cellsOf 3 = 1 := by kernel_rfl
      have e0 : DataW.trod enc Tryz.prog w base (fun _ => true) held m 4 (([c0, c1, c2].drop 0).take (Tryz.prog.cellsOf 4)) = some y0 := hf 0 _ rfl
      have e1 : DataW.trod enc Tryz.prog w base (fun _ => true) held m 22 (([c0, c1, c2].drop 1).take (Tryz.prog.cellsOf 22)) = some y1 := hf 1 _ rfl
      have e2 : DataW.trod enc Tryz.prog w base (fun _ => true) held m 3 (([c0, c1, c2].drop 2).take (Tryz.prog.cellsOf 3)) = some y2 := hf 2 _ rfl
      rw [k0] at e0
      rw [k1] at e1
      rw [k2] at e2
      obtain ⟨neg, h0, _⟩ := DataW.trod_bool Tryz.underlying4 e0
      obtain ⟨A, n, c, f, h1, ok, rd, hb⟩ := word_slice Tryz.underlying22 Tryz.underlying153 (by kernel_rfl) e1
      obtain ⟨den, h2, _, hw⟩ := DataW.trod_int Tryz.underlying3 e2
      cases h0; cases h1; cases h2
      exact ⟨neg, A, n, c, den, f, rfl, rd, ok, hb⟩
set_option maxRecDepth 100000 in
theorem open_iv {H : Type} {enc : TypeId × Value → H} {w w' : World} {base b0 : Nat} {held : Bool} {v : Value} {d : DataW H} {p : List MemPlace}
    (hv : Value.okWide Tryz.prog w' .any b0 26 v) (h : DataW.Trod enc Tryz.prog w base (fun _ => true) held 26 v d p) :
    ∃ (n1 : Bool) (A : Option Addr) (k c : Nat) (d1 : Int) (f : Nat → Nat) (n2 : Bool) (B : Option Addr) (m e : Nat) (d2 : Int) (g : Nat → Nat), v = iv n1 A k c d1 n2 B m e d2 ∧ (Rd w A k f ∧ SlOk A k c ∧ ∀ i, i < k → f i < 4294967296) ∧ (Rd w B m g ∧ SlOk B m e ∧ ∀ i, i < m → g i < 4294967296) := by
  obtain ⟨cs, rfl, _⟩ := okWide_struct Tryz.underlying26 hv
  obtain ⟨l⟩ := cs
  obtain ⟨fuel, hd⟩ := h
  have hd' : DataW.trod enc Tryz.prog w base (fun _ => true) held fuel 26 l = some (d, p) := hd
  obtain ⟨xs, m, _, _, hl, hlen, hf⟩ := DataW.trod_struct Tryz.underlying26 hd'
  have h6 : l.length = 6 := by rw [hl]; kernel_rfl
  match xs, hlen with
  | [y0, y1], _ =>
    match l, h6 with
    | [c0, c1, c2, c3, c4, c5], _ =>
      have k0 : Tryz.prog.cellsOf 24 = 3 := by kernel_rfl
      have e0 : DataW.trod enc Tryz.prog w base (fun _ => true) held m 24 (([c0, c1, c2, c3, c4, c5].drop 0).take (Tryz.prog.cellsOf 24)) = some y0 := hf 0 _ rfl
      have e1 : DataW.trod enc Tryz.prog w base (fun _ => true) held m 24 (([c0, c1, c2, c3, c4, c5].drop 3).take (Tryz.prog.cellsOf 24)) = some y1 := hf 1 _ rfl
      rw [k0] at e0 e1
      obtain ⟨n1, A, k, c, d1, f, h0, r0, o0, b0⟩ := dy_cells e0
      obtain ⟨n2, B, q, e, d2, g, h1, r1, o1, b1⟩ := dy_cells e1
      cases h0; cases h1
      exact ⟨n1, A, k, c, d1, f, n2, B, q, e, d2, g, rfl, ⟨r0, o0, b0⟩, ⟨r1, o1, b1⟩⟩

theorem sh_le {n : Nat} {d : Int} (h : shOk n d) : n ≤ 1048576 := by have := h.1; omega
theorem nrA_len8 {neg : Bool} {n : Nat} {f : Nat → Nat} {den : Int} (hb : ∀ i, i < n → f i < 4294967296) (hn : n ≤ 8) : len (nrA neg n f den).m ≤ 8 := by
  by_cases hv : vld neg n f den = true
  · rw [(nrA_t hb hv).2.1]; exact hn
  · unfold nrA; rw [if_neg hv, zero_len]; decide
theorem sh8 {n : Nat} {d : Int} (h : shOk n d) : n ≤ 8 := by have := h.1; omega
theorem ivL_len8 {n1 n2 : Bool} {k m : Nat} {f g : Nat → Nat} {d1 d2 : Int} (hb : ∀ i, i < k → f i < 4294967296) (hn : k ≤ 8) : len (ivL n1 k f d1 n2 m g d2).m ≤ 8 := by
  unfold ivL; split
  · exact nrA_len8 hb hn
  · rw [zero_len]; decide
theorem ivH_len8 {n1 n2 : Bool} {k m : Nat} {f g : Nat → Nat} {d1 d2 : Int} (hb : ∀ i, i < m → g i < 4294967296) (hn : m ≤ 8) : len (ivH n1 k f d1 n2 m g d2).m ≤ 8 := by
  unfold ivH; split
  · exact nrA_len8 hb hn
  · rw [zero_len]; decide
theorem limits_any {w : World} {n1 n2 n3 n4 : Bool} {A B X Y : Option Addr} {k1 c1 k2 c2 k3 c3 k4 c4 : Nat} {d1 d2 d3 d4 den : Int} {f1 f2 f3 f4 : Nat → Nat} (hT : Tabs w) (hP : TabP w)
    (h1 : Rd w A k1 f1 ∧ SlOk A k1 c1 ∧ ∀ i, i < k1 → f1 i < 4294967296) (h2 : Rd w B k2 f2 ∧ SlOk B k2 c2 ∧ ∀ i, i < k2 → f2 i < 4294967296) (h3 : Rd w X k3 f3 ∧ SlOk X k3 c3 ∧ ∀ i, i < k3 → f3 i < 4294967296) (h4 : Rd w Y k4 f4 ∧ SlOk Y k4 c4 ∧ ∀ i, i < k4 → f4 i < 4294967296) :
    Calls Tryz.prog 3 #[iv n1 A k1 c1 d1 n2 B k2 c2 d2, iv n3 X k3 c3 d3 n4 Y k4 c4 d4, I den] w fun e w' => e = .returned (.bool true) ∧ Ext w w' := by
  by_cases h : (∀ i, i < 2 → shOk (if i = 0 then k1 else k3) (if i = 0 then d1 else d3) ∧ shOk (if i = 0 then k2 else k4) (if i = 0 then d2 else d4))
  · have s0 : shOk k1 d1 ∧ shOk k2 d2 := h 0 (by omega)
    have s1 : shOk k3 d3 ∧ shOk k4 d4 := h 1 (by omega)
    have ha : Iw w n1 A k1 c1 d1 n2 B k2 c2 d2 _ _ _ _ _ _ := Iw.any h1.1 h1.2.1 h1.2.2 (sh_le s0.1) h2.1 h2.2.1 h2.2.2 (sh_le s0.2)
    have hb : Iw w n3 X k3 c3 d3 n4 Y k4 c4 d4 _ _ _ _ _ _ := Iw.any h3.1 h3.2.1 h3.2.2 (sh_le s1.1) h4.1 h4.2.1 h4.2.2 (Nat.le_trans (sh_le s1.2) (by decide))
    have hz : Dy w n3 X k3 c3 d3 _ _ _ := Dy.any h3.1 h3.2.1 h3.2.2 (Nat.le_trans (sh_le s1.1) (by decide))
    have hu : Dy w n4 Y k4 c4 d4 _ _ _ := Dy.any h4.1 h4.2.1 h4.2.2 (Nat.le_trans (sh_le s1.2) (by decide))
    have lz := nrA_len8 (neg := n3) (den := d3) h3.2.2 (sh8 s1.1)
    have lu := nrA_len8 (neg := n4) (den := d4) h4.2.2 (sh8 s1.2)
    have ez : End (nrA n3 k3 f3 d3) := ⟨hz.wf, Nat.le_trans lz (by decide)⟩
    have eu : End (nrA n4 k4 f4 d4) := ⟨hu.wf, Nat.le_trans lu (by decide)⟩
    by_cases m1 : 300 < den
    · by_cases m2 : den ≤ 65536
      · exact limits_mid hT hP h m1 m2
      · exact limits_true2 ha hb hz hu ez eu (Nat.le_trans lz (by decide)) hT hP h (decide_eq_true m1) (decide_eq_false m2)
    · exact limits_true1 ha hb hz hu ez eu (Nat.le_trans lz (by decide)) hT hP h (decide_eq_false m1)
  · exact limits_off hT hP h

set_option maxRecDepth 100000 in
theorem intervalLimits_walked : WalkedP 3 Tryz.f3 := by
  intro H enc W base args ds p hT hP hval hA
  rw [Tryz.params3] at hA hval
  obtain ⟨v0, v1, v2, d0, d1, d2, p0, p1, p2, hargs, rfl, rfl, h0, h1, h2⟩ := trodAll_three hA
  obtain rfl : args = #[v0, v1, v2] := by cases args; simp_all
  obtain ⟨n1, A, k1, c1, d1, f1, n2, B, k2, c2, d2, f2, rfl, q1, q2⟩ := open_iv (hval 0 26 v0 rfl rfl) h0
  obtain ⟨n3, X, k3, c3, d3, f3, n4, Y, k4, c4, d4, f4, rfl, q3, q4⟩ := open_iv (hval 1 26 v1 rfl rfl) h1
  obtain ⟨n, rfl, rfl, rfl, wn⟩ := open_int Tryz.underlying3 (hval 2 3 v2 rfl rfl) h2
  exact limits_any hT hP q1 q2 q3 q4

set_option maxRecDepth 100000 in
theorem limits_joined : joinedFacts Tryz.pinned.checked.prog 3 Tryz.f3 Rows.intervalLimitsSpec Rows.intervalLimitsRow = true := of_decide_eq_true (by kernel_rfl)

set_option maxRecDepth 100000 in
theorem intervalLimits_holds : Rows.IntervalLimitsSaid :=
  OpenClaim.holds_of_wide 3 Tryz.f3 rfl rfl rfl rfl rfl rfl rfl ⟨rfl, rfl, rfl, rfl, rfl⟩ rfl rfl rfl rfl rfl (by kernel_rfl) Tryz.func3 limits_joined
    (of_decide_eq_true (by kernel_rfl)) (by unfold Func.isWrapper; first | (rw [if_pos (by decide +kernel)]; kernel_rfl) | (rw [if_neg (by decide +kernel)]; exact ⟨rfl, rfl⟩))
    (fun os started H enc _ => law_liftedP (s := Rows.intervalLimitsSpec) started Tryz.func3 (by kernel_rfl) (by kernel_rfl) rfl (by kernel_rfl)
      (fun ds hl => by
        have hl' : ds.length = 3 := hl
        match ds, hl' with
        | [d0, d1, d2], _ => exact ⟨rfl, rfl, rfl⟩)
      #[iv false none 0 0 0 false none 0 0 0, iv false none 0 0 0 false none 0 0 0, I 0] (by kernel_rfl) (by kernel_rfl) (by kernel_rfl) intervalLimits_walked)

set_option maxRecDepth 100000 in
theorem intervalLimits_plain (f : FuncId) (fn : Func) (hf : Tryz.pinned.checked.prog.funcNamed Rows.intervalLimitsRow.func = some f) (hfn : Tryz.pinned.checked.prog.funcs[f]? = some fn) :
    true = Tryz.pinned.checked.prog.looks [] ∧ ∀ (j : Nat) t, fn.params[j]? = some t → Tryz.pinned.checked.prog.wantsStandIn t = false := by
  obtain rfl : f = 3 := Option.some.inj ((show Tryz.prog.funcNamed Rows.intervalLimitsRow.func = some 3 by kernel_rfl).symm.trans hf) |>.symm
  obtain rfl : fn = Tryz.f3 := (Option.some.inj (Tryz.func3.symm.trans hfn)).symm
  refine ⟨by kernel_rfl, fun j t ht => ?_⟩
  rw [Tryz.params3] at ht
  have hm := Array.mem_of_getElem? ht
  simp at hm
  rcases hm with rfl | rfl
  · exact (show Tryz.prog.wantsStandIn 26 = false by kernel_rfl)
  · exact (show Tryz.prog.wantsStandIn 3 = false by kernel_rfl)

theorem intervalLimits_card : Rows.IntervalLimitsCardSaid :=
  Claim7.holds_tied_plain_at .later [] _ _ _ _ intervalLimits_holds (fun _ h => by cases h) (by kernel_rfl) (fun _ h => by cases h) intervalLimits_row_tie rfl ⟨rfl, rfl⟩ (by kernel_rfl) rfl intervalLimits_plain (by kernel_rfl)

end Go.Proofs.YtcdkkohklhmpgaaGreatDoor
