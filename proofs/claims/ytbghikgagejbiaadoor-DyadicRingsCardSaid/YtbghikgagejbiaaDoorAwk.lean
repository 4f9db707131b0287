/- The document's examples. -/
import Derived.Test.YtbghikgagejbiaaDoorTxtb
import Derived.Test.YtbghikgagejbiaaDoorDyn
namespace Go.Proofs.YtbghikgagejbiaaDoor
open Go.RowKit

theorem aw1 : ofI 6 2 = ⟨false, 3, 1⟩ := by rfl
theorem aw2 : negD ⟨false, 3, 1⟩ = ⟨true, 3, 1⟩ := by rfl
theorem aw3 : floorD ⟨true, 3, 1⟩ 0 = ⟨true, 2, 0⟩ := by rfl
theorem aw4 : ofI (-1) 0 = ⟨true, 1, 0⟩ := by rfl
theorem aw5 : ofI 3 0 = ⟨false, 3, 0⟩ := by rfl
theorem aw6 : quoD ⟨true, 1, 0⟩ ⟨false, 3, 0⟩ 4 = ⟨true, 3, 3⟩ := by rfl
theorem aw7 : txtS ⟨false, 3, 1⟩ = ⟨#[51, 47, 50, 94, 49]⟩ := by decide +kernel
theorem aw8 : txtS ⟨true, 2, 0⟩ = ⟨#[45, 50]⟩ := by decide +kernel
theorem aw9 : txtS ⟨true, 3, 3⟩ = ⟨#[45, 51, 47, 50, 94, 51]⟩ := by decide +kernel
theorem len_small {m : Nat} (h : m < 100) : len m ≤ 16777216 := by
  have := len_le (m := m) (n := 1) (by show m < 4294967296 ^ 1; omega)
  omega
theorem Dy.at_ {w : World} {d : DV} {A : Option Addr} {c b : Nat} (h : On w b A (len d.m) c (dg d.m)) (wf : d.ok) (hl : len d.m ≤ 16777216) : ∀ w', Ext w w' → Dy w' d.neg A (len d.m) c d.den d A c := fun _ e => Dy.of_on h wf hl e

set_option maxRecDepth 100000 in
set_option maxHeartbeats 1000000 in
theorem awake_any (w : World) (hT : Tabs w) : Calls Tryd.prog 13 #[] w fun e w' => e = .returned (.bool true) ∧ Ext w w' := by
  have HT := Lib.hid hT; clear hT
  obtain ⟨d1, hd1⟩ : ∃ d, ofI 6 2 = d := ⟨_, rfl⟩
  obtain ⟨d2, hd2⟩ : ∃ d, negD d1 = d := ⟨_, rfl⟩
  obtain ⟨d3, hd3⟩ : ∃ d, floorD d2 0 = d := ⟨_, rfl⟩
  obtain ⟨d4, hd4⟩ : ∃ d, ofI (-1) 0 = d := ⟨_, rfl⟩
  obtain ⟨d5, hd5⟩ : ∃ d, ofI 3 0 = d := ⟨_, rfl⟩
  obtain ⟨d6, hd6⟩ : ∃ d, quoD d4 d5 4 = d := ⟨_, rfl⟩
  have e1 : d1 = ⟨false, 3, 1⟩ := hd1.symm.trans aw1
  have e2 : d2 = ⟨true, 3, 1⟩ := by rw [← hd2, e1]; exact aw2
  have e3 : d3 = ⟨true, 2, 0⟩ := by rw [← hd3, e2]; exact aw3
  have e4 : d4 = ⟨true, 1, 0⟩ := hd4.symm.trans aw4
  have e5 : d5 = ⟨false, 3, 0⟩ := hd5.symm.trans aw5
  have e6 : d6 = ⟨true, 3, 3⟩ := by rw [← hd6, e4, e5]; exact aw6
  have W1 : Hid (d1.ok ∧ len d1.m ≤ 16777216 ∧ 0 < d1.m ∧ d1.m < 100 ∧ d1.den < 100 ∧ txtS d1 = ⟨#[51, 47, 50, 94, 49]⟩) := ⟨hd1 ▸ ofI_ok _ _, by rw [e1]; exact len_small (by decide), by rw [e1]; decide, by rw [e1]; decide, by rw [e1]; decide, by rw [e1]; exact aw7⟩
  have W2 : Hid (d2.ok ∧ len d2.m ≤ 16777216) := ⟨hd2 ▸ negD_ok _, by rw [e2]; exact len_small (by decide)⟩
  have W3 : Hid (d3.ok ∧ len d3.m ≤ 16777216 ∧ 0 < d3.m ∧ d3.m < 100 ∧ d3.den < 100 ∧ txtS d3 = ⟨#[45, 50]⟩) := ⟨hd3 ▸ floorD_ok W2.out.1 _, by rw [e3]; exact len_small (by decide), by rw [e3]; decide, by rw [e3]; decide, by rw [e3]; decide, by rw [e3]; exact aw8⟩
  have W4 : Hid (d4.ok ∧ len d4.m ≤ 16777216) := ⟨hd4 ▸ ofI_ok _ _, by rw [e4]; exact len_small (by decide)⟩
  have W5 : Hid (d5.ok ∧ len d5.m ≤ 16777216 ∧ d5.m ≠ 0) := ⟨hd5 ▸ ofI_ok _ _, by rw [e5]; exact len_small (by decide), by rw [e5]; decide⟩
  have W6 : Hid (d6.ok ∧ len d6.m ≤ 16777216 ∧ 0 < d6.m ∧ d6.m < 100 ∧ d6.den < 100 ∧ txtS d6 = ⟨#[45, 51, 47, 50, 94, 51]⟩) := ⟨hd6 ▸ quoD_ok _ _ _, by rw [e6]; exact len_small (by decide), by rw [e6]; decide, by rw [e6]; decide, by rw [e6]; decide, by rw [e6]; exact aw9⟩
  have H1 := Lib.hid hd1; have H2 := Lib.hid hd2; have H3 := Lib.hid hd3; have H4 := Lib.hid hd4; have H5 := Lib.hid hd5; have H6 := Lib.hid hd6
  clear e1 e2 e3 e4 e5 e6 hd1 hd2 hd3 hd4 hd5 hd6
  go_enter Tryd.func13, Tryd.ntmps13
  go_wp2_with (first
    | (go_at_call 48; refine (make_any 6 2 _ HT.out (by omega) (by omega) (by omega)).mono ?_; rw [H1.out]; rintro e w1 ⟨A1, c1, rfl, hon, hx⟩; have D1 := Lib.hid (Dy.at_ hon W1.out.1 W1.out.2.1); have X1 := Lib.hid hx; have B1 : Hid (∀ w', Ext (w1.alloc (.cells #[.bool d1.neg, .slice A1 (len d1.m) c1, I d1.den] 24)) w' → St w' w1.heap.size (.bool d1.neg) (.slice A1 (len d1.m) c1) (I d1.den)) := fun _ e => (St.new w1 _ _ _ _).ext e; clear hon hx)
    | (go_at_call 21; refine (neg_any (D1.out _ (Ext.alloc _ _)) (HT.out.ext (X1.out.trans (Ext.alloc _ _)))).mono ?_; rw [H2.out]; rintro e w2 ⟨A2, c2, rfl, hon, hx⟩; have D2 := Lib.hid (Dy.at_ hon W2.out.1 W2.out.2); have X2 := Lib.hid (X1.out.trans ((Ext.alloc _ _).trans hx)); have Y2 := Lib.hid hx; clear hon hx)
    | (go_at_call 15; refine (floor_any 0 (D2.out _ (Ext.refl _)) (HT.out.ext X2.out) (by omega)).mono ?_; rw [H3.out]; rintro e w3 ⟨A3, c3, rfl, hon, hx⟩; have D3 := Lib.hid (Dy.at_ hon W3.out.1 W3.out.2.1); have X3 := Lib.hid (X2.out.trans hx); have Y3 := Lib.hid (Y2.out.trans hx); have B3 : Hid (∀ w', Ext (w3.alloc (.cells #[.bool d3.neg, .slice A3 (len d3.m) c3, I d3.den] 24)) w' → St w' w3.heap.size (.bool d3.neg) (.slice A3 (len d3.m) c3) (I d3.den)) := fun _ e => (St.new w3 _ _ _ _).ext e; clear hon hx)
    | (go_at_call 50; (with_reducible refine (of_any (-1) _ (HT.out.ext (X3.out.trans (Ext.alloc _ _))) (by omega) (by omega)).mono ?_); rw [H4.out]; rintro e w4 ⟨A4, c4, rfl, hon, hx⟩; have D4 := Lib.hid (Dy.at_ hon W4.out.1 W4.out.2); have X4 := Lib.hid (X3.out.trans ((Ext.alloc _ _).trans hx)); have Y4 := Lib.hid (Y3.out.trans ((Ext.alloc _ _).trans hx)); have Z4 := Lib.hid hx; clear hon hx)
    | (go_at_call 50; (with_reducible refine (of_any 3 _ (HT.out.ext X4.out) (by omega) (by omega)).mono ?_); rw [H5.out]; rintro e w5 ⟨A5, c5, rfl, hon, hx⟩; have D5 := Lib.hid (Dy.at_ hon W5.out.1 W5.out.2.1); have X5 := Lib.hid (X4.out.trans hx); have Y5 := Lib.hid (Y4.out.trans hx); have Z5 := Lib.hid (Z4.out.trans hx); have V5 := Lib.hid hx; clear hon hx)
    | (go_at_call 16; refine (quo_any 4 (D4.out _ V5.out) (D5.out _ (Ext.refl _)) (HT.out.ext X5.out) (by omega) W5.out.2.2).mono ?_; rw [H6.out]; rintro e w6 ⟨A6, c6, rfl, hon, hx⟩; have D6 := Lib.hid (Dy.at_ hon W6.out.1 W6.out.2.1); have X6 := Lib.hid (X5.out.trans hx); have Y6 := Lib.hid (Y5.out.trans hx); have Z6 := Lib.hid (Z5.out.trans hx); have B6 : Hid (∀ w', Ext (w6.alloc (.cells #[.bool d6.neg, .slice A6 (len d6.m) c6, I d6.den] 24)) w' → St w' w6.heap.size (.bool d6.neg) (.slice A6 (len d6.m) c6) (I d6.den)) := fun _ e => (St.new w6 _ _ _ _).ext e; obtain ⟨k0, k1, k2⟩ := B1.out _ (Y6.out.trans (Ext.alloc _ (.cells #[.bool d6.neg, .slice A6 (len d6.m) c6, I d6.den] 24))); clear hon hx)
    | (go_at_call 32; (with_reducible refine (text_small (D1.out _ ((Ext.alloc _ _).trans (Y6.out.trans (Ext.alloc _ _)))) W1.out.2.2.1 W1.out.2.2.2.1 W1.out.2.2.2.2.1).mono ?_); rw [W1.out.2.2.2.2.2]; rintro e w7 ⟨rfl, hx⟩; have X7 := Lib.hid (X6.out.trans ((Ext.alloc _ _).trans hx)); have V7 := Lib.hid hx; obtain ⟨k3, k4, k5⟩ := B3.out _ (Z6.out.trans ((Ext.alloc _ _).trans hx)); clear hx)
    | (go_at_call 32; (with_reducible refine (text_small (D3.out _ ((Ext.alloc _ _).trans (Z6.out.trans ((Ext.alloc _ _).trans V7.out)))) W3.out.2.2.1 W3.out.2.2.2.1 W3.out.2.2.2.2.1).mono ?_); rw [W3.out.2.2.2.2.2]; rintro e w8 ⟨rfl, hx⟩; have X8 := Lib.hid (X7.out.trans hx); have V8 := Lib.hid (V7.out.trans hx); obtain ⟨k6, k7, k8⟩ := B6.out _ (V7.out.trans hx); clear hx)
    | (go_at_call 32; (with_reducible refine (text_small (D6.out _ ((Ext.alloc _ _).trans V8.out)) W6.out.2.2.1 W6.out.2.2.2.1 W6.out.2.2.2.2.1).mono ?_); rw [W6.out.2.2.2.2.2]; rintro e w9 ⟨rfl, hx⟩; have X9 := Lib.hid (X8.out.trans hx); clear hx))
  trace_state
  go_ret
  exact ⟨rfl, X9.out⟩

end Go.Proofs.YtbghikgagejbiaaDoor
