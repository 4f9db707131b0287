/- Intervals: Valid, interval. -/
import Derived.Test.YtgnngldlgcdnfaaGreatDoorMdz
namespace Go.Proofs.YtgnngldlgcdnfaaGreatDoor
open Go.RowKit

abbrev iv (n1 : Bool) (A : Option Addr) (k c : Nat) (d1 : Int) (n2 : Bool) (B : Option Addr) (m e : Nat) (d2 : Int) : Value := .agg #[.bool n1, .slice A k c, I d1, .bool n2, .slice B m e, I d2]
/-- What Valid of package interval says of an argument. -/
def IvVal (b : Bool) (v : Value) (w : World) : Prop := ∀ w', Ext w w' → Calls Tryz.prog 116 #[v] w' fun e w'' => e = .returned (.bool b) ∧ Ext w' w''
theorem ext_set6 {w w1 : World} {g : Nat} (h : Ext w w1) (hg : w.heap.size ≤ g) (u0 u1 u2 u3 u4 u5 : Value) : Ext w ((((((w1.setCell ⟨g, 0, none⟩ u0).setCell ⟨g, 1, none⟩ u1).setCell ⟨g, 2, none⟩ u2).setCell ⟨g, 3, none⟩ u3).setCell ⟨g, 4, none⟩ u4).setCell ⟨g, 5, none⟩ u5) :=
  Ext.set (Ext.set (Ext.set (ext_set3 h hg _ _ _) hg _) hg _) hg _

/-- A box of six cells. -/
def B6 (w : World) (g : Nat) (v0 v1 v2 v3 v4 v5 : Value) : Prop := (w.cell? ⟨g, 0, none⟩ = some v0 ∧ w.cell? ⟨g, 1, none⟩ = some v1 ∧ w.cell? ⟨g, 2, none⟩ = some v2 ∧ w.cell? ⟨g, 3, none⟩ = some v3 ∧ w.cell? ⟨g, 4, none⟩ = some v4 ∧ w.cell? ⟨g, 5, none⟩ = some v5) ∧ ∀ i, w.frozen? ⟨g, i, none⟩ = false
theorem B6.lt {w : World} {g : Nat} {v0 v1 v2 v3 v4 v5 : Value} (h : B6 w g v0 v1 v2 v3 v4 v5) : g < w.heap.size := World.block_lt_of_cell? w _ h.1.1
theorem B6.ext {w w' : World} {g : Nat} {v0 v1 v2 v3 v4 v5 : Value} (h : B6 w g v0 v1 v2 v3 v4 v5) (e : Ext w w') : B6 w' g v0 v1 v2 v3 v4 v5 := by
  have hl := h.lt
  obtain ⟨⟨h0, h1, h2, h3, h4, h5⟩, hf⟩ := h
  exact ⟨⟨(e.old.1 _ _ hl).trans h0, (e.old.1 _ _ hl).trans h1, (e.old.1 _ _ hl).trans h2, (e.old.1 _ _ hl).trans h3, (e.old.1 _ _ hl).trans h4, (e.old.1 _ _ hl).trans h5⟩, fun i => (e.old.2 _ _ hl).trans (hf i)⟩
theorem B6.new (w : World) (v0 v1 v2 v3 v4 v5 : Value) (t : TypeId) : B6 (w.alloc (.cells #[v0, v1, v2, v3, v4, v5] t)) w.heap.size v0 v1 v2 v3 v4 v5 :=
  ⟨⟨by go_simp, by go_simp, by go_simp, by go_simp, by go_simp, by go_simp⟩, fun i => by go_simp⟩

set_option maxRecDepth 100000 in
set_option maxHeartbeats 1000000 in
theorem interval_t {w : World} {n1 n2 : Bool} {A B : Option Addr} {k c m e : Nat} {d1 d2 : Int} (h : IvVal true (iv n1 A k c d1 n2 B m e d2) w) :
    Calls Tryz.prog 87 #[iv n1 A k c d1 n2 B m e d2] w fun e' w' => e' = .returned (iv n1 A k c d1 n2 B m e d2) ∧ Ext w w' := by
  have H : Hid (∀ w', Ext w w' → Calls Tryz.prog 116 #[iv n1 A k c d1 n2 B m e d2] w' fun e w'' => e = .returned (.bool true) ∧ Ext w' w'') := h
  clear h
  have S0 := Lib.hid ((B6.new w (.bool n1) (.slice A k c) (I d1) (.bool n2) (.slice B m e) (I d2) 58).ext (Ext.alloc _ (.cells #[.bool false, .slice none 0 0, I 0, .bool false, .slice none 0 0, I 0] 58)))
  have S1 : Hid (B6 ((w.alloc (.cells #[.bool n1, .slice A k c, I d1, .bool n2, .slice B m e, I d2] 58)).alloc (.cells #[.bool false, .slice none 0 0, I 0, .bool false, .slice none 0 0, I 0] 58)) (w.heap.size + 1) (.bool false) (.slice none 0 0) (I 0) (.bool false) (.slice none 0 0) (I 0)) := by
    have s := B6.new (w.alloc (.cells #[.bool n1, .slice A k c, I d1, .bool n2, .slice B m e, I d2] 58)) (.bool false) (.slice none 0 0) (I 0) (.bool false) (.slice none 0 0) (I 0) 58
    rw [show (w.alloc (.cells #[.bool n1, .slice A k c, I d1, .bool n2, .slice B m e, I d2] 58)).heap.size = w.heap.size + 1 by simp] at s
    exact s
  go_enter Tryz.func87, Tryz.ntmps87
  go_wp2_with (go_at_call 116; (with_reducible refine (H.out _ ((Ext.alloc _ _).trans (Ext.alloc _ _))).mono ?_); rintro e1 w1 ⟨rfl, hx⟩; obtain ⟨⟨k0, k1, k2, k3, k4, k5⟩, kz⟩ := S0.out.ext hx; obtain ⟨⟨r0, r1, r2, r3, r4, r5⟩, rz⟩ := S1.out.ext hx; have HX := Lib.hid (((Ext.alloc _ _).trans (Ext.alloc _ _)).trans hx); clear hx)
  exact bodyPost_ret (v := iv n1 A k c d1 n2 B m e d2) (by simp [results, Tryz.results87, go_sem, r0, r1, r2, r3, r4, r5]) rfl ⟨rfl, ext_set6 HX.out (by omega) _ _ _ _ _ _⟩

set_option maxRecDepth 100000 in
set_option maxHeartbeats 1000000 in
theorem interval_f {w : World} {n1 n2 : Bool} {A B : Option Addr} {k c m e : Nat} {d1 d2 : Int} (h : IvVal false (iv n1 A k c d1 n2 B m e d2) w) :
    Calls Tryz.prog 87 #[iv n1 A k c d1 n2 B m e d2] w fun e' w' => e' = .returned (iv false none 0 0 0 false none 0 0 0) ∧ Ext w w' := by
  have H : Hid (∀ w', Ext w w' → Calls Tryz.prog 116 #[iv n1 A k c d1 n2 B m e d2] w' fun e w'' => e = .returned (.bool false) ∧ Ext w' w'') := h
  clear h
  have S1 : Hid (B6 ((w.alloc (.cells #[.bool n1, .slice A k c, I d1, .bool n2, .slice B m e, I d2] 58)).alloc (.cells #[.bool false, .slice none 0 0, I 0, .bool false, .slice none 0 0, I 0] 58)) (w.heap.size + 1) (.bool false) (.slice none 0 0) (I 0) (.bool false) (.slice none 0 0) (I 0)) := by
    have s := B6.new (w.alloc (.cells #[.bool n1, .slice A k c, I d1, .bool n2, .slice B m e, I d2] 58)) (.bool false) (.slice none 0 0) (I 0) (.bool false) (.slice none 0 0) (I 0) 58
    rw [show (w.alloc (.cells #[.bool n1, .slice A k c, I d1, .bool n2, .slice B m e, I d2] 58)).heap.size = w.heap.size + 1 by simp] at s
    exact s
  go_enter Tryz.func87, Tryz.ntmps87
  go_wp2_with (go_at_call 116; (with_reducible refine (H.out _ ((Ext.alloc _ _).trans (Ext.alloc _ _))).mono ?_); rintro e1 w1 ⟨rfl, hx⟩; obtain ⟨⟨r0, r1, r2, r3, r4, r5⟩, rz⟩ := S1.out.ext hx; have HX := Lib.hid (((Ext.alloc _ _).trans (Ext.alloc _ _)).trans hx); clear hx)
  exact bodyPost_ret (v := iv false none 0 0 0 false none 0 0 0) (by simp [results, Tryz.results87, go_sem, r0, r1, r2, r3, r4, r5]) rfl ⟨rfl, ext_set6 HX.out (by omega) _ _ _ _ _ _⟩

set_option maxRecDepth 100000 in
set_option maxHeartbeats 1000000 in
theorem ivalid_no1 {w' : World} {n1 n2 : Bool} {A B : Option Addr} {k c m e : Nat} {d1 d2 : Int} (h1 : ∀ w'', Ext w' w'' → Calls Tryz.prog 164 #[dv n1 A k c d1] w'' (VldRes false w'')) :
    Calls Tryz.prog 116 #[iv n1 A k c d1 n2 B m e d2] w' fun e1 w'' => e1 = .returned (.bool false) ∧ Ext w' w'' := by
  have H1 := Lib.hid h1; clear h1
  have S0 := Lib.hid (B6.new w' (.bool n1) (.slice A k c) (I d1) (.bool n2) (.slice B m e) (I d2) 58)
  go_enter Tryz.func116, Tryz.ntmps116
  go_wp2_with (go_at_call 164; (with_reducible refine (H1.out _ (Ext.alloc _ _)).mono ?_); rintro e1 w1 ⟨rfl, hx⟩; have X1 := Lib.hid hx; obtain ⟨⟨k0, k1, k2, k3, k4, k5⟩, kz⟩ := S0.out.ext hx; clear hx)
  go_ret
  exact ⟨rfl, (Ext.alloc _ _).trans X1.out⟩

set_option maxRecDepth 100000 in
set_option maxHeartbeats 1000000 in
theorem ivalid_no2 {w' : World} {n1 n2 : Bool} {A B : Option Addr} {k c m e : Nat} {d1 d2 : Int} (h1 : ∀ w'', Ext w' w'' → Calls Tryz.prog 164 #[dv n1 A k c d1] w'' (VldRes true w'')) (h2 : ∀ w'', Ext w' w'' → Calls Tryz.prog 164 #[dv n2 B m e d2] w'' (VldRes false w'')) :
    Calls Tryz.prog 116 #[iv n1 A k c d1 n2 B m e d2] w' fun e1 w'' => e1 = .returned (.bool false) ∧ Ext w' w'' := by
  have H1 := Lib.hid h1; have H2 := Lib.hid h2; clear h1 h2
  have S0 := Lib.hid (B6.new w' (.bool n1) (.slice A k c) (I d1) (.bool n2) (.slice B m e) (I d2) 58)
  go_enter Tryz.func116, Tryz.ntmps116
  go_wp2_with (first
    | (have hg := X1; clear hg; go_at_call 164; (with_reducible refine (H2.out _ ((Ext.alloc _ _).trans X1.out)).mono ?_); rintro e2 w2 ⟨rfl, hx⟩; have X2 := Lib.hid (X1.out.trans hx); obtain ⟨⟨q0, q1, q2, q3, q4, q5⟩, qz⟩ := S0.out.ext X2.out; clear hx)
    | (go_at_call 164; (with_reducible refine (H1.out _ (Ext.alloc _ _)).mono ?_); rintro e1 w1 ⟨rfl, hx⟩; have X1 := Lib.hid hx; obtain ⟨⟨k0, k1, k2, k3, k4, k5⟩, kz⟩ := S0.out.ext hx; clear hx))
  go_ret
  exact ⟨rfl, (Ext.alloc _ _).trans X2.out⟩

set_option maxRecDepth 100000 in
set_option maxHeartbeats 1000000 in
theorem ivalid_both {w' : World} {n1 n2 : Bool} {A B : Option Addr} {k c m e : Nat} {d1 d2 : Int} (h1 : ∀ w'', Ext w' w'' → Calls Tryz.prog 164 #[dv n1 A k c d1] w'' (VldRes true w'')) (h2 : ∀ w'', Ext w' w'' → Calls Tryz.prog 164 #[dv n2 B m e d2] w'' (VldRes true w'')) (v : Int) (h3 : ∀ w'', Ext w' w'' → Calls Tryz.prog 88 #[dv n1 A k c d1, dv n2 B m e d2] w'' fun e w3 => e = .returned (I v) ∧ Ext w'' w3) :
    Calls Tryz.prog 116 #[iv n1 A k c d1 n2 B m e d2] w' fun e1 w'' => e1 = .returned (.bool (decide (v ≤ 0))) ∧ Ext w' w'' := by
  have H1 := Lib.hid h1; have H2 := Lib.hid h2; have H3 := Lib.hid h3; clear h1 h2 h3
  have S0 := Lib.hid (B6.new w' (.bool n1) (.slice A k c) (I d1) (.bool n2) (.slice B m e) (I d2) 58)
  go_enter Tryz.func116, Tryz.ntmps116
  go_wp2_with (first
    | (go_at_call 88; (with_reducible refine (H3.out _ ((Ext.alloc _ _).trans X2.out)).mono ?_); rintro e3 w3 ⟨rfl, hx⟩; have X3 := Lib.hid (X2.out.trans hx); clear hx)
    | (have hg := X1; clear hg; go_at_call 164; (with_reducible refine (H2.out _ ((Ext.alloc _ _).trans X1.out)).mono ?_); rintro e2 w2 ⟨rfl, hx⟩; have X2 := Lib.hid (X1.out.trans hx); obtain ⟨⟨q0, q1, q2, q3, q4, q5⟩, qz⟩ := S0.out.ext X2.out; clear hx)
    | (go_at_call 164; (with_reducible refine (H1.out _ (Ext.alloc _ _)).mono ?_); rintro e1 w1 ⟨rfl, hx⟩; have X1 := Lib.hid hx; obtain ⟨⟨k0, k1, k2, k3, k4, k5⟩, kz⟩ := S0.out.ext hx; clear hx))
  go_ret
  exact ⟨rfl, (Ext.alloc _ _).trans X3.out⟩

/-- Whether an interval of these fields is valid. -/
def ivB (n1 : Bool) (k : Nat) (f : Nat → Nat) (d1 : Int) (n2 : Bool) (m : Nat) (g : Nat → Nat) (d2 : Int) : Bool := vld n1 k f d1 && (vld n2 m g d2 && decide (cmpD (nrA n1 k f d1) (nrA n2 m g d2) ≤ 0))
theorem ivalid_any {w : World} {n1 n2 : Bool} {A B : Option Addr} {k c m e : Nat} {d1 d2 : Int} {f g : Nat → Nat} (ra : Rd w A k f) (oa : SlOk A k c) (ba : ∀ i, i < k → f i < 4294967296) (ka : k ≤ 16777216)
    (rb : Rd w B m g) (ob : SlOk B m e) (bb : ∀ i, i < m → g i < 4294967296) (kb : m ≤ 16777216) : IvVal (ivB n1 k f d1 n2 m g d2) (iv n1 A k c d1 n2 B m e d2) w := by
  intro w' h
  have v1 := fun w'' (e' : Ext w' w'') => valid_any n1 A k c d1 f w'' (ra.ext (h.trans e')) ba (by omega)
  have v2 := fun w'' (e' : Ext w' w'') => valid_any n2 B m e d2 g w'' (rb.ext (h.trans e')) bb (by omega)
  unfold ivB
  cases h1 : vld n1 k f d1 with
  | false => rw [h1] at v1; exact ivalid_no1 v1
  | true =>
    rw [h1] at v1
    cases h2 : vld n2 m g d2 with
    | false => rw [h2] at v2; exact ivalid_no2 v1 v2
    | true =>
      rw [h2] at v2
      exact ivalid_both v1 v2 _ (fun w'' e' => cmp_any (Dy.any (ra.ext (h.trans e')) oa ba ka) (Dy.any (rb.ext (h.trans e')) ob bb kb))

end Go.Proofs.YtgnngldlgcdnfaaGreatDoor
