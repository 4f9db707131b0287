import Derived.Test.YtgnngldlgcdnfaaGreatDoorQae
namespace Go.Proofs.YtgnngldlgcdnfaaGreatDoor
section
open Go.RowKit
abbrev iv (n1 : Bool) (A : Option Addr) (k c : Nat) (d1 : Int) (n2 : Bool) (B : Option Addr) (m e : Nat) (d2 : Int) : Value := .agg #[.bool n1, .slice A k c, I d1, .bool n2, .slice B m e, I d2]
def IvVal (b : Bool) (v : Value) (w : World) : Prop := ∀ w', Ext w w' → Calls Tryz.prog 116 #[v] w' fun e w'' => e = .returned (.bool b) ∧ Ext w' w''
theorem ext_set6 {w w1 : World} {g : Nat} (h : Ext w w1) (hg : w.heap.size ≤ g) (u0 u1 u2 u3 u4 u5 : Value) : Ext w ((((((w1.setCell ⟨g, 0, none⟩ u0).setCell ⟨g, 1, none⟩ u1).setCell ⟨g, 2, none⟩ u2).setCell ⟨g, 3, none⟩ u3).setCell ⟨g, 4, none⟩ u4).setCell ⟨g, 5, none⟩ u5) :=
 Ext.set (Ext.set (Ext.set (ext_set3 h hg _ _ _) hg _) hg _) hg _
def B6 (w : World) (g : Nat) (v0 v1 v2 v3 v4 v5 : Value) : Prop := (w.cell? ⟨g, 0, none⟩ = some v0 ∧ w.cell? ⟨g, 1, none⟩ = some v1 ∧ w.cell? ⟨g, 2, none⟩ = some v2 ∧ w.cell? ⟨g, 3, none⟩ = some v3 ∧ w.cell? ⟨g, 4, none⟩ = some v4 ∧ w.cell? ⟨g, 5, none⟩ = some v5) ∧ ∀ i, w.frozen? ⟨g, i, none⟩ = false
theorem B6.lt {w : World} {g : Nat} {v0 v1 v2 v3 v4 v5 : Value} (h : B6 w g v0 v1 v2 v3 v4 v5) : g < w.heap.size := World.block_lt_of_cell? w _ h.1.1
theorem B6.ext {w w' : World} {g : Nat} {v0 v1 v2 v3 v4 v5 : Value} (h : B6 w g v0 v1 v2 v3 v4 v5) (e : Ext w w') : B6 w' g v0 v1 v2 v3 v4 v5 := by
 have hl := h.lt
 obtain ⟨⟨h0, h1, h2, h3, h4, h5⟩, hf⟩ := h
 exact ⟨⟨(e.old.1 _ _ hl).trans h0, (e.old.1 _ _ hl).trans h1, (e.old.1 _ _ hl).trans h2, (e.old.1 _ _ hl).trans h3, (e.old.1 _ _ hl).trans h4, (e.old.1 _ _ hl).trans h5⟩, fun i => (e.old.2 _ _ hl).trans (hf i)⟩
theorem B6.new (w : World) (v0 v1 v2 v3 v4 v5 : Value) (t : TypeId) : B6 (w.alloc (.cells #[v0, v1, v2, v3, v4, v5] t)) w.heap.size v0 v1 v2 v3 v4 v5 :=
 ⟨⟨by go_simp, by go_simp, by go_simp, by go_simp, by go_simp, by go_simp⟩, fun i => by go_simp⟩
set_option maxRecDepth 100000 in
set_option maxHeartbeats 1000000 in
theorem interval_t {w : World} {n1 n2 : Bool} {A B : Option Addr} {k c m e : Nat} {d1 d2 : Int} (h : IvVal true (iv n1 A k c d1 n2 B m e d2) w) :
  Calls Tryz.prog 87 #[iv n1 A k c d1 n2 B m e d2] w fun e' w' => e' = .returned (iv n1 A k c d1 n2 B m e d2) ∧ Ext w w' := by
 have H : Hid (∀ w', Ext w w' → Calls Tryz.prog 116 #[iv n1 A k c d1 n2 B m e d2] w' fun e w'' => e = .returned (.bool true) ∧ Ext w' w'') := h
 clear h
 have S0 := Lib.hid ((B6.new w (.bool n1) (.slice A k c) (I d1) (.bool n2) (.slice B m e) (I d2) 58).ext (Ext.alloc _ (.cells #[.bool false, .slice none 0 0, I 0, .bool false, .slice none 0 0, I 0] 58)))
 have S1 : Hid (B6 ((w.alloc (.cells #[.bool n1, .slice A k c, I d1, .bool n2, .slice B m e, I d2] 58)).alloc (.cells #[.bool false, .slice none 0 0, I 0, .bool false, .slice none 0 0, I 0] 58)) (w.heap.size + 1) (.bool false) (.slice none 0 0) (I 0) (.bool false) (.slice none 0 0) (I 0)) := by
  have s := B6.new (w.alloc (.cells #[.bool n1, .slice A k c, I d1, .bool n2, .slice B m e, I d2] 58)) (.bool false) (.slice none 0 0) (I 0) (.bool false) (.slice none 0 0) (I 0) 58
  rw [show (w.alloc (.cells #[.bool n1, .slice A k c, I d1, .bool n2, .slice B m e, I d2] 58)).heap.size = w.heap.size + 1 by simp] at s
  exact s
 go_enter Tryz.func87, Tryz.ntmps87
 go_wp2_with (go_at_call 116; (with_reducible refine (H.out _ ((Ext.alloc _ _).trans (Ext.alloc _ _))).mono ?_); rintro e1 w1 ⟨rfl, hx⟩; obtain ⟨⟨k0, k1, k2, k3, k4, k5⟩, kz⟩ := S0.out.ext hx; obtain ⟨⟨r0, r1, r2, r3, r4, r5⟩, rz⟩ := S1.out.ext hx; have HX := Lib.hid (((Ext.alloc _ _).trans (Ext.alloc _ _)).trans hx); clear hx)
 exact bodyPost_ret (v := iv n1 A k c d1 n2 B m e d2) (by simp [results, Tryz.results87, go_sem, r0, r1, r2, r3, r4, r5]) rfl ⟨rfl, ext_set6 HX.out (by omega) _ _ _ _ _ _⟩
set_option maxRecDepth 100000 in
set_option maxHeartbeats 1000000 in
theorem interval_f {w : World} {n1 n2 : Bool} {A B : Option Addr} {k c m e : Nat} {d1 d2 : Int} (h : IvVal false (iv n1 A k c d1 n2 B m e d2) w) :
  Calls Tryz.prog 87 #[iv n1 A k c d1 n2 B m e d2] w fun e' w' => e' = .returned (iv false none 0 0 0 false none 0 0 0) ∧ Ext w w' := by
 have H : Hid (∀ w', Ext w w' → Calls Tryz.prog 116 #[iv n1 A k c d1 n2 B m e d2] w' fun e w'' => e = .returned (.bool false) ∧ Ext w' w'') := h
 clear h
 have S1 : Hid (B6 ((w.alloc (.cells #[.bool n1, .slice A k c, I d1, .bool n2, .slice B m e, I d2] 58)).alloc (.cells #[.bool false, .slice none 0 0, I 0, .bool false, .slice none 0 0, I 0] 58)) (w.heap.size + 1) (.bool false) (.slice none 0 0) (I 0) (.bool false) (.slice none 0 0) (I 0)) := by
  have s := B6.new (w.alloc (.cells #[.bool n1, .slice A k c, I d1, .bool n2, .slice B m e, I d2] 58)) (.bool false) (.slice none 0 0) (I 0) (.bool false) (.slice none 0 0) (I 0) 58
  rw [show (w.alloc (.cells #[.bool n1, .slice A k c, I d1, .bool n2, .slice B m e, I d2] 58)).heap.size = w.heap.size + 1 by simp] at s
  exact s
 go_enter Tryz.func87, Tryz.ntmps87
 go_wp2_with (go_at_call 116; (with_reducible refine (H.out _ ((Ext.alloc _ _).trans (Ext.alloc _ _))).mono ?_); rintro e1 w1 ⟨rfl, hx⟩; obtain ⟨⟨r0, r1, r2, r3, r4, r5⟩, rz⟩ := S1.out.ext hx; have HX := Lib.hid (((Ext.alloc _ _).trans (Ext.alloc _ _)).trans hx); clear hx)
 exact bodyPost_ret (v := iv false none 0 0 0 false none 0 0 0) (by simp [results, Tryz.results87, go_sem, r0, r1, r2, r3, r4, r5]) rfl ⟨rfl, ext_set6 HX.out (by omega) _ _ _ _ _ _⟩
set_option maxRecDepth 100000 in
set_option maxHeartbeats 1000000 in
theorem ivalid_no1 {w' : World} {n1 n2 : Bool} {A B : Option Addr} {k c m e : Nat} {d1 d2 : Int} (h1 : ∀ w'', Ext w' w'' → Calls Tryz.prog 164 #[dv n1 A k c d1] w'' (VldRes false w'')) :
  Calls Tryz.prog 116 #[iv n1 A k c d1 n2 B m e d2] w' fun e1 w'' => e1 = .returned (.bool false) ∧ Ext w' w'' := by
 have H1 := Lib.hid h1; clear h1
 have S0 := Lib.hid (B6.new w' (.bool n1) (.slice A k c) (I d1) (.bool n2) (.slice B m e) (I d2) 58)
 go_enter Tryz.func116, Tryz.ntmps116
 go_wp2_with (go_at_call 164; (with_reducible refine (H1.out _ (Ext.alloc _ _)).mono ?_); rintro e1 w1 ⟨rfl, hx⟩; have X1 := Lib.hid hx; obtain ⟨⟨k0, k1, k2, k3, k4, k5⟩, kz⟩ := S0.out.ext hx; clear hx)
 go_ret
 exact ⟨rfl, (Ext.alloc _ _).trans X1.out⟩
set_option maxRecDepth 100000 in
set_option maxHeartbeats 1000000 in
theorem ivalid_no2 {w' : World} {n1 n2 : Bool} {A B : Option Addr} {k c m e : Nat} {d1 d2 : Int} (h1 : ∀ w'', Ext w' w'' → Calls Tryz.prog 164 #[dv n1 A k c d1] w'' (VldRes true w'')) (h2 : ∀ w'', Ext w' w'' → Calls Tryz.prog 164 #[dv n2 B m e d2] w'' (VldRes false w'')) :
  Calls Tryz.prog 116 #[iv n1 A k c d1 n2 B m e d2] w' fun e1 w'' => e1 = .returned (.bool false) ∧ Ext w' w'' := by
 have H1 := Lib.hid h1; have H2 := Lib.hid h2; clear h1 h2
 have S0 := Lib.hid (B6.new w' (.bool n1) (.slice A k c) (I d1) (.bool n2) (.slice B m e) (I d2) 58)
 go_enter Tryz.func116, Tryz.ntmps116
 go_wp2_with (first
  | (have hg := X1; clear hg; go_at_call 164; (with_reducible refine (H2.out _ ((Ext.alloc _ _).trans X1.out)).mono ?_); rintro e2 w2 ⟨rfl, hx⟩; have X2 := Lib.hid (X1.out.trans hx); obtain ⟨⟨q0, q1, q2, q3, q4, q5⟩, qz⟩ := S0.out.ext X2.out; clear hx)
  | (go_at_call 164; (with_reducible refine (H1.out _ (Ext.alloc _ _)).mono ?_); rintro e1 w1 ⟨rfl, hx⟩; have X1 := Lib.hid hx; obtain ⟨⟨k0, k1, k2, k3, k4, k5⟩, kz⟩ := S0.out.ext hx; clear hx))
 go_ret
 exact ⟨rfl, (Ext.alloc _ _).trans X2.out⟩
set_option maxRecDepth 100000 in
set_option maxHeartbeats 1000000 in
theorem ivalid_both {w' : World} {n1 n2 : Bool} {A B : Option Addr} {k c m e : Nat} {d1 d2 : Int} (h1 : ∀ w'', Ext w' w'' → Calls Tryz.prog 164 #[dv n1 A k c d1] w'' (VldRes true w'')) (h2 : ∀ w'', Ext w' w'' → Calls Tryz.prog 164 #[dv n2 B m e d2] w'' (VldRes true w'')) (v : Int) (h3 : ∀ w'', Ext w' w'' → Calls Tryz.prog 88 #[dv n1 A k c d1, dv n2 B m e d2] w'' fun e w3 => e = .returned (I v) ∧ Ext w'' w3) :
  Calls Tryz.prog 116 #[iv n1 A k c d1 n2 B m e d2] w' fun e1 w'' => e1 = .returned (.bool (decide (v ≤ 0))) ∧ Ext w' w'' := by
 have H1 := Lib.hid h1; have H2 := Lib.hid h2; have H3 := Lib.hid h3; clear h1 h2 h3
 have S0 := Lib.hid (B6.new w' (.bool n1) (.slice A k c) (I d1) (.bool n2) (.slice B m e) (I d2) 58)
 go_enter Tryz.func116, Tryz.ntmps116
 go_wp2_with (first
  | (go_at_call 88; (with_reducible refine (H3.out _ ((Ext.alloc _ _).trans X2.out)).mono ?_); rintro e3 w3 ⟨rfl, hx⟩; have X3 := Lib.hid (X2.out.trans hx); clear hx)
  | (have hg := X1; clear hg; go_at_call 164; (with_reducible refine (H2.out _ ((Ext.alloc _ _).trans X1.out)).mono ?_); rintro e2 w2 ⟨rfl, hx⟩; have X2 := Lib.hid (X1.out.trans hx); obtain ⟨⟨q0, q1, q2, q3, q4, q5⟩, qz⟩ := S0.out.ext X2.out; clear hx)
  | (go_at_call 164; (with_reducible refine (H1.out _ (Ext.alloc _ _)).mono ?_); rintro e1 w1 ⟨rfl, hx⟩; have X1 := Lib.hid hx; obtain ⟨⟨k0, k1, k2, k3, k4, k5⟩, kz⟩ := S0.out.ext hx; clear hx))
 go_ret
 exact ⟨rfl, (Ext.alloc _ _).trans X3.out⟩
def ivB (n1 : Bool) (k : Nat) (f : Nat → Nat) (d1 : Int) (n2 : Bool) (m : Nat) (g : Nat → Nat) (d2 : Int) : Bool := vld n1 k f d1 && (vld n2 m g d2 && decide (cmpD (nrA n1 k f d1) (nrA n2 m g d2) ≤ 0))
theorem ivalid_any {w : World} {n1 n2 : Bool} {A B : Option Addr} {k c m e : Nat} {d1 d2 : Int} {f g : Nat → Nat} (ra : Rd w A k f) (oa : SlOk A k c) (ba : ∀ i, i < k → f i < 4294967296) (ka : k ≤ 16777216)
  (rb : Rd w B m g) (ob : SlOk B m e) (bb : ∀ i, i < m → g i < 4294967296) (kb : m ≤ 16777216) : IvVal (ivB n1 k f d1 n2 m g d2) (iv n1 A k c d1 n2 B m e d2) w := by
 intro w' h
 have v1 := fun w'' (e' : Ext w' w'') => valid_any n1 A k c d1 f w'' (ra.ext (h.trans e')) ba (by omega)
 have v2 := fun w'' (e' : Ext w' w'') => valid_any n2 B m e d2 g w'' (rb.ext (h.trans e')) bb (by omega)
 unfold ivB
 cases h1 : vld n1 k f d1 with
 | false => rw [h1] at v1; exact ivalid_no1 v1
 | true =>
  rw [h1] at v1
  cases h2 : vld n2 m g d2 with
  | false => rw [h2] at v2; exact ivalid_no2 v1 v2
  | true =>
   rw [h2] at v2
   exact ivalid_both v1 v2 _ (fun w'' e' => cmp_any (Dy.any (ra.ext (h.trans e')) oa ba ka) (Dy.any (rb.ext (h.trans e')) ob bb kb))
end
section
section
open Go.RowKit
attribute [local go_sem ↓] Go.wp_at_zero Go.wp_at_succ
theorem add_same {a b : DV} (h : a.neg = b.neg) : addD a b = mkD a.neg (al a (max a.den b.den) + al b (max a.den b.den)) (max a.den b.den) := by unfold addD; rw [if_pos h]
theorem add_lt {a b : DV} (h : a.neg ≠ b.neg) (h2 : al a (max a.den b.den) < al b (max a.den b.den)) : addD a b = mkD b.neg (al b (max a.den b.den) - al a (max a.den b.den)) (max a.den b.den) := by unfold addD; rw [if_neg h, if_pos h2]
theorem add_ge {a b : DV} (h : a.neg ≠ b.neg) (h2 : ¬ al a (max a.den b.den) < al b (max a.den b.den)) : addD a b = mkD a.neg (al a (max a.den b.den) - al b (max a.den b.den)) (max a.den b.den) := by unfold addD; rw [if_neg h, if_neg h2]
theorem cmpF_lt0 {x y : Nat} : cmpF x y < 0 ↔ x < y := by
 unfold cmpF
 by_cases h : x < y
 ·simp [h]
 ·by_cases h2 : y < x <;> simp [h, h2]
theorem keepT {w w0 w' : World} {a b : DV} {A B : Option Addr} {ca cb : Nat} (h : Two w a b A B ca cb w0) (e : Ext w0 w') : Two w a b A B ca cb w' := ⟨h.1.trans e, h.2.1.ext e, h.2.2.1.ext e, h.2.2.2.ext e⟩
theorem len_add (x y : Nat) : len (x + y) ≤ max (len x) (len y) + 1 := by
 refine len_le ?_
 have h1 := lt_pB (m := x) (n := max (len x) (len y)) (by omega)
 have h2 := lt_pB (m := y) (n := max (len x) (len y)) (by omega)
 rw [pB_succ]; omega
set_option maxRecDepth 100000 in
set_option maxHeartbeats 1000000 in
theorem add_any {w : World} {na nb : Bool} {A A' B B' : Option Addr} {n c c' k e e' : Nat} {da db : Int} {a b : DV} (ha : Dy w na A n c da a A' c') (hb' : Dy w nb B k e db b B' e') (hT : Tabs w) :
  Calls Tryz.prog 201 #[dv na A n c da, dv nb B k e db] w (DyRes (addD a b) w) := by
 have HA := Lib.hid ha; have HB := Lib.hid hb'; have HT := Lib.hid hT; clear ha hb' hT
 obtain ⟨X0, X1, X2, XE⟩ := three_boxes w (.bool na) (.slice A n c) (I da) (.bool nb) (.slice B k e) (I db) (.bool false) (.slice none 0 0) (I 0) 56 56 56
 have HX0 := Lib.hid X0; have HX1 := Lib.hid X1; have HX2 := Lib.hid X2; have HXE := Lib.hid XE
 clear X0 X1 X2 XE
 have HAL : Hid (∀ w', Ext w w' → Calls Tryz.prog 154 #[dv a.neg A' (len a.m) c' a.den, dv b.neg B' (len b.m) e' b.den] w' (AlRes (al a (max a.den b.den)) (al b (max a.den b.den)) (max a.den b.den) w')) := fun w' e => aligned_any (HA.out.rd.ext e) (HB.out.rd.ext e) HA.out.wf.2.1 HB.out.wf.2.1 HA.out.lim HB.out.lim
 have hD3 : max a.den b.den ≤ 65536 := by have h3 := HA.out.wf.2.1; have h4 := HB.out.wf.2.1; omega
 have hlx : len (al a (max a.den b.den)) ≤ 16779300 := by
  have h1 := len_shl a.m (max a.den b.den - a.den)
  have h2 := HA.out.lim
  unfold al; omega
 have hly : len (al b (max a.den b.den)) ≤ 16779300 := by
  have h1 := len_shl b.m (max a.den b.den - b.den)
  have h2 := HB.out.lim
  unfold al; omega
 have HS1 : Hid (a.neg = b.neg → nrmI a.neg (al a (max a.den b.den) + al b (max a.den b.den)) (max a.den b.den : Nat) = addD a b) := fun h => by rw [nrmI_nat, add_same h]
 have HS2 : Hid (a.neg ≠ b.neg → al a (max a.den b.den) < al b (max a.den b.den) → nrmI b.neg (al b (max a.den b.den) - al a (max a.den b.den)) (max a.den b.den : Nat) = addD a b) := fun h h2 => by rw [nrmI_nat, add_lt h h2]
 have HS3 : Hid (a.neg ≠ b.neg → ¬ al a (max a.den b.den) < al b (max a.den b.den) → nrmI a.neg (al a (max a.den b.den) - al b (max a.den b.den)) (max a.den b.den : Nat) = addD a b) := fun h h2 => by rw [nrmI_nat, add_ge h h2]
 generalize al a (max a.den b.den) = x at *
 generalize al b (max a.den b.den) = y at *
 generalize max a.den b.den = D at *
 generalize addD a b = d' at *
 go_enter Tryz.func201, Tryz.ntmps201
 go_upto_region 1 with fail
 go_cut [] (fun wx => Two w a b A' B' c' e' wx)
 case first =>
  go_region_with ((first | (go_at_call 151; refine (HA.out.num _ (HXE.out.trans (by repeat (first | exact Ext.refl _ | assumption | refine Ext.trans ?_ (Ext.drew _) | refine Ext.trans ?_ (by assumption))))).mono ?_; rintro e wa ⟨rfl, hxa⟩; have ga0 := (HX0.out.ext (w' := wa) (by repeat (first | exact Ext.refl _ | assumption | refine Ext.trans ?_ (Ext.drew _) | refine Ext.trans ?_ (by assumption)))).2; have ga1 := (HX1.out.ext (w' := wa) (by repeat (first | exact Ext.refl _ | assumption | refine Ext.trans ?_ (Ext.drew _) | refine Ext.trans ?_ (by assumption)))).2; obtain ⟨ka0, ka1, ka2, ka3, ka4, ka5⟩ := keepB HX0.out HX1.out (w' := wa) (by repeat (first | exact Ext.refl _ | assumption | refine Ext.trans ?_ (Ext.drew _) | refine Ext.trans ?_ (by assumption)))) | (go_at_call 151; refine (HB.out.num _ (HXE.out.trans (by repeat (first | exact Ext.refl _ | assumption | refine Ext.trans ?_ (Ext.drew _) | refine Ext.trans ?_ (by assumption))))).mono ?_; rintro e wb ⟨rfl, hxb⟩; have gb0 := (HX0.out.ext (w' := wb) (by repeat (first | exact Ext.refl _ | assumption | refine Ext.trans ?_ (Ext.drew _) | refine Ext.trans ?_ (by assumption)))).2; have gb1 := (HX1.out.ext (w' := wb) (by repeat (first | exact Ext.refl _ | assumption | refine Ext.trans ?_ (Ext.drew _) | refine Ext.trans ?_ (by assumption)))).2; obtain ⟨kb0, kb1, kb2, kb3, kb4, kb5⟩ := keepB HX0.out HX1.out (w' := wb) (by repeat (first | exact Ext.refl _ | assumption | refine Ext.trans ?_ (Ext.drew _) | refine Ext.trans ?_ (by assumption))))))
  all_goals
   go_wp2_with fail
   go_meet
   exact two_of HX0.out HX1.out HX2.out HXE.out (by repeat (first | exact Ext.refl _ | assumption | refine Ext.trans ?_ (Ext.drew _) | refine Ext.trans ?_ (by assumption)))
 case rest =>
  clear HX0 HX1 HX2 HXE
  have HO := Lib.hid hcut
  clear hcut
  obtain ⟨k0, k1, k2, k3, k4, k5⟩ := keepB HO.out.2.1 HO.out.2.2.1 (Ext.refl _)
  have g2 := HO.out.2.2.2.2
  obtain ⟨r0, r1, r2⟩ := HO.out.2.2.2.1
  have hn2 : ¬ w.heap.size + 1 + 1 = w.heap.size := by omega
  have hn3 : ¬ w.heap.size = w.heap.size + 1 + 1 := by omega
  by_cases hs : a.neg = b.neg
  ·have hs' : (a.neg == b.neg) = true := by simpa using hs
   have HSS := Lib.hid (HS1.out hs)
   clear hs
   go_wp2_with (go_at_call 154; refine (HAL.out _ HO.out.1).mono ?_; rintro e w3 ⟨A1, c1, A2, c2, rfl, hon1, hon2, hx⟩; have HO1 := Lib.hid hon1; have HO2 := Lib.hid hon2; clear hon1 hon2 k0 k1 k2 k3 k4 k5 g2 r0 r1 r2; obtain ⟨k0, k1, k2, k3, k4, k5⟩ := keepB HO.out.2.1 HO.out.2.2.1 hx; have HO3 := Lib.hid (keepT HO.out hx); have g2 := HO3.out.2.2.2.2; obtain ⟨r0, r1, r2⟩ := HO3.out.2.2.2.1; clear hx)
   have HOQ := HO3
   go_region_held3 (fun w' => w'.cell? ⟨w.heap.size, 0, none⟩ = some (.bool a.neg) ∧ w'.cell? ⟨w.heap.size, 1, none⟩ = some (.slice A' (len a.m) c') ∧ w'.cell? ⟨w.heap.size, 2, none⟩ = some (I a.den) ∧ w'.cell? ⟨w.heap.size + 1, 0, none⟩ = some (.bool b.neg) ∧ w'.cell? ⟨w.heap.size + 1, 1, none⟩ = some (.slice B' (len b.m) e') ∧ w'.cell? ⟨w.heap.size + 1, 2, none⟩ = some (I b.den)) (go_keep)
    (first
     | (go_at_call 206; refine (sum_any A1 A2 x y c1 c2 _ (HO1.out.rd.ext (Ext.drew _)) (HO2.out.rd.ext (Ext.drew _)) HO1.out.ok HO2.out.ok (by omega) (by omega)).mono ?_; rintro e w5 ⟨A5, c5, rfl, hon5, hx5⟩; have HO5 := Lib.hid hon5; have HT5 := Lib.hid (keepT HOQ.out ((Ext.drew _).trans hx5)); clear hon5; obtain ⟨q0, q1, q2, q3, q4, q5⟩ := keepB HOQ.out.2.1 HOQ.out.2.2.1 (w' := w5) ((Ext.drew _).trans hx5))
     | (go_at_call 187; refine (normal_at _ A5 (x + y) c5 _ _ d' HSS.out (HT.out.ext HT5.out.1) HO5.out.rd HO5.out.ok (by have := len_add x y; omega) (by omega) (by omega)).mono ?_; rintro e w6 ⟨A6, c6, rfl, hon6, hx6⟩; have HO6 := Lib.hid hon6; have HT6 := Lib.hid (keepT HT5.out hx6); clear hon6; obtain ⟨p0, p1, p2, p3, p4, p5⟩ := keepB HT5.out.2.1 HT5.out.2.2.1 (w' := w6) hx6; have gz := HT6.out.2.2.2.2; obtain ⟨z0, z1, z2⟩ := HT6.out.2.2.2.1))
   all_goals
    have hlt := HT5.out.2.2.2.lt
    go_wp2_with fail
    exact bodyPost_ret (v := dv d'.neg A6 (len d'.m) c6 d'.den) (by simp [results, Tryz.results201, go_sem, z0, z1, z2]) rfl (DyRes.end3 rfl HO6.out HT6.out.1 (by omega) (by omega) hlt)
  ·have hs' : (a.neg == b.neg) = false := by simpa using hs
   by_cases hxy : x < y
   ·have HSS := Lib.hid (HS2.out hs hxy)
    have HCF := Lib.hid (cmp_lt hxy)
    have hle : x ≤ y := by omega
    clear hs
    go_wp2_with (first | (go_at_call 154; refine (HAL.out _ HO.out.1).mono ?_; rintro e w3 ⟨A1, c1, A2, c2, rfl, hon1, hon2, hx⟩; have HO1 := Lib.hid hon1; have HO2 := Lib.hid hon2; clear hon1 hon2 k0 k1 k2 k3 k4 k5 g2 r0 r1 r2; obtain ⟨k0, k1, k2, k3, k4, k5⟩ := keepB HO.out.2.1 HO.out.2.2.1 hx; have HO3 := Lib.hid (keepT HO.out hx); have g2 := HO3.out.2.2.2.2; obtain ⟨r0, r1, r2⟩ := HO3.out.2.2.2.1; clear hx) | (go_at_call 155; refine (compare_any A1 A2 x y c1 c2 _ HO1.out.rd HO2.out.rd (by omega)).mono ?_; rintro e w4 ⟨rfl, hx⟩; rw [HCF.out]; clear k0 k1 k2 k3 k4 k5 g2 r0 r1 r2; obtain ⟨k0, k1, k2, k3, k4, k5⟩ := keepB HO3.out.2.1 HO3.out.2.2.1 hx; have HOQ := Lib.hid (keepT HO3.out hx); have g2 := HOQ.out.2.2.2.2; obtain ⟨r0, r1, r2⟩ := HOQ.out.2.2.2.1; have HX4 := Lib.hid hx; clear hx))
    go_region_held3 (fun w' => w'.cell? ⟨w.heap.size, 0, none⟩ = some (.bool a.neg) ∧ w'.cell? ⟨w.heap.size, 1, none⟩ = some (.slice A' (len a.m) c') ∧ w'.cell? ⟨w.heap.size, 2, none⟩ = some (I a.den) ∧ w'.cell? ⟨w.heap.size + 1, 0, none⟩ = some (.bool b.neg) ∧ w'.cell? ⟨w.heap.size + 1, 1, none⟩ = some (.slice B' (len b.m) e') ∧ w'.cell? ⟨w.heap.size + 1, 2, none⟩ = some (I b.den)) (go_keep)
     (first
      | (go_at_call 214; refine (difference_any A2 A1 y x c2 c1 _ (HO2.out.rd.ext (HX4.out.trans (Ext.drew _))) (HO1.out.rd.ext (HX4.out.trans (Ext.drew _))) HO2.out.ok hle (by omega)).mono ?_; rintro e w5 ⟨A5, c5, rfl, hon5, hx5⟩; have HO5 := Lib.hid hon5; have HT5 := Lib.hid (keepT HOQ.out ((Ext.drew _).trans hx5)); clear hon5; obtain ⟨q0, q1, q2, q3, q4, q5⟩ := keepB HOQ.out.2.1 HOQ.out.2.2.1 (w' := w5) ((Ext.drew _).trans hx5))
      | (go_at_call 187; refine (normal_at _ A5 (y - x) c5 _ _ d' HSS.out (HT.out.ext HT5.out.1) HO5.out.rd HO5.out.ok (by have := len_mono (Nat.sub_le y x); omega) (by omega) (by omega)).mono ?_; rintro e w6 ⟨A6, c6, rfl, hon6, hx6⟩; have HO6 := Lib.hid hon6; have HT6 := Lib.hid (keepT HT5.out hx6); clear hon6; obtain ⟨p0, p1, p2, p3, p4, p5⟩ := keepB HT5.out.2.1 HT5.out.2.2.1 (w' := w6) hx6; have gz := HT6.out.2.2.2.2; obtain ⟨z0, z1, z2⟩ := HT6.out.2.2.2.1))
    all_goals
     have hlt := HT5.out.2.2.2.lt
     go_wp2_with fail
     exact bodyPost_ret (v := dv d'.neg A6 (len d'.m) c6 d'.den) (by simp [results, Tryz.results201, go_sem, z0, z1, z2]) rfl (DyRes.end3 rfl HO6.out HT6.out.1 (by omega) (by omega) hlt)
   ·have HSS := Lib.hid (HS3.out hs hxy)
    have hcv : ¬ cmpF x y < 0 := fun h => hxy (cmpF_lt0.1 h)
    obtain ⟨cv, hcv'⟩ : ∃ cv, cmpF x y = cv := ⟨_, rfl⟩
    rw [hcv'] at hcv
    have HCF := Lib.hid hcv'
    have hle : y ≤ x := by omega
    clear hs hcv'
    go_wp2_with (first | (go_at_call 154; refine (HAL.out _ HO.out.1).mono ?_; rintro e w3 ⟨A1, c1, A2, c2, rfl, hon1, hon2, hx⟩; have HO1 := Lib.hid hon1; have HO2 := Lib.hid hon2; clear hon1 hon2 k0 k1 k2 k3 k4 k5 g2 r0 r1 r2; obtain ⟨k0, k1, k2, k3, k4, k5⟩ := keepB HO.out.2.1 HO.out.2.2.1 hx; have HO3 := Lib.hid (keepT HO.out hx); have g2 := HO3.out.2.2.2.2; obtain ⟨r0, r1, r2⟩ := HO3.out.2.2.2.1; clear hx) | (go_at_call 155; refine (compare_any A1 A2 x y c1 c2 _ HO1.out.rd HO2.out.rd (by omega)).mono ?_; rintro e w4 ⟨rfl, hx⟩; rw [HCF.out]; clear k0 k1 k2 k3 k4 k5 g2 r0 r1 r2; obtain ⟨k0, k1, k2, k3, k4, k5⟩ := keepB HO3.out.2.1 HO3.out.2.2.1 hx; have HOQ := Lib.hid (keepT HO3.out hx); have g2 := HOQ.out.2.2.2.2; obtain ⟨r0, r1, r2⟩ := HOQ.out.2.2.2.1; have HX4 := Lib.hid hx; clear hx))
    go_region_held3 (fun w' => w'.cell? ⟨w.heap.size, 0, none⟩ = some (.bool a.neg) ∧ w'.cell? ⟨w.heap.size, 1, none⟩ = some (.slice A' (len a.m) c') ∧ w'.cell? ⟨w.heap.size, 2, none⟩ = some (I a.den) ∧ w'.cell? ⟨w.heap.size + 1, 0, none⟩ = some (.bool b.neg) ∧ w'.cell? ⟨w.heap.size + 1, 1, none⟩ = some (.slice B' (len b.m) e') ∧ w'.cell? ⟨w.heap.size + 1, 2, none⟩ = some (I b.den)) (go_keep)
     (first
      | (go_at_call 214; refine (difference_any A1 A2 x y c1 c2 _ (HO1.out.rd.ext (HX4.out.trans (Ext.drew _))) (HO2.out.rd.ext (HX4.out.trans (Ext.drew _))) HO1.out.ok hle (by omega)).mono ?_; rintro e w5 ⟨A5, c5, rfl, hon5, hx5⟩; have HO5 := Lib.hid hon5; have HT5 := Lib.hid (keepT HOQ.out ((Ext.drew _).trans hx5)); clear hon5; obtain ⟨q0, q1, q2, q3, q4, q5⟩ := keepB HOQ.out.2.1 HOQ.out.2.2.1 (w' := w5) ((Ext.drew _).trans hx5))
      | (go_at_call 187; refine (normal_at _ A5 (x - y) c5 _ _ d' HSS.out (HT.out.ext HT5.out.1) HO5.out.rd HO5.out.ok (by have := len_mono (Nat.sub_le x y); omega) (by omega) (by omega)).mono ?_; rintro e w6 ⟨A6, c6, rfl, hon6, hx6⟩; have HO6 := Lib.hid hon6; have HT6 := Lib.hid (keepT HT5.out hx6); clear hon6; obtain ⟨p0, p1, p2, p3, p4, p5⟩ := keepB HT5.out.2.1 HT5.out.2.2.1 (w' := w6) hx6; have gz := HT6.out.2.2.2.2; obtain ⟨z0, z1, z2⟩ := HT6.out.2.2.2.1))
    all_goals
     have hlt := HT5.out.2.2.2.lt
     go_wp2_with fail
     exact bodyPost_ret (v := dv d'.neg A6 (len d'.m) c6 d'.den) (by simp [results, Tryz.results201, go_sem, z0, z1, z2]) rfl (DyRes.end3 rfl HO6.out HT6.out.1 (by omega) (by omega) hlt)
end
section
open Go.RowKit
attribute [local go_sem ↓] Go.wp_at_zero Go.wp_at_succ
theorem nrm_m_le (neg : Bool) (m k : Nat) : (nrm neg m k).m ≤ m := by
 unfold nrm; split
 ·exact Nat.zero_le _
 ·exact Nat.div_le_self _ _
theorem mkD_m_le (neg : Bool) (m k : Nat) : (mkD neg m k).m ≤ m := by
 unfold mkD; split
 ·exact nrm_m_le _ _ _
 ·exact Nat.le_trans (nrm_m_le _ _ _) (Nat.div_le_self _ _)
theorem len_negD (d : DV) : len (negD d).m ≤ len d.m := len_mono (mkD_m_le _ _ _)
theorem Dy.of_on {w w0 : World} {d : DV} {A : Option Addr} {c b : Nat} (h : On w b A (len d.m) c (dg d.m)) (wf : d.ok) (hl : len d.m ≤ 16777216) (e : Ext w w0) : Dy w0 d.neg A (len d.m) c d.den d A c := (Dy.valid h.rd h.ok wf hl).ext e
theorem min_r {a b : DV} (h : 0 < cmpD a b) : minD a b = b := by unfold minD; rw [if_pos h]
theorem min_l {a b : DV} (h : ¬ 0 < cmpD a b) : minD a b = a := by unfold minD; rw [if_neg h]
theorem max_r {a b : DV} (h : cmpD a b < 0) : maxD a b = b := by unfold maxD; rw [if_pos h]
theorem max_l {a b : DV} (h : ¬ cmpD a b < 0) : maxD a b = a := by unfold maxD; rw [if_neg h]
set_option maxRecDepth 100000 in
set_option maxHeartbeats 1000000 in
theorem min_any {w : World} {na nb : Bool} {A A' B B' : Option Addr} {n c c' k e e' : Nat} {da db : Int} {a b : DV} (ha : Dy w na A n c da a A' c') (hb' : Dy w nb B k e db b B' e') (hT : Tabs w) :
  Calls Tryz.prog 202 #[dv na A n c da, dv nb B k e db] w (DyRes (minD a b) w) := by
 have HA := Lib.hid ha; have HB := Lib.hid hb'; have HT := Lib.hid hT; clear ha hb' hT
 obtain ⟨X0, X1, X2, XE⟩ := three_boxes w (.bool na) (.slice A n c) (I da) (.bool nb) (.slice B k e) (I db) (.bool false) (.slice none 0 0) (I 0) 56 56 56
 have HX0 := Lib.hid X0; have HX1 := Lib.hid X1; have HX2 := Lib.hid X2; have HXE := Lib.hid XE
 clear X0 X1 X2 XE
 by_cases hc : 0 < cmpD a b
 ·have HR := Lib.hid (min_r hc)
  rw [HR.out]
  obtain ⟨v, hv⟩ : ∃ v, cmpD a b = v := ⟨_, rfl⟩
  rw [hv] at hc
  have HV := Lib.hid hv
  clear hv
  go_enter Tryz.func202, Tryz.ntmps202
  go_wp2_with (go_at_call 88; refine (cmp_any (HA.out.ext HXE.out) (HB.out.ext HXE.out)).mono ?_; rintro e w5 ⟨rfl, hx5⟩; rw [HV.out]; obtain ⟨k0, k1, k2, k3, k4, k5⟩ := keepB HX0.out HX1.out (w' := w5) hx5; have gz := (HX2.out.ext hx5).2; obtain ⟨z0, z1, z2⟩ := (HX2.out.ext hx5).1; have HX5 := Lib.hid hx5; clear hx5)
  refine (fresh_any (HB.out.ext (HXE.out.trans HX5.out)) (HT.out.ext (HXE.out.trans HX5.out))).mono ?_
  rintro e w6 ⟨A6, c6, rfl, hon6, hx6⟩
  have gz6 := (HX2.out.ext (HX5.out.trans hx6)).2
  obtain ⟨y0, y1, y2⟩ := (HX2.out.ext (HX5.out.trans hx6)).1
  have HO6 := Lib.hid hon6
  have HXF := Lib.hid ((HXE.out.trans HX5.out).trans hx6)
  have hlt := (HX2.out.ext HX5.out).lt
  clear hon6 hx6
  go_wp2_with fail
  exact bodyPost_ret (v := dv b.neg A6 (len b.m) c6 b.den) (by simp [results, Tryz.results202, go_sem, y0, y1, y2]) rfl (DyRes.end3 rfl HO6.out HXF.out (by omega) (by omega) hlt)
 ·have HR := Lib.hid (min_l hc)
  rw [HR.out]
  obtain ⟨v, hv⟩ : ∃ v, cmpD a b = v := ⟨_, rfl⟩
  rw [hv] at hc
  have HV := Lib.hid hv
  clear hv
  go_enter Tryz.func202, Tryz.ntmps202
  go_wp2_with (go_at_call 88; refine (cmp_any (HA.out.ext HXE.out) (HB.out.ext HXE.out)).mono ?_; rintro e w5 ⟨rfl, hx5⟩; rw [HV.out]; obtain ⟨k0, k1, k2, k3, k4, k5⟩ := keepB HX0.out HX1.out (w' := w5) hx5; have gz := (HX2.out.ext hx5).2; obtain ⟨z0, z1, z2⟩ := (HX2.out.ext hx5).1; have HX5 := Lib.hid hx5; clear hx5)
  refine (fresh_any (HA.out.ext (HXE.out.trans HX5.out)) (HT.out.ext (HXE.out.trans HX5.out))).mono ?_
  rintro e w6 ⟨A6, c6, rfl, hon6, hx6⟩
  have gz6 := (HX2.out.ext (HX5.out.trans hx6)).2
  obtain ⟨y0, y1, y2⟩ := (HX2.out.ext (HX5.out.trans hx6)).1
  have HO6 := Lib.hid hon6
  have HXF := Lib.hid ((HXE.out.trans HX5.out).trans hx6)
  have hlt := (HX2.out.ext HX5.out).lt
  clear hon6 hx6
  go_wp2_with fail
  exact bodyPost_ret (v := dv a.neg A6 (len a.m) c6 a.den) (by simp [results, Tryz.results202, go_sem, y0, y1, y2]) rfl (DyRes.end3 rfl HO6.out HXF.out (by omega) (by omega) hlt)
set_option maxRecDepth 100000 in
set_option maxHeartbeats 1000000 in
theorem max_any {w : World} {na nb : Bool} {A A' B B' : Option Addr} {n c c' k e e' : Nat} {da db : Int} {a b : DV} (ha : Dy w na A n c da a A' c') (hb' : Dy w nb B k e db b B' e') (hT : Tabs w) :
  Calls Tryz.prog 183 #[dv na A n c da, dv nb B k e db] w (DyRes (maxD a b) w) := by
 have HA := Lib.hid ha; have HB := Lib.hid hb'; have HT := Lib.hid hT; clear ha hb' hT
 obtain ⟨X0, X1, X2, XE⟩ := three_boxes w (.bool na) (.slice A n c) (I da) (.bool nb) (.slice B k e) (I db) (.bool false) (.slice none 0 0) (I 0) 56 56 56
 have HX0 := Lib.hid X0; have HX1 := Lib.hid X1; have HX2 := Lib.hid X2; have HXE := Lib.hid XE
 clear X0 X1 X2 XE
 by_cases hc : cmpD a b < 0
 ·have HR := Lib.hid (max_r hc)
  rw [HR.out]
  obtain ⟨v, hv⟩ : ∃ v, cmpD a b = v := ⟨_, rfl⟩
  rw [hv] at hc
  have HV := Lib.hid hv
  clear hv
  go_enter Tryz.func183, Tryz.ntmps183
  go_wp2_with (go_at_call 88; refine (cmp_any (HA.out.ext HXE.out) (HB.out.ext HXE.out)).mono ?_; rintro e w5 ⟨rfl, hx5⟩; rw [HV.out]; obtain ⟨k0, k1, k2, k3, k4, k5⟩ := keepB HX0.out HX1.out (w' := w5) hx5; have gz := (HX2.out.ext hx5).2; obtain ⟨z0, z1, z2⟩ := (HX2.out.ext hx5).1; have HX5 := Lib.hid hx5; clear hx5)
  refine (fresh_any (HB.out.ext (HXE.out.trans HX5.out)) (HT.out.ext (HXE.out.trans HX5.out))).mono ?_
  rintro e w6 ⟨A6, c6, rfl, hon6, hx6⟩
  have gz6 := (HX2.out.ext (HX5.out.trans hx6)).2
  obtain ⟨y0, y1, y2⟩ := (HX2.out.ext (HX5.out.trans hx6)).1
  have HO6 := Lib.hid hon6
  have HXF := Lib.hid ((HXE.out.trans HX5.out).trans hx6)
  have hlt := (HX2.out.ext HX5.out).lt
  clear hon6 hx6
  go_wp2_with fail
  exact bodyPost_ret (v := dv b.neg A6 (len b.m) c6 b.den) (by simp [results, Tryz.results183, go_sem, y0, y1, y2]) rfl (DyRes.end3 rfl HO6.out HXF.out (by omega) (by omega) hlt)
 ·have HR := Lib.hid (max_l hc)
  rw [HR.out]
  obtain ⟨v, hv⟩ : ∃ v, cmpD a b = v := ⟨_, rfl⟩
  rw [hv] at hc
  have HV := Lib.hid hv
  clear hv
  go_enter Tryz.func183, Tryz.ntmps183
  go_wp2_with (go_at_call 88; refine (cmp_any (HA.out.ext HXE.out) (HB.out.ext HXE.out)).mono ?_; rintro e w5 ⟨rfl, hx5⟩; rw [HV.out]; obtain ⟨k0, k1, k2, k3, k4, k5⟩ := keepB HX0.out HX1.out (w' := w5) hx5; have gz := (HX2.out.ext hx5).2; obtain ⟨z0, z1, z2⟩ := (HX2.out.ext hx5).1; have HX5 := Lib.hid hx5; clear hx5)
  refine (fresh_any (HA.out.ext (HXE.out.trans HX5.out)) (HT.out.ext (HXE.out.trans HX5.out))).mono ?_
  rintro e w6 ⟨A6, c6, rfl, hon6, hx6⟩
  have gz6 := (HX2.out.ext (HX5.out.trans hx6)).2
  obtain ⟨y0, y1, y2⟩ := (HX2.out.ext (HX5.out.trans hx6)).1
  have HO6 := Lib.hid hon6
  have HXF := Lib.hid ((HXE.out.trans HX5.out).trans hx6)
  have hlt := (HX2.out.ext HX5.out).lt
  clear hon6 hx6
  go_wp2_with fail
  exact bodyPost_ret (v := dv a.neg A6 (len a.m) c6 a.den) (by simp [results, Tryz.results183, go_sem, y0, y1, y2]) rfl (DyRes.end3 rfl HO6.out HXF.out (by omega) (by omega) hlt)
end
section
open Go Go.RowKit
theorem Dy.at_ {w : World} {d : DV} {A : Option Addr} {c b : Nat} (h : On w b A (len d.m) c (dg d.m)) (wf : d.ok) (hl : len d.m ≤ 16777216) : ∀ w', Ext w w' → Dy w' d.neg A (len d.m) c d.den d A c := fun _ e => Dy.of_on h wf hl e
end
section
section
open Go.RowKit
set_option maxRecDepth 100000 in
set_option maxHeartbeats 1000000 in
theorem nsame_true {w : World} {d : DV} {A B : Option Addr} {ca cb : Nat} (ha : Rd w A (len d.m) (dg d.m)) (hb' : Rd w B (len d.m) (dg d.m)) (hl : len d.m ≤ 1073741824) :
  Calls Tryz.prog 105 #[dv d.neg A (len d.m) ca d.den, dv d.neg B (len d.m) cb d.den] w fun e w' => e = .returned (.bool true) ∧ Ext w w' := by
 obtain ⟨X0, X1, XE⟩ : Bx ((w.alloc (.cells #[.bool d.neg, .slice A (len d.m) ca, I d.den] 56)).alloc (.cells #[.bool d.neg, .slice B (len d.m) cb, I d.den] 56)) w.heap.size (.bool d.neg) (.slice A (len d.m) ca) (I d.den) ∧
   Bx ((w.alloc (.cells #[.bool d.neg, .slice A (len d.m) ca, I d.den] 56)).alloc (.cells #[.bool d.neg, .slice B (len d.m) cb, I d.den] 56)) (w.heap.size + 1) (.bool d.neg) (.slice B (len d.m) cb) (I d.den) ∧
   Ext w ((w.alloc (.cells #[.bool d.neg, .slice A (len d.m) ca, I d.den] 56)).alloc (.cells #[.bool d.neg, .slice B (len d.m) cb, I d.den] 56)) := two_bx (Ext.refl _)
 have HX0 := Lib.hid X0; have HX1 := Lib.hid X1; have HXE := Lib.hid XE
 clear X0 X1 XE
 have HA := Lib.hid ha; have HB := Lib.hid hb'; clear ha hb'
 generalize d.neg = neg at *
 generalize (d.den : Int) = den at *
 generalize len d.m = L at *
 go_enter Tryz.func105, Tryz.ntmps105
 go_wp2
 go_loopw [30] (fun s wr => Hid (Ext ((w.alloc (.cells #[.bool neg, .slice A L ca, I den] 56)).alloc (.cells #[.bool neg, .slice B L cb, I den] 56)) wr) ∧ ∃ k : Nat, k ≤ L ∧ s = I k) (fun s _ => L - (intOf s).toNat)
 case atStart => exact ⟨Ext.refl _, 0, Nat.zero_le _, rfl⟩
 case round =>
  obtain ⟨hX, k, hk, rfl⟩ := hrel
  obtain ⟨k0, k1, k2, k3, k4, k5⟩ := keepB HX0.out HX1.out hX.out
  by_cases hlt : k < L
  ·obtain ⟨b1, o1, e1, hb1, c1⟩ := (HA.out.ext (HXE.out.trans hX.out)).at_ hlt
   obtain ⟨b2, o2, e2, hb2, c2⟩ := (HB.out.ext (HXE.out.trans hX.out)).at_ hlt
   rw [e1] at k1
   rw [e2] at k4
   have i1 : (0 : Int) ≤ (k : Int) := by omega
   have i2 : (k : Int) < (L : Int) := by omega
   clear e1 e2
   go_wp2
   go_quiet (fail)
   go_wp2
   go_roundw
   case rel => exact ⟨hX.out.trans (Ext.drewN _ _), k + 1, by omega, by go_num⟩
   case measure => simp [intOf]; omega
  ·obtain rfl : k = L := by omega
   go_wp2
   go_ret
   exact ⟨rfl, HXE.out.trans hX.out⟩
def fewOk (n : Nat) (den : Int) : Prop := ¬ (16 < n) ∧ ¬ (300 < den ∧ den ≤ 65536)
instance (n : Nat) (den : Int) : Decidable (fewOk n den) := inferInstanceAs (Decidable (_ ∧ _))
end
section
theorem den_le (neg : Bool) (m k : Nat) (h : k ≤ 65536) : (mkD neg m k).den ≤ k := by
 rw [mkD_small h]; unfold nrm; split
 ·exact Nat.zero_le _
 ·exact Nat.sub_le _ _
theorem lim_al (a : DV) (D : Nat) (h : D ≤ 65536) : len (al a D) ≤ len a.m + 2049 := by
 have := len_shl a.m (D - a.den); unfold al; omega
theorem lim_add {a b : DV} (ha : a.den ≤ 65536) (hb : b.den ≤ 65536) : len (addD a b).m ≤ max (len a.m) (len b.m) + 2050 := by
 have h1 := lim_al a (max a.den b.den) (by omega)
 have h2 := lim_al b (max a.den b.den) (by omega)
 have h3 := len_add (al a (max a.den b.den)) (al b (max a.den b.den))
 unfold addD; split
 ·have := len_mono (mkD_m_le a.neg (al a (max a.den b.den) + al b (max a.den b.den)) (max a.den b.den)); omega
 ·split
  ·have := len_mono (Nat.le_trans (mkD_m_le b.neg (al b (max a.den b.den) - al a (max a.den b.den)) (max a.den b.den)) (Nat.sub_le _ _)); omega
  ·have := len_mono (Nat.le_trans (mkD_m_le a.neg (al a (max a.den b.den) - al b (max a.den b.den)) (max a.den b.den)) (Nat.sub_le _ _)); omega
theorem lim_mul (a b : DV) : len (mulD a b).m ≤ len a.m + len b.m := Nat.le_trans (len_mono (mkD_m_le _ _ _)) (len_mul _ _)
theorem lim_neg (a : DV) : len (negD a).m ≤ len a.m := len_negD a
theorem den_neg {a : DV} (h : a.den ≤ 65536) : (negD a).den ≤ a.den := den_le _ _ _ h
theorem lim_sub {a b : DV} (ha : a.den ≤ 65536) (hb : b.den ≤ 65536) : len (subD a b).m ≤ max (len a.m) (len b.m) + 2050 := by
 have h1 := lim_add (a := a) (b := negD b) ha (Nat.le_trans (den_neg hb) hb)
 have h2 := lim_neg b
 unfold subD; omega
theorem lim_shift (a : DV) (n : Int) : len (shiftD a n).m ≤ len a.m + 2049 := by
 unfold shiftD
 split
 ·exact Nat.le_trans (len_mono (mkD_m_le _ _ _)) (Nat.le_add_right _ _)
 ·have h1 := len_shl a.m (clampN n).toNat
  have h2 := len_mono (mkD_m_le a.neg (a.m * 2 ^ (clampN n).toNat) a.den)
  have h3 : (clampN n).toNat ≤ 65536 := by unfold clampN; omega
  omega
end
section
open Go.RowKit
end
section
open Go.RowKit
end
end
end
end Go.Proofs.YtgnngldlgcdnfaaGreatDoor
