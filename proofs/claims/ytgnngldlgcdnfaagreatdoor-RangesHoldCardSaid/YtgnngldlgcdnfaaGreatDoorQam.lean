import Derived.Test.YtgnngldlgcdnfaaGreatDoorQaj
import Derived.Test.YtgnngldlgcdnfaaGreatDoorQal
import Derived.Test.YtgnngldlgcdnfaaGreatDoorQab
import Derived.Test.YtgnngldlgcdnfaaGreatDoorQaa
namespace Go.Proofs.YtgnngldlgcdnfaaGreatDoor
section
open Go.RowKit
theorem nrA_t {neg : Bool} {n : Nat} {f : Nat → Nat} {den : Int} (hb : ∀ i, i < n → f i < 4294967296) (hv : vld neg n f den = true) : (nrA neg n f den).neg = neg ∧ len (nrA neg n f den).m = n ∧ ((nrA neg n f den).den : Int) = den := by
 have e : nrA neg n f den = ⟨neg, valN f n, den.toNat⟩ := by unfold nrA; rw [if_pos hv]
 rw [e]
 refine ⟨rfl, ?_, ?_⟩
 ·refine len_valN hb (Nat.le_refl _) (fun i h1 h2 => by omega) ?_
  cases n with
  | zero => exact .inl rfl
  | succ k => rw [vld_succ] at hv; simp at hv; exact .inr (by simpa using hv.1.1.1)
 ·show ((den.toNat : Nat) : Int) = den
  cases n with
  | zero => rw [vld_zero] at hv; simp at hv; omega
  | succ k => rw [vld_succ] at hv; simp at hv; have := hv.1.1.2; omega
theorem nrA_len {neg : Bool} {n : Nat} {f : Nat → Nat} {den : Int} (hb : ∀ i, i < n → f i < 4294967296) (hn : n ≤ 1048576) : len (nrA neg n f den).m ≤ 1048576 := by
 by_cases hv : vld neg n f den = true
 ·rw [(nrA_t hb hv).2.1]; exact hn
 ·unfold nrA; rw [if_neg hv, zero_len]; decide
def IvValR (b : Bool) (v : Value) (w : World) : Prop := ∀ w', Ext w w' → Calls Tryz.prog 61 #[v] w' fun e w'' => e = .returned (.bool b) ∧ Ext w' w''
set_option maxRecDepth 100000 in
set_option maxHeartbeats 1000000 in
theorem norm3_t {w : World} {n1 n2 : Bool} {A B : Option Addr} {k c m e : Nat} {d1 d2 : Int} (h : IvValR true (iv n1 A k c d1 n2 B m e d2) w) :
  Calls Tryz.prog 79 #[iv n1 A k c d1 n2 B m e d2] w fun e' w' => e' = .returned (iv n1 A k c d1 n2 B m e d2) ∧ Ext w w' := by
 have H : Hid (∀ w', Ext w w' → Calls Tryz.prog 61 #[iv n1 A k c d1 n2 B m e d2] w' fun e w'' => e = .returned (.bool true) ∧ Ext w' w'') := h
 clear h
 have S0 := Lib.hid ((B6.new w (.bool n1) (.slice A k c) (I d1) (.bool n2) (.slice B m e) (I d2) 58).ext (Ext.alloc _ (.cells #[.bool false, .slice none 0 0, I 0, .bool false, .slice none 0 0, I 0] 58)))
 have S1 : Hid (B6 ((w.alloc (.cells #[.bool n1, .slice A k c, I d1, .bool n2, .slice B m e, I d2] 58)).alloc (.cells #[.bool false, .slice none 0 0, I 0, .bool false, .slice none 0 0, I 0] 58)) (w.heap.size + 1) (.bool false) (.slice none 0 0) (I 0) (.bool false) (.slice none 0 0) (I 0)) := by
  have s := B6.new (w.alloc (.cells #[.bool n1, .slice A k c, I d1, .bool n2, .slice B m e, I d2] 58)) (.bool false) (.slice none 0 0) (I 0) (.bool false) (.slice none 0 0) (I 0) 58
  rw [show (w.alloc (.cells #[.bool n1, .slice A k c, I d1, .bool n2, .slice B m e, I d2] 58)).heap.size = w.heap.size + 1 by simp] at s
  exact s
 go_enter Tryz.func79, Tryz.ntmps79
 go_wp2_with (go_at_call 61; (with_reducible refine (H.out _ ((Ext.alloc _ _).trans (Ext.alloc _ _))).mono ?_); rintro e1 w1 ⟨rfl, hx⟩; obtain ⟨⟨k0, k1, k2, k3, k4, k5⟩, kz⟩ := S0.out.ext hx; obtain ⟨⟨r0, r1, r2, r3, r4, r5⟩, rz⟩ := S1.out.ext hx; have HX := Lib.hid (((Ext.alloc _ _).trans (Ext.alloc _ _)).trans hx); clear hx)
 exact bodyPost_ret (v := iv n1 A k c d1 n2 B m e d2) (by simp [results, Tryz.results79, go_sem, r0, r1, r2, r3, r4, r5]) rfl ⟨rfl, ext_set6 HX.out (by omega) _ _ _ _ _ _⟩
set_option maxRecDepth 100000 in
set_option maxHeartbeats 1000000 in
theorem norm3_f {w : World} {n1 n2 : Bool} {A B : Option Addr} {k c m e : Nat} {d1 d2 : Int} (h : IvValR false (iv n1 A k c d1 n2 B m e d2) w) :
  Calls Tryz.prog 79 #[iv n1 A k c d1 n2 B m e d2] w fun e' w' => e' = .returned (iv false none 0 0 0 false none 0 0 0) ∧ Ext w w' := by
 have H : Hid (∀ w', Ext w w' → Calls Tryz.prog 61 #[iv n1 A k c d1 n2 B m e d2] w' fun e w'' => e = .returned (.bool false) ∧ Ext w' w'') := h
 clear h
 have S1 : Hid (B6 ((w.alloc (.cells #[.bool n1, .slice A k c, I d1, .bool n2, .slice B m e, I d2] 58)).alloc (.cells #[.bool false, .slice none 0 0, I 0, .bool false, .slice none 0 0, I 0] 58)) (w.heap.size + 1) (.bool false) (.slice none 0 0) (I 0) (.bool false) (.slice none 0 0) (I 0)) := by
  have s := B6.new (w.alloc (.cells #[.bool n1, .slice A k c, I d1, .bool n2, .slice B m e, I d2] 58)) (.bool false) (.slice none 0 0) (I 0) (.bool false) (.slice none 0 0) (I 0) 58
  rw [show (w.alloc (.cells #[.bool n1, .slice A k c, I d1, .bool n2, .slice B m e, I d2] 58)).heap.size = w.heap.size + 1 by simp] at s
  exact s
 go_enter Tryz.func79, Tryz.ntmps79
 go_wp2_with (go_at_call 61; (with_reducible refine (H.out _ ((Ext.alloc _ _).trans (Ext.alloc _ _))).mono ?_); rintro e1 w1 ⟨rfl, hx⟩; obtain ⟨⟨r0, r1, r2, r3, r4, r5⟩, rz⟩ := S1.out.ext hx; have HX := Lib.hid (((Ext.alloc _ _).trans (Ext.alloc _ _)).trans hx); clear hx)
 exact bodyPost_ret (v := iv false none 0 0 0 false none 0 0 0) (by simp [results, Tryz.results79, go_sem, r0, r1, r2, r3, r4, r5]) rfl ⟨rfl, ext_set6 HX.out (by omega) _ _ _ _ _ _⟩
set_option maxRecDepth 100000 in
set_option maxHeartbeats 1000000 in
theorem rivalid_no1 {w' : World} {n1 n2 : Bool} {A B : Option Addr} {k c m e : Nat} {d1 d2 : Int} (h1 : ∀ w'', Ext w' w'' → Calls Tryz.prog 125 #[dv n1 A k c d1] w'' (VldRes false w'')) :
  Calls Tryz.prog 61 #[iv n1 A k c d1 n2 B m e d2] w' fun e1 w'' => e1 = .returned (.bool false) ∧ Ext w' w'' := by
 have H1 := Lib.hid h1; clear h1
 have S0 := Lib.hid (B6.new w' (.bool n1) (.slice A k c) (I d1) (.bool n2) (.slice B m e) (I d2) 58)
 go_enter Tryz.func61, Tryz.ntmps61
 go_wp2_with (go_at_call 125; (with_reducible refine (H1.out _ (Ext.alloc _ _)).mono ?_); rintro e1 w1 ⟨rfl, hx⟩; have X1 := Lib.hid hx; obtain ⟨⟨k0, k1, k2, k3, k4, k5⟩, kz⟩ := S0.out.ext hx; clear hx)
 go_ret
 exact ⟨rfl, (Ext.alloc _ _).trans X1.out⟩
set_option maxRecDepth 100000 in
set_option maxHeartbeats 1000000 in
theorem rivalid_no2 {w' : World} {n1 n2 : Bool} {A B : Option Addr} {k c m e : Nat} {d1 d2 : Int} (h1 : ∀ w'', Ext w' w'' → Calls Tryz.prog 125 #[dv n1 A k c d1] w'' (VldRes true w'')) (h2 : ∀ w'', Ext w' w'' → Calls Tryz.prog 125 #[dv n2 B m e d2] w'' (VldRes false w'')) :
  Calls Tryz.prog 61 #[iv n1 A k c d1 n2 B m e d2] w' fun e1 w'' => e1 = .returned (.bool false) ∧ Ext w' w'' := by
 have H1 := Lib.hid h1; have H2 := Lib.hid h2; clear h1 h2
 have S0 := Lib.hid (B6.new w' (.bool n1) (.slice A k c) (I d1) (.bool n2) (.slice B m e) (I d2) 58)
 go_enter Tryz.func61, Tryz.ntmps61
 go_wp2_with (first
  | (have hg := X1; clear hg; go_at_call 125; (with_reducible refine (H2.out _ ((Ext.alloc _ _).trans X1.out)).mono ?_); rintro e2 w2 ⟨rfl, hx⟩; have X2 := Lib.hid (X1.out.trans hx); obtain ⟨⟨q0, q1, q2, q3, q4, q5⟩, qz⟩ := S0.out.ext X2.out; clear hx)
  | (go_at_call 125; (with_reducible refine (H1.out _ (Ext.alloc _ _)).mono ?_); rintro e1 w1 ⟨rfl, hx⟩; have X1 := Lib.hid hx; obtain ⟨⟨k0, k1, k2, k3, k4, k5⟩, kz⟩ := S0.out.ext hx; clear hx))
 go_ret
 exact ⟨rfl, (Ext.alloc _ _).trans X2.out⟩
set_option maxRecDepth 100000 in
set_option maxHeartbeats 1000000 in
theorem rivalid_both {w' : World} {n1 n2 : Bool} {A B : Option Addr} {k c m e : Nat} {d1 d2 : Int} (h1 : ∀ w'', Ext w' w'' → Calls Tryz.prog 125 #[dv n1 A k c d1] w'' (VldRes true w'')) (h2 : ∀ w'', Ext w' w'' → Calls Tryz.prog 125 #[dv n2 B m e d2] w'' (VldRes true w'')) (v : Int) (h3 : ∀ w'', Ext w' w'' → Calls Tryz.prog 95 #[dv n1 A k c d1, dv n2 B m e d2] w'' fun e w3 => e = .returned (I v) ∧ Ext w'' w3) :
  Calls Tryz.prog 61 #[iv n1 A k c d1 n2 B m e d2] w' fun e1 w'' => e1 = .returned (.bool (decide (v ≤ 0))) ∧ Ext w' w'' := by
 have H1 := Lib.hid h1; have H2 := Lib.hid h2; have H3 := Lib.hid h3; clear h1 h2 h3
 have S0 := Lib.hid (B6.new w' (.bool n1) (.slice A k c) (I d1) (.bool n2) (.slice B m e) (I d2) 58)
 go_enter Tryz.func61, Tryz.ntmps61
 go_wp2_with (first
  | (go_at_call 95; (with_reducible refine (H3.out _ ((Ext.alloc _ _).trans X2.out)).mono ?_); rintro e3 w3 ⟨rfl, hx⟩; have X3 := Lib.hid (X2.out.trans hx); clear hx)
  | (have hg := X1; clear hg; go_at_call 125; (with_reducible refine (H2.out _ ((Ext.alloc _ _).trans X1.out)).mono ?_); rintro e2 w2 ⟨rfl, hx⟩; have X2 := Lib.hid (X1.out.trans hx); obtain ⟨⟨q0, q1, q2, q3, q4, q5⟩, qz⟩ := S0.out.ext X2.out; clear hx)
  | (go_at_call 125; (with_reducible refine (H1.out _ (Ext.alloc _ _)).mono ?_); rintro e1 w1 ⟨rfl, hx⟩; have X1 := Lib.hid hx; obtain ⟨⟨k0, k1, k2, k3, k4, k5⟩, kz⟩ := S0.out.ext hx; clear hx))
 go_ret
 exact ⟨rfl, (Ext.alloc _ _).trans X3.out⟩
theorem lim_subE {a b : DV} (ha : a.ok) (hb : b.ok) (la : len a.m ≤ 1048576) (lb : len b.m ≤ 1048576) : len (subD a b).m ≤ 16777216 := by
 have := lim_sub ha.2.1 hb.2.1; omega
theorem rivalid_any {w : World} {n1 n2 : Bool} {A B : Option Addr} {k c m e : Nat} {d1 d2 : Int} {f g : Nat → Nat} (ra : Rd w A k f) (oa : SlOk A k c) (ba : ∀ i, i < k → f i < 4294967296) (ka : k ≤ 1048576)
  (rb : Rd w B m g) (ob : SlOk B m e) (bb : ∀ i, i < m → g i < 4294967296) (kb : m ≤ 1048576) : IvValR (ivB n1 k f d1 n2 m g d2) (iv n1 A k c d1 n2 B m e d2) w := by
 intro w' h
 have v1 := fun w'' (e' : Ext w' w'') => rvalid_any n1 A k c d1 f w'' (ra.ext (h.trans e')) ba (by omega)
 have v2 := fun w'' (e' : Ext w' w'') => rvalid_any n2 B m e d2 g w'' (rb.ext (h.trans e')) bb (by omega)
 unfold ivB
 cases h1 : vld n1 k f d1 with
 | false => rw [h1] at v1; exact rivalid_no1 v1
 | true =>
  rw [h1] at v1
  cases h2 : vld n2 m g d2 with
  | false => rw [h2] at v2; exact rivalid_no2 v1 v2
  | true =>
   rw [h2] at v2
   have hda : Dy w n1 A k c d1 _ _ _ := Dy.any ra oa ba (by omega)
   have hdb : Dy w n2 B m e d2 _ _ _ := Dy.any rb ob bb (by omega)
   exact rivalid_both v1 v2 _ (fun w'' e' => rdcmp_any (hda.ext (h.trans e')) (hdb.ext (h.trans e')) (lim_subE hda.wf hdb.wf (nrA_len ba ka) (nrA_len bb kb)) (subD_ok _ _))
end
section
section
theorem sgn_gt {r : Rat} (h : 0 < sgn r) : 0 < r := by
 unfold sgn at h
 split at h
 ·exact absurd h (by decide)
 ·split at h
  ·assumption
  ·exact absurd h (by decide)
theorem sgn_ngt {r : Rat} (h : ¬ 0 < sgn r) : r ≤ 0 := by
 unfold sgn at h
 split at h
 ·grind
 ·split at h
  ·exact absurd (by decide) h
  ·grind
theorem sgn_lt0 {r : Rat} (h : sgn r < 0) : r < 0 := by
 unfold sgn at h
 split at h
 ·assumption
 ·split at h
  ·exact absurd h (by decide)
  ·exact absurd h (by decide)
theorem sgn_nlt {r : Rat} (h : ¬ sgn r < 0) : 0 ≤ r := by
 unfold sgn at h
 split at h
 ·exact absurd (by decide) h
 ·grind
theorem min_facts {a b : DV} (ha : a.ok) (hb : b.ok) : (minD a b).q ≤ a.q ∧ (minD a b).q ≤ b.q ∧ (minD a b = a ∨ minD a b = b) := by
 unfold minD
 have e := cmpD_sgn ha hb
 by_cases h : 0 < cmpD a b
 ·rw [if_pos h]
  rw [e] at h
  have := sgn_gt h
  exact ⟨by grind, by grind, .inr rfl⟩
 ·rw [if_neg h]
  rw [e] at h
  have := sgn_ngt h
  exact ⟨by grind, by grind, .inl rfl⟩
theorem max_facts {a b : DV} (ha : a.ok) (hb : b.ok) : a.q ≤ (maxD a b).q ∧ b.q ≤ (maxD a b).q ∧ (maxD a b = a ∨ maxD a b = b) := by
 unfold maxD
 have e := cmpD_sgn ha hb
 by_cases h : cmpD a b < 0
 ·rw [if_pos h]
  rw [e] at h
  have := sgn_lt0 h
  exact ⟨by grind, by grind, .inr rfl⟩
 ·rw [if_neg h]
  rw [e] at h
  have := sgn_nlt h
  exact ⟨by grind, by grind, .inl rfl⟩
def loF (d : DV) (D : Nat → DV) : Nat → DV
 | 0 => minD d d
 | k + 1 => minD (loF d D k) (D k)
def hiF (d : DV) (D : Nat → DV) : Nat → DV
 | 0 => maxD d d
 | k + 1 => maxD (hiF d D k) (D k)
theorem minD_self (d : DV) : minD d d = d := by unfold minD; split <;> rfl
theorem maxD_self (d : DV) : maxD d d = d := by unfold maxD; split <;> rfl
theorem lo_facts {d : DV} {D : Nat → DV} (hd : d.ok) : ∀ k, (∀ i, i < k → (D i).ok) → (loF d D k).ok ∧ (loF d D k).q ≤ d.q ∧ (∀ i, i < k → (loF d D k).q ≤ (D i).q) ∧ (loF d D k = d ∨ ∃ i, i < k ∧ loF d D k = D i)
 | 0, _ => by
  show (minD d d).ok ∧ _
  rw [show loF d D 0 = minD d d from rfl, minD_self]
  exact ⟨hd, by grind, fun i h => absurd h (Nat.not_lt_zero i), .inl rfl⟩
 | k + 1, h => by
  obtain ⟨h1, h2, h3, h4⟩ := lo_facts (D := D) hd k (fun i hi => h i (by omega))
  obtain ⟨m1, m2, m3⟩ := min_facts h1 (h k (by omega))
  show (minD (loF d D k) (D k)).ok ∧ (minD (loF d D k) (D k)).q ≤ d.q ∧ (∀ i, i < k + 1 → (minD (loF d D k) (D k)).q ≤ (D i).q) ∧ (minD (loF d D k) (D k) = d ∨ ∃ i, i < k + 1 ∧ minD (loF d D k) (D k) = D i)
  refine ⟨minD_ok h1 (h k (by omega)), by grind, fun i hi => ?_, ?_⟩
  ·by_cases e : i = k
   ·subst e; exact m2
   ·have := h3 i (by omega); grind
  ·rcases m3 with e | e
   ·rcases h4 with e4 | ⟨i, hi, e4⟩
    ·exact .inl (e.trans e4)
    ·exact .inr ⟨i, by omega, e.trans e4⟩
   ·exact .inr ⟨k, by omega, e⟩
theorem hi_facts {d : DV} {D : Nat → DV} (hd : d.ok) : ∀ k, (∀ i, i < k → (D i).ok) → (hiF d D k).ok ∧ d.q ≤ (hiF d D k).q ∧ (∀ i, i < k → (D i).q ≤ (hiF d D k).q) ∧ (hiF d D k = d ∨ ∃ i, i < k ∧ hiF d D k = D i)
 | 0, _ => by
  show (maxD d d).ok ∧ _
  rw [show hiF d D 0 = maxD d d from rfl, maxD_self]
  exact ⟨hd, by grind, fun i h => absurd h (Nat.not_lt_zero i), .inl rfl⟩
 | k + 1, h => by
  obtain ⟨h1, h2, h3, h4⟩ := hi_facts (D := D) hd k (fun i hi => h i (by omega))
  obtain ⟨m1, m2, m3⟩ := max_facts h1 (h k (by omega))
  show (maxD (hiF d D k) (D k)).ok ∧ d.q ≤ (maxD (hiF d D k) (D k)).q ∧ (∀ i, i < k + 1 → (D i).q ≤ (maxD (hiF d D k) (D k)).q) ∧ (maxD (hiF d D k) (D k) = d ∨ ∃ i, i < k + 1 ∧ maxD (hiF d D k) (D k) = D i)
  refine ⟨maxD_ok h1 (h k (by omega)), by grind, fun i hi => ?_, ?_⟩
  ·by_cases e : i = k
   ·subst e; exact m2
   ·have := h3 i (by omega); grind
  ·rcases m3 with e | e
   ·rcases h4 with e4 | ⟨i, hi, e4⟩
    ·exact .inl (e.trans e4)
    ·exact .inr ⟨i, by omega, e.trans e4⟩
   ·exact .inr ⟨k, by omega, e⟩
end
section
theorem cmp_le {a b : DV} (ha : a.ok) (hb : b.ok) : cmpD a b ≤ 0 ↔ a.q ≤ b.q := by
 rw [cmpD_sgn ha hb]
 constructor
 ·intro h; have := sgn_ngt (r := a.q - b.q) (by omega); grind
 ·intro h
  unfold sgn
  split
  ·decide
  ·split
   ·exfalso; grind
   ·decide
theorem cmp_lt0 {a b : DV} (ha : a.ok) (hb : b.ok) : cmpD a b < 0 ↔ a.q < b.q := by
 rw [cmpD_sgn ha hb]
 constructor
 ·intro h; have := sgn_lt0 h; grind
 ·intro h
  unfold sgn
  rw [if_pos (by grind)]
  decide
def mnQ (x y : Rat) : Rat := if y < x then y else x
def mxQ (x y : Rat) : Rat := if x < y then y else x
theorem q_min {a b : DV} (ha : a.ok) (hb : b.ok) : (minD a b).q = mnQ a.q b.q := by
 unfold minD mnQ
 have h := cmp_le ha hb
 by_cases h1 : 0 < cmpD a b
 ·rw [if_pos h1, if_pos (by have := fun x => h.2 x; grind)]
 ·rw [if_neg h1, if_neg (by have := h.1 (by omega); grind)]
theorem q_max {a b : DV} (ha : a.ok) (hb : b.ok) : (maxD a b).q = mxQ a.q b.q := by
 unfold maxD mxQ
 have h := cmp_lt0 ha hb
 by_cases h1 : cmpD a b < 0
 ·rw [if_pos h1, if_pos (h.1 h1)]
 ·rw [if_neg h1, if_neg (fun x => h1 (h.2 x))]
def lo2 (a b : DV) : DV := minD a b
def hi2 (a b : DV) : DV := maxD a b
def lo3 (a b c : DV) : DV := minD (minD a b) c
def hi3 (a b c : DV) : DV := maxD (maxD a b) c
def lo4 (a b c d : DV) : DV := minD (minD (minD a b) c) d
def hi4 (a b c d : DV) : DV := maxD (maxD (maxD a b) c) d
theorem lo2_ok {a b : DV} (ha : a.ok) (hb : b.ok) : (lo2 a b).ok := minD_ok ha hb
theorem hi2_ok {a b : DV} (ha : a.ok) (hb : b.ok) : (hi2 a b).ok := maxD_ok ha hb
theorem lo2_le {a b : DV} (ha : a.ok) (hb : b.ok) : (lo2 a b).q ≤ (hi2 a b).q := by
 unfold lo2 hi2; rw [q_min ha hb, q_max ha hb]; unfold mnQ mxQ; grind
theorem sz_min {a b : DV} {P : DV → Prop} (ha : P a) (hb : P b) : P (minD a b) := by unfold minD; split <;> assumption
theorem sz_max {a b : DV} {P : DV → Prop} (ha : P a) (hb : P b) : P (maxD a b) := by unfold maxD; split <;> assumption
theorem q_absD {a : DV} (h : a.ok) : (absD a).q = mxQ a.q (-a.q) := by
 unfold absD
 rw [q_mkD _ _ h.2.1]
 unfold DV.q qOf mxQ
 have hp := qp_pos a.den
 have h0 : (0 : Rat) ≤ (a.m : Rat) / qp a.den := by
  have h1 : (0 : Rat) ≤ (a.m : Rat) := by exact_mod_cast Nat.zero_le _
  generalize (a.m : Rat) = m at *
  have hn := qp_ne a.den
  have e : m / qp a.den * qp a.den = m := by grind
  by_cases hneg : 0 ≤ m / qp a.den
  ·exact hneg
  ·have := Rat.mul_pos (a := -(m / qp a.den)) (b := qp a.den) (by grind) hp
   grind
 cases a.neg <;> simp <;> grind
end
structure IV where
 lo : DV
 hi : DV
def IV.z : IV := ⟨DV.zero, DV.zero⟩
end
section
open Go.RowKit
theorem two_new {w w1 : World} {u0 u1 u2 v0 v1 v2 : Value} {t t' : TypeId} (hx : Ext ((w.alloc (.cells #[u0, u1, u2] t)).alloc (.cells #[v0, v1, v2] t')) w1) : Bx w1 w.heap.size u0 u1 u2 ∧ Bx w1 (w.heap.size + 1) v0 v1 v2 := by
 have s1 := ((Bx.new w u0 u1 u2 t).ext (Ext.alloc _ (.cells #[v0, v1, v2] t'))).ext hx
 have s2 := (Bx.new (w.alloc (.cells #[u0, u1, u2] t)) v0 v1 v2 t').ext hx
 rw [show (w.alloc (.cells #[u0, u1, u2] t)).heap.size = w.heap.size + 1 by simp] at s2
 exact ⟨s1, s2⟩
theorem one_new {w w1 : World} {v0 v1 v2 : Value} {t : TypeId} (hx : Ext (w.alloc (.cells #[v0, v1, v2] t)) w1) : Bx w1 w.heap.size v0 v1 v2 := (Bx.new w v0 v1 v2 t).ext hx
theorem two_newd {w w1 : World} {u0 u1 u2 v0 v1 v2 : Value} {t t' : TypeId} (hx : Ext ((w.alloc (.cells #[u0, u1, u2] t)).alloc (.cells #[v0, v1, v2] t')).drew w1) : Bx w1 w.heap.size u0 u1 u2 ∧ Bx w1 (w.heap.size + 1) v0 v1 v2 := two_new ((Ext.drew _).trans hx)
theorem one_newd {w w1 : World} {v0 v1 v2 : Value} {t : TypeId} (hx : Ext (w.alloc (.cells #[v0, v1, v2] t)).drew w1) : Bx w1 w.heap.size v0 v1 v2 := (Bx.new w v0 v1 v2 t).ext ((Ext.drew _).trans hx)
def Fr (w : World) (base : Nat) (A : Option Addr) (n c : Nat) (f : Nat → Nat) : Prop :=
 Rd w A n f ∧ SlOk A n c ∧ (0 < n → ∀ a, A = some a → base ≤ a.block)
theorem Fr.rd {w : World} {base n c : Nat} {A : Option Addr} {f : Nat → Nat} (h : Fr w base A n c f) : Rd w A n f := h.1
theorem Fr.ok {w : World} {base n c : Nat} {A : Option Addr} {f : Nat → Nat} (h : Fr w base A n c f) : SlOk A n c := h.2.1
theorem Fr.ext {w w' : World} {base n c : Nat} {A : Option Addr} {f : Nat → Nat} (h : Fr w base A n c f) (e : Ext w w') : Fr w' base A n c f := ⟨h.1.ext e, h.2.1, h.2.2⟩
theorem Fr.mono {w : World} {base b' n c : Nat} {A : Option Addr} {f : Nat → Nat} (h : Fr w base A n c f) (e : b' ≤ base) : Fr w b' A n c f := ⟨h.1, h.2.1, fun hn a ha => Nat.le_trans e (h.2.2 hn a ha)⟩
theorem On.fr {w : World} {base n c : Nat} {A : Option Addr} {f : Nat → Nat} (h : On w base A n c f) : Fr w base A n c f := by
 refine ⟨h.rd, h.ok, fun _ a ha => ?_⟩
 by_cases hb : base ≤ a.block
 ·exact hb
 ·exact absurd rfl (h.ne (g := a.block) (by omega) a ha)
theorem Rd.set' {w : World} {A : Option Addr} {n g : Nat} {f : Nat → Nat} (h : Rd w A n f) (hne : 0 < n → ∀ a, A = some a → a.block ≠ g) (i : Nat) (u : Value) : Rd (w.setCell ⟨g, i, none⟩ u) A n f := fun hn =>
 (h.set (hne hn) i u) hn
theorem Fr.set {w : World} {base n c g : Nat} {A : Option Addr} {f : Nat → Nat} (h : Fr w base A n c f) (hg : g < base) (i : Nat) (u : Value) : Fr (w.setCell ⟨g, i, none⟩ u) base A n c f :=
 ⟨h.1.set' (fun hn a ha => by have := h.2.2 hn a ha; omega) i u, h.2.1, h.2.2⟩
theorem Fr.set6 {w : World} {base n c g : Nat} {A : Option Addr} {f : Nat → Nat} (h : Fr w base A n c f) (hg : g < base) (u0 u1 u2 u3 u4 u5 : Value) :
  Fr ((((((w.setCell ⟨g, 0, none⟩ u0).setCell ⟨g, 1, none⟩ u1).setCell ⟨g, 2, none⟩ u2).setCell ⟨g, 3, none⟩ u3).setCell ⟨g, 4, none⟩ u4).setCell ⟨g, 5, none⟩ u5) base A n c f :=
 (((((h.set hg _ _).set hg _ _).set hg _ _).set hg _ _).set hg _ _).set hg _ _
abbrev ivd (a : DV) (A : Option Addr) (c : Nat) (b : DV) (B : Option Addr) (e : Nat) : Value := iv a.neg A (len a.m) c a.den b.neg B (len b.m) e b.den
def IvRes (a b : DV) (w : World) (e : Ending) (w' : World) : Prop := ∃ A c B k, e = .returned (ivd a A c b B k) ∧ Fr w' w.heap.size A (len a.m) c (dg a.m) ∧ Fr w' w.heap.size B (len b.m) k (dg b.m) ∧ Ext w w'
theorem IvRes.end6 {a b : DV} {w w2 : World} {A B : Option Addr} {c k g b1 b2 : Nat} {e : Ending} {u0 u1 u2 u3 u4 u5 : Value} (he : e = .returned (ivd a A c b B k)) (ha : Fr w2 b1 A (len a.m) c (dg a.m)) (hb : Fr w2 b2 B (len b.m) k (dg b.m)) (hx : Ext w w2) (hg : w.heap.size ≤ g) (h1 : g < b1) (h2 : g < b2) :
  IvRes a b w e ((((((w2.setCell ⟨g, 0, none⟩ u0).setCell ⟨g, 1, none⟩ u1).setCell ⟨g, 2, none⟩ u2).setCell ⟨g, 3, none⟩ u3).setCell ⟨g, 4, none⟩ u4).setCell ⟨g, 5, none⟩ u5) :=
 ⟨A, c, B, k, he, (ha.set6 h1 _ _ _ _ _ _).mono (by omega), (hb.set6 h2 _ _ _ _ _ _).mono (by omega), ext_set6 hx hg _ _ _ _ _ _⟩
def End (a : DV) : Prop := a.ok ∧ len a.m ≤ 1048576
structure Iw (w : World) (n1 : Bool) (A : Option Addr) (k c : Nat) (d1 : Int) (n2 : Bool) (B : Option Addr) (m e : Nat) (d2 : Int) (a b : DV) (A' : Option Addr) (c' : Nat) (B' : Option Addr) (e' : Nat) : Prop where
 ra : Rd w A' (len a.m) (dg a.m)
 sa : SlOk A' (len a.m) c'
 wa : End a
 rb : Rd w B' (len b.m) (dg b.m)
 sb : SlOk B' (len b.m) e'
 wb : End b
 le : a.q ≤ b.q
 itv : ∀ w', Ext w w' → Calls Tryz.prog 87 #[iv n1 A k c d1 n2 B m e d2] w' (NumRes (ivd a A' c' b B' e') w')
 nrm : ∀ w', Ext w w' → Calls Tryz.prog 79 #[iv n1 A k c d1 n2 B m e d2] w' (NumRes (ivd a A' c' b B' e') w')
theorem Iw.ext {w w' : World} {n1 n2 : Bool} {A B A' B' : Option Addr} {k c m e c' e' : Nat} {d1 d2 : Int} {a b : DV} (h : Iw w n1 A k c d1 n2 B m e d2 a b A' c' B' e') (x : Ext w w') : Iw w' n1 A k c d1 n2 B m e d2 a b A' c' B' e' :=
 ⟨h.ra.ext x, h.sa, h.wa, h.rb.ext x, h.sb, h.wb, h.le, fun w'' y => h.itv w'' (x.trans y), fun w'' y => h.nrm w'' (x.trans y)⟩
theorem Iw.dya {w : World} {n1 n2 : Bool} {A B A' B' : Option Addr} {k c m e c' e' : Nat} {d1 d2 : Int} {a b : DV} (h : Iw w n1 A k c d1 n2 B m e d2 a b A' c' B' e') : Dy w a.neg A' (len a.m) c' a.den a A' c' := Dy.valid h.ra h.sa h.wa.1 (Nat.le_trans h.wa.2 (by decide))
theorem Iw.dyb {w : World} {n1 n2 : Bool} {A B A' B' : Option Addr} {k c m e c' e' : Nat} {d1 d2 : Int} {a b : DV} (h : Iw w n1 A k c d1 n2 B m e d2 a b A' c' B' e') : Dy w b.neg B' (len b.m) e' b.den b B' e' := Dy.valid h.rb h.sb h.wb.1 (Nat.le_trans h.wb.2 (by decide))
theorem iv_ok {w : World} {a b : DV} {A B : Option Addr} {c e : Nat} (ra : Rd w A (len a.m) (dg a.m)) (sa : SlOk A (len a.m) c) (wa : End a) (rb : Rd w B (len b.m) (dg b.m)) (sb : SlOk B (len b.m) e) (wb : End b) (le : a.q ≤ b.q) :
  Iw w a.neg A (len a.m) c a.den b.neg B (len b.m) e b.den a b A c B e := by
 have da : Dy w a.neg A (len a.m) c a.den a A c := Dy.valid ra sa wa.1 (Nat.le_trans wa.2 (by decide))
 have db : Dy w b.neg B (len b.m) e b.den b B e := Dy.valid rb sb wb.1 (Nat.le_trans wb.2 (by decide))
 refine ⟨ra, sa, wa, rb, sb, wb, le, fun w' x => ?_, fun w' x => ?_⟩
 ·refine interval_t (fun w1 y => ?_)
  have v1 := fun w'' (z : Ext w1 w'') => valid_any a.neg A (len a.m) c a.den (dg a.m) w'' (ra.ext ((x.trans y).trans z)) (fun i _ => dg_lt _ _) (Nat.le_trans wa.2 (by decide))
  have v2 := fun w'' (z : Ext w1 w'') => valid_any b.neg B (len b.m) e b.den (dg b.m) w'' (rb.ext ((x.trans y).trans z)) (fun i _ => dg_lt _ _) (Nat.le_trans wb.2 (by decide))
  rw [vld_ok wa.1] at v1
  rw [vld_ok wb.1] at v2
  have h := ivalid_both v1 v2 _ (fun w'' z => cmp_any (da.ext ((x.trans y).trans z)) (db.ext ((x.trans y).trans z)))
  rw [decide_eq_true ((cmp_le wa.1 wb.1).2 le)] at h
  exact h
 ·refine norm3_t (fun w1 y => ?_)
  have v1 := fun w'' (z : Ext w1 w'') => rvalid_any a.neg A (len a.m) c a.den (dg a.m) w'' (ra.ext ((x.trans y).trans z)) (fun i _ => dg_lt _ _) (Nat.le_trans wa.2 (by decide))
  have v2 := fun w'' (z : Ext w1 w'') => rvalid_any b.neg B (len b.m) e b.den (dg b.m) w'' (rb.ext ((x.trans y).trans z)) (fun i _ => dg_lt _ _) (Nat.le_trans wb.2 (by decide))
  rw [vld_ok wa.1] at v1
  rw [vld_ok wb.1] at v2
  have h := rivalid_both v1 v2 _ (fun w'' z => rdcmp_any (da.ext ((x.trans y).trans z)) (db.ext ((x.trans y).trans z)) (lim_subE wa.1 wb.1 wa.2 wb.2) (subD_ok _ _))
  rw [decide_eq_true ((cmp_le wa.1 wb.1).2 le)] at h
  exact h
theorem IvRes.at_ {w w0 : World} {a b : DV} {A B : Option Addr} {c e bs : Nat} (ha : Fr w bs A (len a.m) c (dg a.m)) (hb : Fr w bs B (len b.m) e (dg b.m)) (wa : End a) (wb : End b) (le : a.q ≤ b.q) (x : Ext w w0) :
  Iw w0 a.neg A (len a.m) c a.den b.neg B (len b.m) e b.den a b A c B e := (iv_ok ha.rd ha.ok wa hb.rd hb.ok wb le).ext x
theorem DV.zero_end : End DV.zero := ⟨DV.zero_ok, by rw [zero_len]; decide⟩
def ivL (n1 : Bool) (k : Nat) (f : Nat → Nat) (d1 : Int) (n2 : Bool) (m : Nat) (g : Nat → Nat) (d2 : Int) : DV := if ivB n1 k f d1 n2 m g d2 = true then nrA n1 k f d1 else DV.zero
def ivH (n1 : Bool) (k : Nat) (f : Nat → Nat) (d1 : Int) (n2 : Bool) (m : Nat) (g : Nat → Nat) (d2 : Int) : DV := if ivB n1 k f d1 n2 m g d2 = true then nrA n2 m g d2 else DV.zero
theorem Iw.any {w : World} {n1 n2 : Bool} {A B : Option Addr} {k c m e : Nat} {d1 d2 : Int} {f g : Nat → Nat} (ra : Rd w A k f) (oa : SlOk A k c) (ba : ∀ i, i < k → f i < 4294967296) (ka : k ≤ 1048576)
  (rb : Rd w B m g) (ob : SlOk B m e) (bb : ∀ i, i < m → g i < 4294967296) (kb : m ≤ 1048576) :
  Iw w n1 A k c d1 n2 B m e d2 (ivL n1 k f d1 n2 m g d2) (ivH n1 k f d1 n2 m g d2) (if ivB n1 k f d1 n2 m g d2 = true then A else none) (if ivB n1 k f d1 n2 m g d2 = true then c else 0) (if ivB n1 k f d1 n2 m g d2 = true then B else none) (if ivB n1 k f d1 n2 m g d2 = true then e else 0) := by
 have hv := ivalid_any (n1 := n1) (n2 := n2) (d1 := d1) (d2 := d2) ra oa ba (by omega) rb ob bb (by omega)
 have hr := rivalid_any (n1 := n1) (n2 := n2) (d1 := d1) (d2 := d2) ra oa ba ka rb ob bb kb
 unfold ivL ivH
 by_cases h : ivB n1 k f d1 n2 m g d2 = true
 ·rw [if_pos h, if_pos h, if_pos h, if_pos h, if_pos h, if_pos h]
  rw [h] at hv hr
  have h' := h
  unfold ivB at h'
  rw [Bool.and_eq_true, Bool.and_eq_true, decide_eq_true_eq] at h'
  obtain ⟨h1, h2, h3⟩ := h'
  have da : Dy w n1 A k c d1 _ _ _ := Dy.any ra oa ba (by omega)
  have db : Dy w n2 B m e d2 _ _ _ := Dy.any rb ob bb (by omega)
  have ra' := da.rd; have sa' := da.sl; have rb' := db.rd; have sb' := db.sl
  rw [if_pos h1] at ra' sa'
  rw [if_pos h1] at sa'
  rw [if_pos h2] at rb' sb'
  rw [if_pos h2] at sb'
  obtain ⟨p1, p2, p3⟩ := nrA_t ba h1
  obtain ⟨q1, q2, q3⟩ := nrA_t bb h2
  have ev : ivd (nrA n1 k f d1) A c (nrA n2 m g d2) B e = iv n1 A k c d1 n2 B m e d2 := by
   show iv _ A _ c _ _ B _ e _ = _
   rw [p1, p2, p3, q1, q2, q3]
  refine ⟨ra', sa', ⟨da.wf, nrA_len ba ka⟩, rb', sb', ⟨db.wf, nrA_len bb kb⟩, (cmp_le da.wf db.wf).1 h3, fun w' x => ?_, fun w' x => ?_⟩
  ·rw [ev]; exact interval_t (fun w1 y => hv w1 (x.trans y))
  ·rw [ev]; exact norm3_t (fun w1 y => hr w1 (x.trans y))
 ·rw [if_neg h, if_neg h, if_neg h, if_neg h, if_neg h, if_neg h]
  rw [Bool.eq_false_iff.2 h] at hv hr
  have z0 : SlOk none (len DV.zero.m) 0 := by rw [zero_len]; exact ⟨Nat.le_refl _, Nat.zero_le _, fun _ => ⟨rfl, rfl⟩⟩
  have z1 : Rd w none (len DV.zero.m) (dg DV.zero.m) := by rw [zero_len]; exact Rd.none_
  have ez : ivd DV.zero none 0 DV.zero none 0 = iv false none 0 0 0 false none 0 0 0 := by
   show iv _ _ (len DV.zero.m) _ _ _ _ (len DV.zero.m) _ _ = _
   rw [zero_len]; rfl
  refine ⟨z1, z0, DV.zero_end, z1, z0, DV.zero_end, by grind, fun w' x => ?_, fun w' x => ?_⟩
  ·rw [ez]; exact interval_f (fun w1 y => hv w1 (x.trans y))
  ·rw [ez]; exact norm3_f (fun w1 y => hr w1 (x.trans y))
end
end Go.Proofs.YtgnngldlgcdnfaaGreatDoor
