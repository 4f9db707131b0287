/- Intervals: Valid and Norm of the reference; the fields of a valid number. -/
import Derived.Test.YtgnngldlgcdnfaaGreatDoorIva
import Derived.Test.YtgnngldlgcdnfaaGreatDoorDyy
import Derived.Test.YtgnngldlgcdnfaaGreatDoorRefhj
namespace Go.Proofs.YtgnngldlgcdnfaaGreatDoor
open Go.RowKit

/-- The fields of a valid number are those of the number as which it counts. -/
theorem nrA_t {neg : Bool} {n : Nat} {f : Nat → Nat} {den : Int} (hb : ∀ i, i < n → f i < 4294967296) (hv : vld neg n f den = true) : (nrA neg n f den).neg = neg ∧ len (nrA neg n f den).m = n ∧ ((nrA neg n f den).den : Int) = den := by
  have e : nrA neg n f den = ⟨neg, valN f n, den.toNat⟩ := by unfold nrA; rw [if_pos hv]
  rw [e]
  refine ⟨rfl, ?_, ?_⟩
  · refine len_valN hb (Nat.le_refl _) (fun i h1 h2 => by omega) ?_
    cases n with
    | zero => exact .inl rfl
    | succ k => rw [vld_succ] at hv; simp at hv; exact .inr (by simpa using hv.1.1.1)
  · show ((den.toNat : Nat) : Int) = den
    cases n with
    | zero => rw [vld_zero] at hv; simp at hv; omega
    | succ k => rw [vld_succ] at hv; simp at hv; have := hv.1.1.2; omega
theorem nrA_len {neg : Bool} {n : Nat} {f : Nat → Nat} {den : Int} (hb : ∀ i, i < n → f i < 4294967296) (hn : n ≤ 1048576) : len (nrA neg n f den).m ≤ 1048576 := by
  by_cases hv : vld neg n f den = true
  · rw [(nrA_t hb hv).2.1]; exact hn
  · unfold nrA; rw [if_neg hv, zero_len]; decide
/-- What Valid of the reference says of an argument. -/
def IvValR (b : Bool) (v : Value) (w : World) : Prop := ∀ w', Ext w w' → Calls Tryz.prog 61 #[v] w' fun e w'' => e = .returned (.bool b) ∧ Ext w' w''

set_option maxRecDepth 100000 in
set_option maxHeartbeats 1000000 in
theorem norm3_t {w : World} {n1 n2 : Bool} {A B : Option Addr} {k c m e : Nat} {d1 d2 : Int} (h : IvValR true (iv n1 A k c d1 n2 B m e d2) w) :
    Calls Tryz.prog 79 #[iv n1 A k c d1 n2 B m e d2] w fun e' w' => e' = .returned (iv n1 A k c d1 n2 B m e d2) ∧ Ext w w' := by
  have H : Hid (∀ w', Ext w w' → Calls Tryz.prog 61 #[iv n1 A k c d1 n2 B m e d2] w' fun e w'' => e = .returned (.bool true) ∧ Ext w' w'') := h
  clear h
  have S0 := Lib.hid ((B6.new w (.bool n1) (.slice A k c) (I d1) (.bool n2) (.slice B m e) (I d2) 58).ext (Ext.alloc _ (.cells #[.bool false, .slice none 0 0, I 0, .bool false, .slice none 0 0, I 0] 58)))
  have S1 : Hid (B6 ((w.alloc (.cells #[.bool n1, .slice A k c, I d1, .bool n2, .slice B m e, I d2] 58)).alloc (.cells #[.bool false, .slice none 0 0, I 0, .bool false, .slice none 0 0, I 0] 58)) (w.heap.size + 1) (.bool false) (.slice none 0 0) (I 0) (.bool false) (.slice none 0 0) (I 0)) := by
    have s := B6.new (w.alloc (.cells #[.bool n1, .slice A k c, I d1, .bool n2, .slice B m e, I d2] 58)) (.bool false) (.slice none 0 0) (I 0) (.bool false) (.slice none 0 0) (I 0) 58
    rw [show (w.alloc (.cells #[.bool n1, .slice A k c, I d1, .bool n2, .slice B m e, I d2] 58)).heap.size = w.heap.size + 1 by simp] at s
    exact s
  go_enter Tryz.func79, Tryz.ntmps79
  go_wp2_with (go_at_call 61; (with_reducible refine (H.out _ ((Ext.alloc _ _).trans (Ext.alloc _ _))).mono ?_); rintro e1 w1 ⟨rfl, hx⟩; obtain ⟨⟨k0, k1, k2, k3, k4, k5⟩, kz⟩ := S0.out.ext hx; obtain ⟨⟨r0, r1, r2, r3, r4, r5⟩, rz⟩ := S1.out.ext hx; have HX := Lib.hid (((Ext.alloc _ _).trans (Ext.alloc _ _)).trans hx); clear hx)
  exact bodyPost_ret (v := iv n1 A k c d1 n2 B m e d2) (by simp [results, Tryz.results79, go_sem, r0, r1, r2, r3, r4, r5]) rfl ⟨rfl, ext_set6 HX.out (by omega) _ _ _ _ _ _⟩

set_option maxRecDepth 100000 in
set_option maxHeartbeats 1000000 in
theorem norm3_f {w : World} {n1 n2 : Bool} {A B : Option Addr} {k c m e : Nat} {d1 d2 : Int} (h : IvValR false (iv n1 A k c d1 n2 B m e d2) w) :
    Calls Tryz.prog 79 #[iv n1 A k c d1 n2 B m e d2] w fun e' w' => e' = .returned (iv false none 0 0 0 false none 0 0 0) ∧ Ext w w' := by
  have H : Hid (∀ w', Ext w w' → Calls Tryz.prog 61 #[iv n1 A k c d1 n2 B m e d2] w' fun e w'' => e = .returned (.bool false) ∧ Ext w' w'') := h
  clear h
  have S1 : Hid (B6 ((w.alloc (.cells #[.bool n1, .slice A k c, I d1, .bool n2, .slice B m e, I d2] 58)).alloc (.cells #[.bool false, .slice none 0 0, I 0, .bool false, .slice none 0 0, I 0] 58)) (w.heap.size + 1) (.bool false) (.slice none 0 0) (I 0) (.bool false) (.slice none 0 0) (I 0)) := by
    have s := B6.new (w.alloc (.cells #[.bool n1, .slice A k c, I d1, .bool n2, .slice B m e, I d2] 58)) (.bool false) (.slice none 0 0) (I 0) (.bool false) (.slice none 0 0) (I 0) 58
    rw [show (w.alloc (.cells #[.bool n1, .slice A k c, I d1, .bool n2, .slice B m e, I d2] 58)).heap.size = w.heap.size + 1 by simp] at s
    exact s
  go_enter Tryz.func79, Tryz.ntmps79
  go_wp2_with (go_at_call 61; (with_reducible refine (H.out _ ((Ext.alloc _ _).trans (Ext.alloc _ _))).mono ?_); rintro e1 w1 ⟨rfl, hx⟩; obtain ⟨⟨r0, r1, r2, r3, r4, r5⟩, rz⟩ := S1.out.ext hx; have HX := Lib.hid (((Ext.alloc _ _).trans (Ext.alloc _ _)).trans hx); clear hx)
  exact bodyPost_ret (v := iv false none 0 0 0 false none 0 0 0) (by simp [results, Tryz.results79, go_sem, r0, r1, r2, r3, r4, r5]) rfl ⟨rfl, ext_set6 HX.out (by omega) _ _ _ _ _ _⟩

set_option maxRecDepth 100000 in
set_option maxHeartbeats 1000000 in
theorem rivalid_no1 {w' : World} {n1 n2 : Bool} {A B : Option Addr} {k c m e : Nat} {d1 d2 : Int} (h1 : ∀ w'', Ext w' w'' → Calls Tryz.prog 125 #[dv n1 A k c d1] w'' (VldRes false w'')) :
    Calls Tryz.prog 61 #[iv n1 A k c d1 n2 B m e d2] w' fun e1 w'' => e1 = .returned (.bool false) ∧ Ext w' w'' := by
  have H1 := Lib.hid h1; clear h1
  have S0 := Lib.hid (B6.new w' (.bool n1) (.slice A k c) (I d1) (.bool n2) (.slice B m e) (I d2) 58)
  go_enter Tryz.func61, Tryz.ntmps61
  go_wp2_with (go_at_call 125; (with_reducible refine (H1.out _ (Ext.alloc _ _)).mono ?_); rintro e1 w1 ⟨rfl, hx⟩; have X1 := Lib.hid hx; obtain ⟨⟨k0, k1, k2, k3, k4, k5⟩, kz⟩ := S0.out.ext hx; clear hx)
  go_ret
  exact ⟨rfl, (Ext.alloc _ _).trans X1.out⟩

set_option maxRecDepth 100000 in
set_option maxHeartbeats 1000000 in
theorem rivalid_no2 {w' : World} {n1 n2 : Bool} {A B : Option Addr} {k c m e : Nat} {d1 d2 : Int} (h1 : ∀ w'', Ext w' w'' → Calls Tryz.prog 125 #[dv n1 A k c d1] w'' (VldRes true w'')) (h2 : ∀ w'', Ext w' w'' → Calls Tryz.prog 125 #[dv n2 B m e d2] w'' (VldRes false w'')) :
    Calls Tryz.prog 61 #[iv n1 A k c d1 n2 B m e d2] w' fun e1 w'' => e1 = .returned (.bool false) ∧ Ext w' w'' := by
  have H1 := Lib.hid h1; have H2 := Lib.hid h2; clear h1 h2
  have S0 := Lib.hid (B6.new w' (.bool n1) (.slice A k c) (I d1) (.bool n2) (.slice B m e) (I d2) 58)
  go_enter Tryz.func61, Tryz.ntmps61
  go_wp2_with (first
    | (have hg := X1; clear hg; go_at_call 125; (with_reducible refine (H2.out _ ((Ext.alloc _ _).trans X1.out)).mono ?_); rintro e2 w2 ⟨rfl, hx⟩; have X2 := Lib.hid (X1.out.trans hx); obtain ⟨⟨q0, q1, q2, q3, q4, q5⟩, qz⟩ := S0.out.ext X2.out; clear hx)
    | (go_at_call 125; (with_reducible refine (H1.out _ (Ext.alloc _ _)).mono ?_); rintro e1 w1 ⟨rfl, hx⟩; have X1 := Lib.hid hx; obtain ⟨⟨k0, k1, k2, k3, k4, k5⟩, kz⟩ := S0.out.ext hx; clear hx))
  go_ret
  exact ⟨rfl, (Ext.alloc _ _).trans X2.out⟩

set_option maxRecDepth 100000 in
set_option maxHeartbeats 1000000 in
theorem rivalid_both {w' : World} {n1 n2 : Bool} {A B : Option Addr} {k c m e : Nat} {d1 d2 : Int} (h1 : ∀ w'', Ext w' w'' → Calls Tryz.prog 125 #[dv n1 A k c d1] w'' (VldRes true w'')) (h2 : ∀ w'', Ext w' w'' → Calls Tryz.prog 125 #[dv n2 B m e d2] w'' (VldRes true w'')) (v : Int) (h3 : ∀ w'', Ext w' w'' → Calls Tryz.prog 95 #[dv n1 A k c d1, dv n2 B m e d2] w'' fun e w3 => e = .returned (I v) ∧ Ext w'' w3) :
    Calls Tryz.prog 61 #[iv n1 A k c d1 n2 B m e d2] w' fun e1 w'' => e1 = .returned (.bool (decide (v ≤ 0))) ∧ Ext w' w'' := by
  have H1 := Lib.hid h1; have H2 := Lib.hid h2; have H3 := Lib.hid h3; clear h1 h2 h3
  have S0 := Lib.hid (B6.new w' (.bool n1) (.slice A k c) (I d1) (.bool n2) (.slice B m e) (I d2) 58)
  go_enter Tryz.func61, Tryz.ntmps61
  go_wp2_with (first
    | (go_at_call 95; (with_reducible refine (H3.out _ ((Ext.alloc _ _).trans X2.out)).mono ?_); rintro e3 w3 ⟨rfl, hx⟩; have X3 := Lib.hid (X2.out.trans hx); clear hx)
    | (have hg := X1; clear hg; go_at_call 125; (with_reducible refine (H2.out _ ((Ext.alloc _ _).trans X1.out)).mono ?_); rintro e2 w2 ⟨rfl, hx⟩; have X2 := Lib.hid (X1.out.trans hx); obtain ⟨⟨q0, q1, q2, q3, q4, q5⟩, qz⟩ := S0.out.ext X2.out; clear hx)
    | (go_at_call 125; (with_reducible refine (H1.out _ (Ext.alloc _ _)).mono ?_); rintro e1 w1 ⟨rfl, hx⟩; have X1 := Lib.hid hx; obtain ⟨⟨k0, k1, k2, k3, k4, k5⟩, kz⟩ := S0.out.ext hx; clear hx))
  go_ret
  exact ⟨rfl, (Ext.alloc _ _).trans X3.out⟩

theorem lim_subE {a b : DV} (ha : a.ok) (hb : b.ok) (la : len a.m ≤ 1048576) (lb : len b.m ≤ 1048576) : len (subD a b).m ≤ 16777216 := by
  have := lim_sub ha.2.1 hb.2.1; omega
theorem rivalid_any {w : World} {n1 n2 : Bool} {A B : Option Addr} {k c m e : Nat} {d1 d2 : Int} {f g : Nat → Nat} (ra : Rd w A k f) (oa : SlOk A k c) (ba : ∀ i, i < k → f i < 4294967296) (ka : k ≤ 1048576)
    (rb : Rd w B m g) (ob : SlOk B m e) (bb : ∀ i, i < m → g i < 4294967296) (kb : m ≤ 1048576) : IvValR (ivB n1 k f d1 n2 m g d2) (iv n1 A k c d1 n2 B m e d2) w := by
  intro w' h
  have v1 := fun w'' (e' : Ext w' w'') => rvalid_any n1 A k c d1 f w'' (ra.ext (h.trans e')) ba (by omega)
  have v2 := fun w'' (e' : Ext w' w'') => rvalid_any n2 B m e d2 g w'' (rb.ext (h.trans e')) bb (by omega)
  unfold ivB
  cases h1 : vld n1 k f d1 with
  | false => rw [h1] at v1; exact rivalid_no1 v1
  | true =>
    rw [h1] at v1
    cases h2 : vld n2 m g d2 with
    | false => rw [h2] at v2; exact rivalid_no2 v1 v2
    | true =>
      rw [h2] at v2
      have hda : Dy w n1 A k c d1 _ _ _ := Dy.any ra oa ba (by omega)
      have hdb : Dy w n2 B m e d2 _ _ _ := Dy.any rb ob bb (by omega)
      exact rivalid_both v1 v2 _ (fun w'' e' => rdcmp_any (hda.ext (h.trans e')) (hdb.ext (h.trans e')) (lim_subE hda.wf hdb.wf (nrA_len ba ka) (nrA_len bb kb)) (subD_ok _ _))

end Go.Proofs.YtgnngldlgcdnfaaGreatDoor
