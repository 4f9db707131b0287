/- The law ExactValues: it returns true. -/
import Derived.Test.YtgnaljnmjphleaaDoorEyl
import Derived.Test.YtgnaljnmjphleaaDoorRefmo
namespace Go.Proofs.YtgnaljnmjphleaaDoor
open Go Go.RowKit

set_option maxRecDepth 100000 in
set_option maxHeartbeats 1000000 in
theorem dsame_true {w : World} {d : DV} {A B : Option Addr} {ca cb : Nat} (ha : Rd w A (len d.m) (dg d.m)) (hb' : Rd w B (len d.m) (dg d.m)) (hl : len d.m ≤ 1073741824) :
    Calls Tryd.prog 17 #[dv d.neg A (len d.m) ca d.den, dv d.neg B (len d.m) cb d.den] w fun e w' => e = .returned (.bool true) ∧ Ext w w' := by
  obtain ⟨X0, X1, XE⟩ : Bx ((w.alloc (.cells #[.bool d.neg, .slice A (len d.m) ca, I d.den] 45)).alloc (.cells #[.bool d.neg, .slice B (len d.m) cb, I d.den] 45)) w.heap.size (.bool d.neg) (.slice A (len d.m) ca) (I d.den) ∧
      Bx ((w.alloc (.cells #[.bool d.neg, .slice A (len d.m) ca, I d.den] 45)).alloc (.cells #[.bool d.neg, .slice B (len d.m) cb, I d.den] 45)) (w.heap.size + 1) (.bool d.neg) (.slice B (len d.m) cb) (I d.den) ∧
      Ext w ((w.alloc (.cells #[.bool d.neg, .slice A (len d.m) ca, I d.den] 45)).alloc (.cells #[.bool d.neg, .slice B (len d.m) cb, I d.den] 45)) := two_bx (Ext.refl _)
  have HX0 := Lib.hid X0; have HX1 := Lib.hid X1; have HXE := Lib.hid XE
  clear X0 X1 XE
  have HA := Lib.hid ha; have HB := Lib.hid hb'; clear ha hb'
  generalize d.neg = neg at *
  generalize (d.den : Int) = den at *
  generalize len d.m = L at *
  go_enter Tryd.func17, Tryd.ntmps17
  go_wp2
  go_loopw [30] (fun s wr => Hid (Ext ((w.alloc (.cells #[.bool neg, .slice A L ca, I den] 45)).alloc (.cells #[.bool neg, .slice B L cb, I den] 45)) wr) ∧ ∃ k : Nat, k ≤ L ∧ s = I k) (fun s _ => L - (intOf s).toNat)
  case atStart => exact ⟨Ext.refl _, 0, Nat.zero_le _, rfl⟩
  case round =>
    obtain ⟨hX, k, hk, rfl⟩ := hrel
    obtain ⟨k0, k1, k2, k3, k4, k5⟩ := keepB HX0.out HX1.out hX.out
    by_cases hlt : k < L
    · obtain ⟨b1, o1, e1, hb1, c1⟩ := (HA.out.ext (HXE.out.trans hX.out)).at_ hlt
      obtain ⟨b2, o2, e2, hb2, c2⟩ := (HB.out.ext (HXE.out.trans hX.out)).at_ hlt
      rw [e1] at k1
      rw [e2] at k4
      have i1 : (0 : Int) ≤ (k : Int) := by omega
      have i2 : (k : Int) < (L : Int) := by omega
      clear e1 e2
      go_wp2
      go_quiet (fail)
      go_wp2
      go_roundw
      case rel => exact ⟨hX.out.trans (Ext.drewN _ _), k + 1, by omega, by go_num⟩
      case measure => simp [intOf]; omega
    · obtain rfl : k = L := by omega
      go_wp2
      go_ret
      exact ⟨rfl, HXE.out.trans hX.out⟩


set_option maxRecDepth 100000 in
set_option maxHeartbeats 1000000 in
theorem rvalue_any (n e : Int) (w : World) (h1 : -2147483648 < n) (h2 : n < 2147483648) (h3 : -62 ≤ e) (h4 : e ≤ 30) :
    Calls Tryd.prog 18 #[.agg #[I n, I e]] w (DyRes (nmS n e) w) := by
  obtain ⟨X0, X2, XE⟩ := num_boxes w (I n) (I e) (.bool false) (.slice none 0 0) (I 0) 40 45
  have HX0 := Lib.hid X0; have HX2 := Lib.hid X2; have HXE := Lib.hid XE; have XE2 := Lib.hid (XE.trans (Ext.drew _))
  clear X0 X2 XE
  obtain ⟨⟨k0, k1⟩, kf⟩ := HX0.out
  obtain ⟨d', hd'⟩ : ∃ d', nmS n e = d' := ⟨_, rfl⟩
  obtain ⟨l1, l2⟩ := nmS_len h1 h2 h4
  have wf' := nmS_ok n e
  rw [hd'] at l2 wf' ⊢
  have HL := Lib.hid l1; have HL2 := Lib.hid l2; have HW := Lib.hid (ofI_ok n 0); have HW2 := Lib.hid wf'
  have HD' := Lib.hid hd'
  clear hd' l1 l2 wf'
  have hn2 : ¬ w.heap.size + 1 = w.heap.size := by omega
  have hn3 : ¬ w.heap.size = w.heap.size + 1 := by omega
  go_enter Tryd.func18, Tryd.ntmps18
  go_upto_region 1 with fail
  go_region_held3 (fun w' => w'.cell? ⟨w.heap.size, 0, none⟩ = some (I n) ∧ w'.cell? ⟨w.heap.size, 1, none⟩ = some (I e)) (go_keep)
    (first
      | (go_at_call 42; refine (rof_any n _ (by omega) (by omega)).mono ?_; rintro e5 w5 ⟨A5, c5, rfl, hon5, hx5⟩; obtain ⟨⟨q0, q1⟩, _⟩ := HX0.out.ext (w' := w5) ((Ext.drew _).trans hx5); have HDN := Lib.hid (dy_of_on hon5 HW.out HL.out (Ext.refl _)); clear hon5)
      | (go_at_call 41; refine (rshift_any2 e HDN.out (by omega) (by omega)).mono ?_; rw [show shiftD (ofI n 0) e = d' from HD'.out]; rintro e6 w6 ⟨A6, c6, rfl, hon6, hx6⟩; obtain ⟨⟨p0, p1⟩, _⟩ := HX0.out.ext (w' := w6) (((Ext.drew _).trans hx5).trans hx6); have gz := (HX2.out.ext (w' := w6) (((Ext.drew _).trans hx5).trans hx6)).2; obtain ⟨z0, z1, z2⟩ := (HX2.out.ext (w' := w6) (((Ext.drew _).trans hx5).trans hx6)).1; have HO6 := Lib.hid hon6; clear hon6))
  all_goals
    have HXF := Lib.hid (((HXE.out.trans (Ext.drew _)).trans hx5).trans hx6)
    have hsz5 := (XE2.out.trans hx5).size
    have hlt := (HX2.out.ext (w' := w5) ((Ext.drew _).trans hx5)).lt
    go_wp2_with fail
    refine bodyPost_ret (v := dv d'.neg A6 (len d'.m) c6 d'.den) (by simp [results, Tryd.results18, go_sem, z0, z1, z2]) rfl ⟨A6, c6, rfl, ?_, ?_⟩
    · exact (HO6.out.set3 hlt _ _ _).mono hsz5
    · exact ext_set3 HXF.out (by omega) _ _ _


/-! ### Value by the code -/
def VaP (d : DV) (w : World) (e : Ending) (w' : World) : Prop := ∃ A c, e = .returned (.tuple #[(cnR d A c).v, .nilIface]) ∧ Cn w' (cnR d A c) d ∧ Ext w w'
theorem out_scE {n e : Int} (h : scE true n e ≠ 0) : n ≤ -2147483648 ∨ 2147483648 ≤ n ∨ e < -62 ∨ 30 < e := by
  unfold scE at h
  rw [if_pos rfl] at h
  by_cases q : n ≤ -2147483648 ∨ 2147483648 ≤ n ∨ e < -62 ∨ 30 < e
  · exact q
  · rw [if_neg q] at h; exact absurd rfl h
set_option maxRecDepth 100000 in
set_option maxHeartbeats 2000000 in
theorem Value_err (n e : Int) (w : World) (h : scE true n e ≠ 0) : Calls Tryd.prog 15 #[.agg #[I n, I e]] w fun x w' => x = .returned (.tuple #[dv false none 0 0 0, .iface 49 (I 3)]) ∧ Ext w w' := by
  have h := out_scE h
  by_cases h1 : n ≤ -2147483648
  · clear h
    go_enter Tryd.func15, Tryd.ntmps15
    go_wp2_with fail
    exact bodyPost_ret (v := .tuple #[dv false none 0 0 0, .iface 49 (I 3)]) (by simp [results, Tryd.results15, go_sem]) rfl ⟨rfl, (Ext.alloc _ _).trans (Ext.alloc _ _)⟩
  by_cases h2 : 2147483648 ≤ n
  · clear h
    go_enter Tryd.func15, Tryd.ntmps15
    go_wp2_with fail
    exact bodyPost_ret (v := .tuple #[dv false none 0 0 0, .iface 49 (I 3)]) (by simp [results, Tryd.results15, go_sem]) rfl ⟨rfl, (Ext.alloc _ _).trans (Ext.alloc _ _)⟩
  by_cases h3 : e < -62
  · clear h
    go_enter Tryd.func15, Tryd.ntmps15
    go_wp2_with fail
    exact bodyPost_ret (v := .tuple #[dv false none 0 0 0, .iface 49 (I 3)]) (by simp [results, Tryd.results15, go_sem]) rfl ⟨rfl, (Ext.alloc _ _).trans (Ext.alloc _ _)⟩
  have h4 : 30 < e := by omega
  have h5 : True := trivial
  · clear h h5
    go_enter Tryd.func15, Tryd.ntmps15
    go_wp2_with fail
    exact bodyPost_ret (v := .tuple #[dv false none 0 0 0, .iface 49 (I 3)]) (by simp [results, Tryd.results15, go_sem]) rfl ⟨rfl, (Ext.alloc _ _).trans (Ext.alloc _ _)⟩
set_option maxRecDepth 100000 in
set_option maxHeartbeats 2000000 in
theorem Value_ok (n e : Int) (w : World) (hT : Tabs w) (h : scE true n e = 0) : Calls Tryd.prog 15 #[.agg #[I n, I e]] w (VaP (nmS n e) w) := by
  obtain ⟨h1, h2, h3, h4⟩ := scE_rng h
  obtain ⟨W1, hW1⟩ : ∃ W1, W1 = (w.alloc (.cells #[I n, I e] 40)).alloc (.cells #[.bool false, .slice none 0 0, I 0] 45) := ⟨_, rfl⟩
  obtain ⟨X0, X2, XE⟩ := num_boxes w (I n) (I e) (.bool false) (.slice none 0 0) (I 0) 40 45
  rw [← hW1] at X0 X2 XE
  have HX2 := Lib.hid X2; have HXE := Lib.hid XE
  obtain ⟨⟨k0, k1⟩, kf⟩ := X0
  have HNV : Hid (∀ w', Ext W1 w' → Calls Tryd.prog 40 #[.agg #[I n, I e]] w' (DyRes (nmS n e) w')) := fun w' x => enumber_any n e w' (hT.ext (XE.trans x)) h1 h2 h3 h4
  have HB : Hid ((nmS n e).ok ∧ len (nmS n e).m ≤ 16777216) := ⟨nmS_ok _ _, (nmS_len h1 h2 h4).2⟩
  have HZ : Hid (W1.heap.size = w.heap.size + 1 + 1) := by show _ = _; rw [hW1]; simp
  obtain ⟨d', hd'⟩ : ∃ d', nmS n e = d' := ⟨_, rfl⟩
  rw [hd'] at HNV HB ⊢
  clear hd' hT h XE X2 kf
  go_enter Tryd.func15, Tryd.ntmps15
  go_upto_region 1 with fail
  rw [← hW1]; clear hW1
  go_wp2_with (go_at_call 40; (with_reducible refine (HNV.out _ (Ext.refl _)).mono ?_); rintro e1 w1 ⟨A2, c2, rfl, hon, hx2⟩; have HO := Lib.hid hon; have HX := Lib.hid hx2; obtain ⟨⟨r0, r1, r2⟩, rf⟩ := HX2.out.ext hx2; have f0 := rf 0; have f1 := rf 1; have f2 := rf 2; clear rf hon hx2)
  refine bodyPost_ret (v := .tuple #[(cnR d' A2 c2).v, .nilIface]) (by simp [results, Tryd.results15, go_sem, r0, r1, r2, cnR]) rfl ⟨A2, c2, rfl, ?_, ?_⟩
  · exact Cn.on (HO.out.set3 (by have := HZ.out; omega) _ _ _) HB.out.1 HB.out.2
  · exact ext_set3 (HXE.out.trans HX.out) (by omega) _ _ _
set_option maxRecDepth 100000 in
set_option maxHeartbeats 2000000 in
theorem exactValues_any {w : World} (hT : Tabs w) (n e : Int) (hn : -9223372036854775808 ≤ n ∧ n ≤ 9223372036854775807) (he : -9223372036854775808 ≤ e ∧ e ≤ 9223372036854775807) :
    Calls Tryd.prog 5 #[.agg #[I n, I e]] w fun x w' => x = .returned (.bool true) ∧ Ext w w' := by
  obtain ⟨W1, hW1⟩ : ∃ W1, W1 = w.alloc (.cells #[I n, I e] 40) := ⟨_, rfl⟩
  have hE : Ext w W1 := by rw [hW1]; exact Ext.alloc _ _
  have hz1 : W1.heap.size = w.heap.size + 1 := by rw [hW1]; simp
  have HBX : Hid (∀ w', Ext W1 w' → w'.cell? ⟨w.heap.size, 0, none⟩ = some (I n) ∧ w'.cell? ⟨w.heap.size, 1, none⟩ = some (I e)) := fun w' x => by
    have hl : w.heap.size < W1.heap.size := by omega
    refine ⟨(x.old.1 _ _ hl).trans ?_, (x.old.1 _ _ hl).trans ?_⟩ <;> (rw [hW1]; go_simp)
  have HA : Hid (∀ w', Ext W1 w' → Calls Tryd.prog 14 #[] w' fun e w'' => e = .returned (.bool true) ∧ Ext w' w'') := fun w' x => xawake_any w' (hT.ext (hE.trans x))
  obtain ⟨c0, c1⟩ := HBX.out _ (Ext.refl _)
  have HE := Lib.hid hE; have HT := Lib.hid (hT.ext hE)
  by_cases hs : scE true n e = 0
  · have hr := scE_rng hs
    have HV : Hid (∀ w', Ext W1 w' → Calls Tryd.prog 15 #[.agg #[I n, I e]] w' (VaP (nmS n e) w')) := fun w' x => Value_ok n e w' (hT.ext (hE.trans x)) hs
    have HRV : Hid (∀ w', Ext W1 w' → Calls Tryd.prog 18 #[.agg #[I n, I e]] w' (DyRes (nmS n e) w')) := fun w' _ => rvalue_any n e w' hr.1 hr.2.1 hr.2.2.1 hr.2.2.2
    have HB : Hid ((nmS n e).ok ∧ len (nmS n e).m ≤ 16777216) := ⟨nmS_ok _ _, (nmS_len hr.1 hr.2.1 hr.2.2.2).2⟩
    obtain ⟨d', hd'⟩ : ∃ d', nmS n e = d' := ⟨_, rfl⟩
    rw [hd'] at HV HRV HB
    obtain ⟨h1, h2, h3, h4⟩ := hr
    have g1 : ¬ n ≤ -2147483648 := by omega
    have g2 : ¬ 2147483648 ≤ n := by omega
    have g3 : ¬ e < -62 := by omega
    have g4 : ¬ 30 < e := by omega
    clear hT hE hs hd' h1 h2 h3 h4
    go_enter Tryd.func5, Tryd.ntmps5
    go_upto_region 1 with fail
    rw [← hW1]; clear hW1
    go_upto_region 6 with (first
      | (go_at_call 14; (with_reducible refine (HA.out _ (Ext.refl _)).mono ?_); rintro e1 w1 ⟨rfl, h1⟩; have HX1 := Lib.hid h1; obtain ⟨d0, d1⟩ := HBX.out _ h1; clear h1)
      | (go_at_call 15; (with_reducible refine (HV.out _ HX1.out).mono ?_); rintro e1 w2 ⟨A2, y2, rfl, cn2, h2⟩; have HX2 := Lib.hid (HX1.out.trans h2); have CN2 := Lib.hid cn2; obtain ⟨d0, d1⟩ := HBX.out _ HX2.out; have hsz := HX2.out.size; have hlt : w.heap.size < w2.heap.size := (by omega); have hne : ¬ w.heap.size = w2.heap.size := (by omega); have hne2 : ¬ w2.heap.size = w.heap.size := (by omega); clear h2 cn2))
    have HSM : Hid (∀ w' B f, Ext w2 w' → Cn w' (cnR d' B f) d' → Calls Tryd.prog 17 #[(cnR d' A2 y2).v, (cnR d' B f).v] w' (fun e w'' => e = .returned (.bool true) ∧ Ext w' w'')) := fun w' B f x c =>
      dsame_true (CN2.out.rd.ext x) c.rd (by have := HB.out.2; omega)
    obtain ⟨W2, hW2⟩ : ∃ W2, W2 = w2.alloc (.cells #[.bool (cnR d' A2 y2).neg, .slice (cnR d' A2 y2).A (cnR d' A2 y2).n (cnR d' A2 y2).c, I (cnR d' A2 y2).den] 45) := ⟨_, rfl⟩
    have hE2 : Ext w2 W2 := by rw [hW2]; exact Ext.alloc _ _
    have hb2 : Bx W2 w2.heap.size (.bool (cnR d' A2 y2).neg) (.slice (cnR d' A2 y2).A (cnR d' A2 y2).n (cnR d' A2 y2).c) (I (cnR d' A2 y2).den) := by rw [hW2]; exact Bx.new _ _ _ _ _
    rw [← hW2]; clear hW2
    have HS : Hid (∀ w', Ext W2 w' → (w'.cell? ⟨w.heap.size, 0, none⟩ = some (I n) ∧ w'.cell? ⟨w.heap.size, 1, none⟩ = some (I e)) ∧ w'.cell? ⟨w2.heap.size, 0, none⟩ = some (.bool (cnR d' A2 y2).neg) ∧ w'.cell? ⟨w2.heap.size, 1, none⟩ = some (.slice (cnR d' A2 y2).A (cnR d' A2 y2).n (cnR d' A2 y2).c) ∧ w'.cell? ⟨w2.heap.size, 2, none⟩ = some (I (cnR d' A2 y2).den)) := fun w' x =>
      ⟨HBX.out _ ((HX2.out.trans hE2).trans x), (hb2.ext x).1.1, (hb2.ext x).1.2.1, (hb2.ext x).1.2.2⟩
    have HE2 := Lib.hid hE2
    have HX3 := Lib.hid (HX2.out.trans hE2)
    clear hE2 hb2 d0 d1 c0 c1
    go_region_held3 (fun w' => (w'.cell? ⟨w.heap.size, 0, none⟩ = some (I n) ∧ w'.cell? ⟨w.heap.size, 1, none⟩ = some (I e)) ∧ w'.cell? ⟨w2.heap.size, 0, none⟩ = some (.bool (cnR d' A2 y2).neg) ∧ w'.cell? ⟨w2.heap.size, 1, none⟩ = some (.slice (cnR d' A2 y2).A (cnR d' A2 y2).n (cnR d' A2 y2).c) ∧ w'.cell? ⟨w2.heap.size, 2, none⟩ = some (I (cnR d' A2 y2).den)) (exact HS.out _ (by (with_reducible (repeat (first | exact Ext.refl _ | assumption | (refine Ext.toSet ?_ (by omega)) | refine Ext.toAlloc ?_ | refine Ext.toDrew ?_ | refine Ext.toDrewN ?_ | refine Ext.trans ?_ (by assumption)))); (first | done | fail "no")))
      (first
        | (go_at_call 18; (with_reducible refine (HRV.out _ (HX3.out.trans (by (with_reducible (repeat (first | exact Ext.refl _ | assumption | (refine Ext.toSet ?_ (by omega)) | refine Ext.toAlloc ?_ | refine Ext.toDrew ?_ | refine Ext.toDrewN ?_ | refine Ext.trans ?_ (by assumption)))); (first | done | fail "no")))).mono ?_); rintro e3 w3 hr; obtain ⟨A3, y3, rfl, cn3, _, hx3⟩ := hr.cn HB.out.1 HB.out.2; have CN3 := Lib.hid cn3; have HX4 := Lib.hid (show Ext W2 w3 from (by (with_reducible (repeat (first | exact Ext.refl _ | assumption | (refine Ext.toSet ?_ (by omega)) | refine Ext.toAlloc ?_ | refine Ext.toDrew ?_ | refine Ext.toDrewN ?_ | refine Ext.trans ?_ (by assumption)))); (first | done | fail "no"))); clear hr cn3)
        | (go_at_call 17; (with_reducible refine (HSM.out _ _ _ (HE2.out.trans HX4.out) CN3.out).mono ?_); rintro e4 w4 ⟨rfl, hx4⟩))
    all_goals
      go_wp2_with fail
      go_ret
      exact ⟨rfl, HE.out.trans (HX3.out.trans (HX4.out.trans hx4))⟩
  · have HV : Hid (∀ w', Ext W1 w' → Calls Tryd.prog 15 #[.agg #[I n, I e]] w' (fun x w'' => x = .returned (.tuple #[dv false none 0 0 0, .iface 49 (I 3)]) ∧ Ext w' w'')) := fun w' _ => Value_err n e w' hs
    have HSZ : Hid (∀ w', Calls Tryd.prog 17 #[dv false none 0 0 0, dv false none 0 0 0] w' (fun e w'' => e = .returned (.bool true) ∧ Ext w' w'')) := fun w' => by
      have := dsame_true (w := w') (d := DV.zero) (A := none) (B := none) (ca := 0) (cb := 0) (by rw [zero_len]; exact Rd.none_) (by rw [zero_len]; exact Rd.none_) (by rw [zero_len]; omega)
      rw [zero_len] at this
      exact this
    have HIS : Hid (∀ w', Calls Tryd.prog 16 #[.iface 49 (I 3), I 3] w' (fun e w'' => e = .returned (.bool true) ∧ Ext w' w'')) := fun w' => by
      have := is_err 3 3 w'; simpa using this
    have hq := out_scE hs
    have key : (n ≤ -2147483648) ∨ (¬ n ≤ -2147483648 ∧ 2147483648 ≤ n) ∨ (¬ n ≤ -2147483648 ∧ ¬ 2147483648 ≤ n ∧ e < -62) ∨ (¬ n ≤ -2147483648 ∧ ¬ 2147483648 ≤ n ∧ ¬ e < -62 ∧ 30 < e) := by omega
    clear hT hE hs hq
    rcases key with k1 | ⟨k1, k2⟩ | ⟨k1, k2, k3⟩ | ⟨k1, k2, k3, k4⟩
    all_goals
      go_enter Tryd.func5, Tryd.ntmps5
      go_upto_region 1 with fail
      rw [← hW1]; clear hW1
      go_wp2_with (first
        | (go_at_call 14; (with_reducible refine (HA.out _ (Ext.refl _)).mono ?_); rintro e1 w1 ⟨rfl, h1⟩; have HX1 := Lib.hid h1; obtain ⟨d0, d1⟩ := HBX.out _ h1; clear h1)
        | (go_at_call 15; (with_reducible refine (HV.out _ HX1.out).mono ?_); rintro e1 w2 ⟨rfl, h2⟩; have HX2 := Lib.hid (HX1.out.trans h2); obtain ⟨d0, d1⟩ := HBX.out _ HX2.out; have hsz := HX2.out.size; have hlt : w.heap.size < w2.heap.size := (by omega); have hne : ¬ w.heap.size = w2.heap.size := (by omega); have hne2 : ¬ w2.heap.size = w.heap.size := (by omega); have hbx := (Bx.new w2 (.bool false) (.slice none 0 0) (I 0) 45); have HB2 := Lib.hid hbx; clear h2 hbx)
        | (go_at_call 16; (with_reducible refine (HIS.out _).mono ?_); rintro e1 w3 ⟨rfl, h3⟩; have HX3 := Lib.hid ((HX2.out.trans (Ext.alloc _ _)).trans h3); obtain ⟨⟨b0, b1, b2⟩, _⟩ := HB2.out.ext h3; clear h3)
        | (go_at_call 17; (with_reducible refine (HSZ.out _).mono ?_); rintro e1 w4 ⟨rfl, h4⟩; have HX4 := Lib.hid (HX3.out.trans h4); clear h4))
      go_ret
      exact ⟨rfl, HE.out.trans HX4.out⟩
end Go.Proofs.YtgnaljnmjphleaaDoor
