/- The reference of layer 11: Long, Port, lists of equal numbers, Start. -/
import Derived.Test.YtgnaljnmjphleaaGreatDoorEyl
import Derived.Test.YtgnaljnmjphleaaGreatDoorRefmo
import Derived.Test.YtgnaljnmjphleaaGreatDoorRefj
import Derived.Test.YtgnaljnmjphleaaGreatDoorDhac
namespace Go.Proofs.YtgnaljnmjphleaaGreatDoor
open Go Go.RowKit

set_option maxRecDepth 100000 in
set_option maxHeartbeats 1000000 in
theorem dsame_true {w : World} {d : DV} {A B : Option Addr} {ca cb : Nat} (ha : Rd w A (len d.m) (dg d.m)) (hb' : Rd w B (len d.m) (dg d.m)) (hl : len d.m ≤ 1073741824) :
    Calls Tryz.prog 25 #[dv d.neg A (len d.m) ca d.den, dv d.neg B (len d.m) cb d.den] w fun e w' => e = .returned (.bool true) ∧ Ext w w' := by
  obtain ⟨X0, X1, XE⟩ : Bx ((w.alloc (.cells #[.bool d.neg, .slice A (len d.m) ca, I d.den] 61)).alloc (.cells #[.bool d.neg, .slice B (len d.m) cb, I d.den] 61)) w.heap.size (.bool d.neg) (.slice A (len d.m) ca) (I d.den) ∧
      Bx ((w.alloc (.cells #[.bool d.neg, .slice A (len d.m) ca, I d.den] 61)).alloc (.cells #[.bool d.neg, .slice B (len d.m) cb, I d.den] 61)) (w.heap.size + 1) (.bool d.neg) (.slice B (len d.m) cb) (I d.den) ∧
      Ext w ((w.alloc (.cells #[.bool d.neg, .slice A (len d.m) ca, I d.den] 61)).alloc (.cells #[.bool d.neg, .slice B (len d.m) cb, I d.den] 61)) := two_bx (Ext.refl _)
  have HX0 := Lib.hid X0; have HX1 := Lib.hid X1; have HXE := Lib.hid XE
  clear X0 X1 XE
  have HA := Lib.hid ha; have HB := Lib.hid hb'; clear ha hb'
  generalize d.neg = neg at *
  generalize (d.den : Int) = den at *
  generalize len d.m = L at *
  go_enter Tryz.func25, Tryz.ntmps25
  go_wp2
  go_loopw [30] (fun s wr => Hid (Ext ((w.alloc (.cells #[.bool neg, .slice A L ca, I den] 61)).alloc (.cells #[.bool neg, .slice B L cb, I den] 61)) wr) ∧ ∃ k : Nat, k ≤ L ∧ s = I k) (fun s _ => L - (intOf s).toNat)
  case atStart => exact ⟨Ext.refl _, 0, Nat.zero_le _, rfl⟩
  case round =>
    obtain ⟨hX, k, hk, rfl⟩ := hrel
    obtain ⟨k0, k1, k2, k3, k4, k5⟩ := keepB HX0.out HX1.out hX.out
    by_cases hlt : k < L
    · obtain ⟨b1, o1, e1, hb1, c1⟩ := (HA.out.ext (HXE.out.trans hX.out)).at_ hlt
      obtain ⟨b2, o2, e2, hb2, c2⟩ := (HB.out.ext (HXE.out.trans hX.out)).at_ hlt
      rw [e1] at k1
      rw [e2] at k4
      have i1 : (0 : Int) ≤ (k : Int) := by omega
      have i2 : (k : Int) < (L : Int) := by omega
      clear e1 e2
      go_wp2
      go_quiet (fail)
      go_wp2
      go_roundw
      case rel => exact ⟨hX.out.trans (Ext.drewN _ _), k + 1, by omega, by go_num⟩
      case measure => simp [intOf]; omega
    · obtain rfl : k = L := by omega
      go_wp2
      go_ret
      exact ⟨rfl, HXE.out.trans hX.out⟩


set_option maxRecDepth 100000 in
set_option maxHeartbeats 1000000 in
theorem rvalue_any (n e : Int) (w : World) (h1 : -2147483648 < n) (h2 : n < 2147483648) (h3 : -62 ≤ e) (h4 : e ≤ 30) :
    Calls Tryz.prog 42 #[.agg #[I n, I e]] w (DyRes (nmS n e) w) := by
  obtain ⟨X0, X2, XE⟩ := num_boxes w (I n) (I e) (.bool false) (.slice none 0 0) (I 0) 56 61
  have HX0 := Lib.hid X0; have HX2 := Lib.hid X2; have HXE := Lib.hid XE; have XE2 := Lib.hid (XE.trans (Ext.drew _))
  clear X0 X2 XE
  obtain ⟨⟨k0, k1⟩, kf⟩ := HX0.out
  obtain ⟨d', hd'⟩ : ∃ d', nmS n e = d' := ⟨_, rfl⟩
  obtain ⟨l1, l2⟩ := nmS_len h1 h2 h4
  have wf' := nmS_ok n e
  rw [hd'] at l2 wf' ⊢
  have HL := Lib.hid l1; have HL2 := Lib.hid l2; have HW := Lib.hid (ofI_ok n 0); have HW2 := Lib.hid wf'
  have HD' := Lib.hid hd'
  clear hd' l1 l2 wf'
  have hn2 : ¬ w.heap.size + 1 = w.heap.size := by omega
  have hn3 : ¬ w.heap.size = w.heap.size + 1 := by omega
  go_enter Tryz.func42, Tryz.ntmps42
  go_upto_region 1 with fail
  go_region_held3 (fun w' => w'.cell? ⟨w.heap.size, 0, none⟩ = some (I n) ∧ w'.cell? ⟨w.heap.size, 1, none⟩ = some (I e)) (go_keep)
    (first
      | (go_at_call 51; refine (rof_any n _ (by omega) (by omega)).mono ?_; rintro e5 w5 ⟨A5, c5, rfl, hon5, hx5⟩; obtain ⟨⟨q0, q1⟩, _⟩ := HX0.out.ext (w' := w5) ((Ext.drew _).trans hx5); have HDN := Lib.hid (dy_of_on hon5 HW.out HL.out (Ext.refl _)); clear hon5)
      | (go_at_call 50; refine (rshift_any2 e HDN.out (by omega) (by omega)).mono ?_; rw [show shiftD (ofI n 0) e = d' from HD'.out]; rintro e6 w6 ⟨A6, c6, rfl, hon6, hx6⟩; obtain ⟨⟨p0, p1⟩, _⟩ := HX0.out.ext (w' := w6) (((Ext.drew _).trans hx5).trans hx6); have gz := (HX2.out.ext (w' := w6) (((Ext.drew _).trans hx5).trans hx6)).2; obtain ⟨z0, z1, z2⟩ := (HX2.out.ext (w' := w6) (((Ext.drew _).trans hx5).trans hx6)).1; have HO6 := Lib.hid hon6; clear hon6))
  all_goals
    have HXF := Lib.hid (((HXE.out.trans (Ext.drew _)).trans hx5).trans hx6)
    have hsz5 := (XE2.out.trans hx5).size
    have hlt := (HX2.out.ext (w' := w5) ((Ext.drew _).trans hx5)).lt
    go_wp2_with fail
    refine bodyPost_ret (v := dv d'.neg A6 (len d'.m) c6 d'.den) (by simp [results, Tryz.results42, go_sem, z0, z1, z2]) rfl ⟨A6, c6, rfl, ?_, ?_⟩
    · exact (HO6.out.set3 hlt _ _ _).mono hsz5
    · exact ext_set3 HXF.out (by omega) _ _ _



set_option maxRecDepth 100000 in
set_option maxHeartbeats 1000000 in
theorem rlong_any {w : World} {r : RN} {d : DV} (h : Cn w r d) : Calls Tryz.prog 41 #[r.v] w fun e w' => e = .returned (.bool (lng d)) ∧ Ext w w' := by
  obtain ⟨neg, A, n, c, den⟩ := r
  show Calls _ _ #[dv neg A n c den] _ _
  have hden : den = d.den := h.den
  obtain ⟨W1, hW1⟩ : ∃ W1, W1 = w.alloc (.cells #[.bool neg, .slice A n c, I den] 61) := ⟨_, rfl⟩
  have hE : Ext w W1 := by rw [hW1]; exact Ext.alloc _ _
  obtain ⟨y, hy⟩ : ∃ y : Int, (bitsN d.m : Int) = y := ⟨_, rfl⟩
  have hdy := h.dy
  have HBT : Hid (∀ w', Ext W1 w' → Calls Tryz.prog 87 #[dv neg A n c den] w' fun e w'' => e = .returned (I y) ∧ Ext w' w'') := fun w' e => by
    rw [← hy]; exact rbits_any (hdy.ext (hE.trans e))
  have hb0 : Bx W1 w.heap.size (.bool neg) (.slice A n c) (I den) := by
    rw [hW1]; exact Bx.new w (.bool neg) (.slice A n c) (I den) 61
  have HE := Lib.hid hE
  have hlt0 := hb0.lt
  obtain ⟨⟨k0, k1, k2⟩, _⟩ := hb0
  obtain ⟨bb, hbb⟩ : ∃ bb, lng d = bb := ⟨_, rfl⟩
  have hmx : decide (4096 < max y den) = bb := (lng_max d y den hy hden.symm).trans hbb
  rw [hbb]
  have hb : Ext W1 W1 := Ext.refl _
  clear hE hy h hdy hden hbb
  go_enter Tryz.func41, Tryz.ntmps41
  go_upto_region 1 with fail
  rw [← hW1]; clear hW1
  have hL := fun (x : Later _) => (Ext.trans hb x.ext).old.1
  refine wp_region_later (by kernel_rfl) (by kernel_rfl) ?_
  repeat (go_big_quiet_step (((go_at_call 87; exact Calls.later (HBT.out _ (Later.ext _))))))
  refine wpQuiet_nil ?_
  intro w2 hw2
  replace hb := Ext.trans hb (Later.of hw2)
  clear hw2 hL
  obtain ⟨hc, hf⟩ := hb.old
  have HBB := Lib.hid hb
  clear hb
  go_wp2_with fail
  go_ret
  exact ⟨rfl, HE.out.trans HBB.out⟩

set_option maxRecDepth 100000 in
set_option maxHeartbeats 1000000 in
theorem rport_any (q : Prt) (n : Int) (w : World) (h1 : -9223372036854775808 ≤ n) (h2 : n ≤ 9223372036854775807) (h3 : 0 ≤ q.fr) (h4 : q.fr ≤ 30) :
    Calls Tryz.prog 24 #[.agg #[I q.lo, I q.hi, I q.fr], I n] w (DyRes (prtV q n) w) := by
  obtain ⟨lo, hi, fr⟩ := q
  simp only at h3 h4
  show Calls _ _ #[.agg #[I lo, I hi, I fr], I n] _ (DyRes (nmS n (-fr)) w)
  obtain ⟨e, he⟩ : ∃ e, -fr = e := ⟨_, rfl⟩
  have hng : IntKind.i64.wrap (-fr) = e := by rw [← he]; exact IntWalk.i64_in _ (by omega)
  have h5 : -30 ≤ e ∧ e ≤ 0 := by omega
  rw [he]
  clear he
  obtain ⟨W1, hW1⟩ : ∃ W1, W1 = (w.alloc (.cells #[I lo, I hi, I fr] 64)).alloc (.cells #[.bool false, .slice none 0 0, I 0] 61) := ⟨_, rfl⟩
  have hE : Ext w W1 := by rw [hW1]; exact (Ext.alloc _ _).trans (Ext.alloc _ _)
  have hb1 : Bx W1 (w.heap.size + 1) (.bool false) (.slice none 0 0) (I 0) := by
    rw [hW1]; have := Bx.new (w.alloc (.cells #[I lo, I hi, I fr] 64)) (.bool false) (.slice none 0 0) (I 0) 61
    rwa [show (w.alloc (.cells #[I lo, I hi, I fr] 64)).heap.size = w.heap.size + 1 by simp] at this
  have hb0 : Bx W1 w.heap.size (I lo) (I hi) (I fr) := by
    rw [hW1]; exact (Bx.new w (I lo) (I hi) (I fr) 64).ext (Ext.alloc _ _)
  have HB1 := Lib.hid hb1; have HE := Lib.hid hE
  have hz1 : W1.heap.size = w.heap.size + 1 + 1 := by rw [hW1]; simp
  have HS : Hid (∀ w', Ext W1 w' → w'.cell? ⟨w.heap.size, 2, none⟩ = some (I fr)) := fun w' x => (hb0.ext x).1.2.2
  have k2 := HS.out _ (Ext.refl _)
  obtain ⟨d', hd'⟩ : ∃ d', nmS n e = d' := ⟨_, rfl⟩
  have HD' : Hid (shiftD (ofI n 0) e = d') := hd'
  have HOF : Hid (∀ w', Calls Tryz.prog 51 #[I n] w' (DyRes (ofI n 0) w')) := fun w' => rof_any n w' h1 h2
  have HB : Hid ((ofI n 0).ok ∧ len (ofI n 0).m ≤ 16777216) := ⟨ofI_ok _ _, Nat.le_trans (len_mk _ _ _) (Nat.le_trans (len_abs h1 h2) (by omega))⟩
  rw [hd']
  have n5 : ¬ w.heap.size = w.heap.size + 1 := by omega
  have n6 : ¬ w.heap.size + 1 = w.heap.size := by omega
  clear hb1 hb0 hE hd'
  go_enter Tryz.func24, Tryz.ntmps24
  go_upto_region 1 with fail
  rw [← hW1]; clear hW1
  go_region_held3 (fun w' => w'.cell? ⟨w.heap.size, 2, none⟩ = some (I fr)) (first | exact HS.out _ (by (with_reducible (repeat (first | exact Ext.refl _ | assumption | (refine Ext.toSet ?_ (by omega)) | refine Ext.toAlloc ?_ | refine Ext.toDrew ?_ | refine Ext.toDrewN ?_ | refine Ext.trans ?_ (by assumption)))); (first | done | fail "no")) | (rw [cell_far3 (by omega)]; assumption))
    (first
      | (go_at_call 51; (with_reducible refine (HOF.out _).mono ?_); rintro e5 w5 hr; obtain ⟨A5, c5, rfl, cn5, _, hx5⟩ := hr.cn HB.out.1 HB.out.2; have CN5 := Lib.hid cn5; have HX5 := Lib.hid (show Ext W1 w5 from (by (with_reducible (repeat (first | exact Ext.refl _ | assumption | (refine Ext.toSet ?_ (by omega)) | refine Ext.toAlloc ?_ | refine Ext.toDrew ?_ | refine Ext.toDrewN ?_ | refine Ext.trans ?_ (by assumption)))); (first | done | fail "no"))); clear hr cn5)
      | (go_at_call 50; refine (rshift_any2 e CN5.out.dy (by omega) (by omega)).mono ?_; rw [HD'.out]; rintro e6 w6 ⟨A2, c2, rfl, hon, hx2⟩; have HO := Lib.hid hon; have HX6 := Lib.hid (HX5.out.trans hx2); have p0 := HS.out _ HX6.out; obtain ⟨⟨r0, r1, r2⟩, rf⟩ := HB1.out.ext HX6.out; have f0 := rf 0; have f1 := rf 1; have f2 := rf 2; have hsz := HX5.out.size; clear rf hon))
  all_goals
    go_wp2_with fail
    exact bodyPost_ret (v := dv d'.neg A2 (len d'.m) c2 d'.den) (by simp [results, Tryz.results24, go_sem, r0, r1, r2]) rfl (DyRes.end3 rfl HO.out (HE.out.trans HX6.out) (by omega) (by omega) (by omega))
/-! ### Lists of equal numbers -/
set_option maxRecDepth 100000 in
set_option maxHeartbeats 1000000 in
theorem rsameL_any {w : World} {A B : Option Addr} {n ca cb : Nat} {R R' : Nat → RN} {V : Nat → DV} (a : Ln w A n R V) (b : Ln w B n R' V) (hn : n ≤ 100000) :
    Calls Tryz.prog 16 #[.slice A n ca, .slice B n cb] w fun e w' => e = .returned (.bool true) ∧ Ext w w' := by
  have HA := Lib.hid a; have HB := Lib.hid b; clear a b
  have g0 : ((n : Int) != (n : Int)) = false := by simp
  go_enter Tryz.func16, Tryz.ntmps16
  go_wp2_with fail
  go_loopw [13] (fun s wr => ∃ j : Nat, j ≤ n ∧ s = I j ∧ Ext w wr) (fun s _ => n - (intOf s).toNat)
  case atStart => exact ⟨0, Nat.zero_le _, rfl, Ext.refl _⟩
  case round =>
    obtain ⟨j, hj, rfl, hb⟩ := hrel
    by_cases hlt : j < n
    · obtain ⟨b1, o1, h1, hb1, hc1⟩ := HA.out.rn.ext hb (by omega)
      obtain ⟨b2, o2, h2, hb2, hc2⟩ := HB.out.rn.ext hb (by omega)
      obtain ⟨x0, x1, x2⟩ := hc1 j hlt
      obtain ⟨y0, y1, y2⟩ := hc2 j hlt
      have cn1 := (HA.out.el j hlt).ext hb
      have cn2 := (HB.out.el j hlt).ext hb
      have HSM : Hid (∀ w', Ext wr w' → Calls Tryz.prog 25 #[(R j).v, (R' j).v] w' (fun e w'' => e = .returned (.bool true) ∧ Ext w' w'')) := fun w' x => by
        have := dsame_true (cn1.ext x).rd (cn2.ext x).rd (ca := (R j).c) (cb := (R' j).c) (by have := cn1.lim; omega)
        show Calls _ _ #[dv (R j).neg (R j).A (R j).n (R j).c (R j).den, dv (R' j).neg (R' j).A (R' j).n (R' j).c (R' j).den] _ _
        rw [cn1.neg, cn1.n, cn1.den, cn2.neg, cn2.n, cn2.den]
        exact this
      have HBB := Lib.hid hb
      have hlt' : (j : Int) < (n : Int) := by omega
      have hb : Ext wr wr := Ext.refl _
      clear hc1 hc2 cn1 cn2
      generalize R j = r1 at *
      generalize R' j = r2 at *
      go_upto_region 6 with fail
      have hL := fun (x : Later _) => (Ext.trans hb x.ext).old.1
      refine wp_region_later (by kernel_rfl) (by kernel_rfl) ?_
      repeat (go_big_quiet_step (((go_at_call 25; exact Calls.later (HSM.out _ (Later.ext _))))))
      refine wpQuiet_nil ?_
      intro w2 hw2
      replace hb := Ext.trans hb (Later.of hw2)
      clear hw2 hL
      obtain ⟨hc, hf⟩ := hb.old
      have HB2 := Lib.hid (HBB.out.trans hb)
      clear hb
      go_wp2_with fail
      (try rw [← h1])
      (try rw [← h2])
      go_roundw
      case rel => exact ⟨j + 1, by omega, by go_num, HB2.out⟩
      case measure => simp [intOf]; omega
    · obtain rfl : j = n := by omega
      go_wp2_with fail
      go_ret
      exact ⟨rfl, hb⟩
end Go.Proofs.YtgnaljnmjphleaaGreatDoor
