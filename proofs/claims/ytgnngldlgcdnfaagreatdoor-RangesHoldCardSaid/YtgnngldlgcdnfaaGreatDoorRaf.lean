import Derived.Test.YtgnngldlgcdnfaaGreatDoorRae
namespace Go.Proofs.YtgnngldlgcdnfaaGreatDoor
section
open Go Go.RowKit
attribute [local go_sem ↓] Go.wp_at_zero Go.wp_at_succ
def smI (x y : IV) : Bool := decide (cmpD x.lo y.lo = 0) && decide (cmpD x.hi y.hi = 0)
set_option maxRecDepth 100000 in
set_option maxHeartbeats 1000000 in
theorem isSame_any {w : World} {r s : RI} {x y : IV} (h : CnI w r x) (k : CnI w s y) : Calls Tryz.prog 74 #[r.v, s.v] w fun e w' => e = .returned (.bool (smI x y)) ∧ Ext w w' := by
 obtain ⟨v, hv⟩ : ∃ v, cmpD x.lo y.lo = v := ⟨_, rfl⟩
 obtain ⟨z, hz⟩ : ∃ z, cmpD x.hi y.hi = z := ⟨_, rfl⟩
 have HL : Hid (∀ w', Ext w w' → Calls Tryz.prog 88 #[r.lo.v, s.lo.v] w' fun e w'' => e = .returned (I v) ∧ Ext w' w'') := fun w' e => by rw [← hv]; exact cmp_any (h.lo.dy.ext e) (k.lo.dy.ext e)
 have HR : Hid (∀ w', Ext w w' → Calls Tryz.prog 88 #[r.hi.v, s.hi.v] w' fun e w'' => e = .returned (I z) ∧ Ext w' w'') := fun w' e => by rw [← hz]; exact cmp_any (h.hi.dy.ext e) (k.hi.dy.ext e)
 have hb : smI x y = (decide (v = 0) && decide (z = 0)) := by unfold smI; rw [hv, hz]
 clear h k hv hz
 obtain ⟨⟨n1, A1, k1, c1, d1⟩, ⟨n2, A2, k2, c2, d2⟩⟩ := r
 obtain ⟨⟨n3, A3, k3, c3, d3⟩, ⟨n4, A4, k4, c4, d4⟩⟩ := s
 rw [hb]
 show Calls _ _ #[iv n1 A1 k1 c1 d1 n2 A2 k2 c2 d2, iv n3 A3 k3 c3 d3 n4 A4 k4 c4 d4] _ _
 have X1 := Lib.hid ((B6.new w (.bool n1) (.slice A1 k1 c1) (I d1) (.bool n2) (.slice A2 k2 c2) (I d2) 58).ext (Ext.alloc _ (.cells #[.bool n3, .slice A3 k3 c3, I d3, .bool n4, .slice A4 k4 c4, I d4] 58)))
 have X2 : Hid (B6 ((w.alloc (.cells #[.bool n1, .slice A1 k1 c1, I d1, .bool n2, .slice A2 k2 c2, I d2] 58)).alloc (.cells #[.bool n3, .slice A3 k3 c3, I d3, .bool n4, .slice A4 k4 c4, I d4] 58)) (w.heap.size + 1) (.bool n3) (.slice A3 k3 c3) (I d3) (.bool n4) (.slice A4 k4 c4) (I d4)) := by
  have q := B6.new (w.alloc (.cells #[.bool n1, .slice A1 k1 c1, I d1, .bool n2, .slice A2 k2 c2, I d2] 58)) (.bool n3) (.slice A3 k3 c3) (I d3) (.bool n4) (.slice A4 k4 c4) (I d4) 58
  rw [show (w.alloc (.cells #[.bool n1, .slice A1 k1 c1, I d1, .bool n2, .slice A2 k2 c2, I d2] 58)).heap.size = w.heap.size + 1 by simp] at q
  exact q
 have X0 := Lib.hid ((Ext.alloc w (.cells #[.bool n1, .slice A1 k1 c1, I d1, .bool n2, .slice A2 k2 c2, I d2] 58)).trans (Ext.alloc _ (.cells #[.bool n3, .slice A3 k3 c3, I d3, .bool n4, .slice A4 k4 c4, I d4] 58)))
 obtain ⟨⟨a0, a1, a2, a3, a4, a5⟩, _⟩ := X1.out
 obtain ⟨⟨b0, b1, b2, b3, b4, b5⟩, _⟩ := X2.out
 generalize hW : (w.alloc (.cells #[.bool n1, .slice A1 k1 c1, I d1, .bool n2, .slice A2 k2 c2, I d2] 58)).alloc (.cells #[.bool n3, .slice A3 k3 c3, I d3, .bool n4, .slice A4 k4 c4, I d4] 58) = W0 at *
 by_cases h0 : v = 0
 ·subst h0
  go_enter Tryz.func74, Tryz.ntmps74
  go_upto_region 1 with fail
  (try rw [hW])
  clear hW hb
  go_wp2_with (first
   | (have hg := Y1; clear hg; go_at_call 88; (with_reducible refine (HR.out _ (X0.out.trans Y1.out)).mono ?_); rintro e w2 ⟨rfl, hx⟩; have Y2 := Lib.hid (Y1.out.trans hx); clear hx)
   | (go_at_call 88; (with_reducible refine (HL.out _ X0.out).mono ?_); rintro e w1 ⟨rfl, hx⟩; have Y1 := Lib.hid hx; clear hx a0 a1 a2 a3 a4 a5 b0 b1 b2 b3 b4 b5; obtain ⟨⟨a0, a1, a2, a3, a4, a5⟩, _⟩ := X1.out.ext Y1.out; obtain ⟨⟨b0, b1, b2, b3, b4, b5⟩, _⟩ := X2.out.ext Y1.out))
  go_ret
  exact ⟨by by_cases q : z = 0 <;> simp [q], X0.out.trans Y2.out⟩
 ·have h1 : decide (v = 0) = false := decide_eq_false h0
  go_enter Tryz.func74, Tryz.ntmps74
  go_upto_region 1 with fail
  (try rw [hW])
  clear hW hb
  go_wp2_with (go_at_call 88; (with_reducible refine (HL.out _ X0.out).mono ?_); rintro e w1 ⟨rfl, hx⟩; have Y1 := Lib.hid hx; clear hx a0 a1 a2 a3 a4 a5 b0 b1 b2 b3 b4 b5; obtain ⟨⟨a0, a1, a2, a3, a4, a5⟩, _⟩ := X1.out.ext Y1.out; obtain ⟨⟨b0, b1, b2, b3, b4, b5⟩, _⟩ := X2.out.ext Y1.out)
  go_ret
  exact ⟨by simp [h0], X0.out.trans Y1.out⟩
theorem pwD_len (e : Int) : (pwD e).ok ∧ len (pwD e).m ≤ 2052 := by
 refine ⟨nmS_ok 1 e, ?_⟩
 have a : (ofI 1 0).m ≤ 1 := by
  rw [ofI_form]; split
  ·exact Nat.zero_le _
  ·exact Nat.le_refl _
 have b := len_le (n := 1) (show (ofI 1 0).m < pB 1 by unfold pB; omega)
 have := lim_shift (ofI 1 0) e
 unfold pwD
 omega
def ubI (x : IV) : Bool := decide (0 < cmpD (maxD (absD x.lo) (absD x.hi)) (pwD 40))
set_option maxRecDepth 100000 in
set_option maxHeartbeats 1000000 in
theorem isUnbounded_any {w : World} {r : RI} {x : IV} (h : CnI w r x) (hT : Tabs w) : Calls Tryz.prog 71 #[r.v] w fun e w' => e = .returned (.bool (ubI x)) ∧ Ext w w' := by
 obtain ⟨m, hm⟩ : ∃ m, maxD (absD x.lo) (absD x.hi) = m := ⟨_, rfl⟩
 obtain ⟨v, hv⟩ : ∃ v, cmpD m (pwD 40) = v := ⟨_, rfl⟩
 obtain ⟨p, hp⟩ : ∃ p, pwD 40 = p := ⟨_, rfl⟩
 have hb : ubI x = decide (0 < v) := by unfold ubI; rw [hm, hv]
 have HV := Lib.hid (hp ▸ hv : cmpD m p = v)
 have em : End m := by rw [← hm]; exact sz_max (P := End) (end_abs ⟨h.lo.ok, h.el⟩) (end_abs ⟨h.hi.ok, h.eh⟩)
 have ep : Cn w RN.z p ∨ True := Or.inr trivial
 have HM : Hid (∀ w', Ext w w' → Calls Tryz.prog 137 #[r.v] w' (DyRes m w')) := fun w' e => by rw [← hm]; exact imag_any (h.iw.ext e) (hT.ext e)
 have HP : Hid (∀ w', Ext w w' → Calls Tryz.prog 138 #[I 40] w' (DyRes p w')) := fun w' e => by rw [← hp]; exact rpower_any 40 w' (hT.ext e) (by decide) (by decide)
 have kp : p.ok ∧ len p.m ≤ 1048576 := by rw [← hp]; exact ⟨(pwD_len 40).1, Nat.le_trans (pwD_len 40).2 (by decide)⟩
 have EM := Lib.hid em; have KP := Lib.hid kp
 clear em kp ep hm hp hv h hT
 rw [hb]; clear hb
 obtain ⟨⟨n1, A1, k1, c1, d1⟩, ⟨n2, A2, k2, c2, d2⟩⟩ := r
 show Calls _ _ #[iv n1 A1 k1 c1 d1 n2 A2 k2 c2 d2] _ _
 go_enter Tryz.func71, Tryz.ntmps71
 go_wp2_with (first
  | (go_at_call 88; (with_reducible refine (cmp_any (F1.out.dy.ext Z2.out) F2.out.dy).mono ?_); rw [HV.out]; rintro e w3 ⟨rfl, hx⟩; have X3 := Lib.hid (X2.out.trans hx); clear hx)
  | (go_at_call 138; (with_reducible refine (HP.out _ X1.out).mono ?_); rintro e w2 hr; obtain ⟨B2, q2, rfl, cn2, _, hx⟩ := hr.cn KP.out.1 (Nat.le_trans KP.out.2 (by decide)); have X2 := Lib.hid (X1.out.trans hx); have Z2 := Lib.hid hx; have F2 := Lib.hid cn2; clear hx cn2 hr)
  | (go_at_call 137; (with_reducible refine (HM.out _ (Ext.alloc _ _)).mono ?_); rintro e w1 hr; obtain ⟨B1, q1, rfl, cn1, _, hx⟩ := hr.cn EM.out.1 (Nat.le_trans EM.out.2 (by decide)); have X1 := Lib.hid ((Ext.alloc _ _).trans hx); have F1 := Lib.hid cn1; clear hx cn1 hr))
 go_ret
 exact ⟨by simp, X3.out⟩
end
section
open Go Go.RowKit
attribute [local go_sem ↓] Go.wp_at_zero Go.wp_at_succ
def ptI (x : DV) : IV := ⟨x, x⟩
set_option maxRecDepth 100000 in
set_option maxHeartbeats 4000000 in
theorem points_any {w : World} {A : Option Addr} {n c : Nat} {R : Nat → RN} {V : Nat → DV} (h : Ln w A n R V) (he : ∀ i, i < n → End (V i)) (hT : Tabs w) (hn : n ≤ 10000) :
  Calls Tryz.prog 69 #[.slice A n c] w (LvR6 n (fun i => ptI (V i)) w) := by
 have hmk := fun w => run_makeI w n (by omega)
 have HR := Lib.hid h.rn; have HL := Lib.hid h; have HE := Lib.hid he; have HT := Lib.hid hT
 obtain ⟨g, hg⟩ : ∃ g, w.heap.size = g := ⟨_, rfl⟩
 have HM0 : Hid (BuI w (w.alloc (.cells (madeCells #[.bool false, .slice none 0 0, I 0, .bool false, .slice none 0 0, I 0] (n * 6)) 58)) g n (fun _ => RI.z) (uptoI (fun i => ptI (V i)) 0)) :=
  (BuI.new _ (Ext.refl _) hg.symm).congr fun i _ => by unfold uptoI; rw [if_neg (by omega)]
 have HGW : Hid (w.heap.size ≤ g) := by show _ ≤ _; omega
 clear h he hT
 go_enter Tryz.func69, Tryz.ntmps69
 go_upto_region 2 with fail
 obtain ⟨wz, hwz⟩ : ∃ wz, wz = w.alloc (.cells (madeCells #[.bool false, .slice none 0 0, I 0, .bool false, .slice none 0 0, I 0] (n * 6)) 58) := ⟨_, rfl⟩
 rw [← hwz] at HM0
 (try rw [hg])
 rw [← hwz]
 clear hwz hmk hg
 go_wp2_with fail
 go_loopw [11] (fun s wr => ∃ (j : Nat) (R' : Nat → RI), j ≤ n ∧ s = I j ∧ Hid (BuI w wr g n R' (uptoI (fun i => ptI (V i)) j))) (fun s _ => n - (intOf s).toNat)
 case atStart => exact ⟨0, _, Nat.zero_le _, rfl, HM0.out⟩
 case round =>
  clear HM0
  obtain ⟨j, R', hj, rfl, H⟩ := hrel
  by_cases hlt : j < n
  ·obtain ⟨bs, os, rfl, hbs, hcs⟩ := (HR.out.ext H.out.ext) (by omega)
   obtain ⟨x0, x1, x2⟩ := hcs j hlt
   have hlt' : (j : Int) < (n : Int) := by omega
   have cn := (HL.out.el j hlt).ext H.out.ext
   have HEJ := Lib.hid (HE.out j hlt)
   have HUP : Hid (∀ i, i < n → putI (uptoI (fun i => ptI (V i)) j) j (ptI (V j)) i = uptoI (fun i => ptI (V i)) (j + 1) i) := fun i _ => uptoI_put (fun i => ptI (V i)) j i
   have HPT : Hid (∀ w', Ext wr w' → Calls Tryz.prog 135 #[(R j).v] w' (IvRes (V j) (V j) w')) := fun w' e => ipoint_any (cn.dy.ext e) (HT.out.ext (H.out.ext.trans e))
   clear hcs cn
   generalize R j = rj at *
   generalize V j = vj at *
   go_wp2_with (go_at_call 135; (with_reducible refine (HPT.out _ (Ext.alloc _ _)).mono ?_); rintro e1 w2 hr; obtain ⟨A1, y1, B1, z1, rfl, cn1, hA1, hx1⟩ := hr.cn HEJ.out HEJ.out (Rat.le_refl); have hx2 := (Ext.alloc wr (.cells #[.bool rj.neg, .slice rj.A rj.n rj.c, I rj.den] 56)).trans hx1; have fz := (H.out.to hx2).lv.frozen; have f0 := fz (j * 6); have f1 := fz (j * 6 + 1); have f2 := fz (j * 6 + 2); have f3 := fz (j * 6 + 3); have f4 := fz (j * 6 + 4); have f5 := fz (j * 6 + 5); obtain ⟨d0, d1, d2, d3, d4, d5⟩ := (H.out.to hx2).lv.cells hlt; have HP := Lib.hid (H.out.put hx2 j _ _ cn1 (hA1.mono (by simp))); clear hr fz cn1 hA1 hx1 hx2)
   (try rw [← hbs])
   go_roundw
   case rel => exact ⟨j + 1, _, by omega, by go_num, HP.out.congr HUP.out⟩
   case measure => simp [intOf]; omega
  ·obtain rfl : j = n := by omega
   go_wp2_with fail
   go_ret
   exact ⟨g, R', rfl, H.out.congr fun i hi => uptoI_end hi⟩
end
section
open Go Go.RowKit
attribute [local go_sem ↓] Go.wp_at_zero Go.wp_at_succ
def xpD (y : DV) : Int := (bitsN y.m : Int) - 1 - y.den
def paD (x : DV) : DV := if signD (ceilD x 30) = 0 then ceilD x 30 else if signD (ceilD x 30) < 0 then negD (pwD (xpD (ceilD x 30))) else if cmpD (pwD (xpD (ceilD x 30))) (ceilD x 30) < 0 then pwD (xpD (ceilD x 30) + 1) else ceilD x 30
theorem bitsN_len (m : Nat) : bitsN m ≤ 32 * len m := bitsN_le (by rw [← pB_two]; exact lt_pB_len m)
theorem ceil_end {x : DV} (hs : len x.m ≤ 1048575) : End (ceilD x 30) := ⟨negD_ok _, by have := lim_ceil x 30; omega⟩
def PaS (w : World) (b : Nat) (y : DV) (wx : World) : Prop := ∃ A c, Ext w wx ∧ Bx wx w.heap.size (.bool y.neg) (.slice A (len y.m) c) (I y.den) ∧ Bx wx (w.heap.size + 1) (.bool false) (.slice none 0 0) (I 0) ∧ On wx b A (len y.m) c (dg y.m)
set_option maxRecDepth 100000 in
set_option maxHeartbeats 4000000 in
theorem powerAbove_any {w : World} {neg : Bool} {A A' : Option Addr} {n c c' : Nat} {den : Int} {x : DV} (h : Dy w neg A n c den x A' c') (hT : Tabs w) (hs : len x.m ≤ 1048575) : Calls Tryz.prog 143 #[dv neg A n c den] w (DyRes (paD x) w) := by
 obtain ⟨y, hy⟩ : ∃ y, ceilD x 30 = y := ⟨_, rfl⟩
 have ey : End y := by rw [← hy]; exact ceil_end hs
 have hp : paD x = if signD y = 0 then y else if signD y < 0 then negD (pwD (xpD y)) else if cmpD (pwD (xpD y)) y < 0 then pwD (xpD y + 1) else y := by unfold paD; rw [hy]
 have HP := Lib.hid hp; have EY := Lib.hid ey; have HT := Lib.hid hT; have H := Lib.hid h
 have HC : Hid (∀ w', Ext w w' → Calls Tryz.prog 186 #[dv neg A n c den, I 30] w' (DyOk y w')) := fun w' e => by rw [← hy]; exact ceil_any 30 (h.ext e) (hT.ext e) (by decide) (by omega)
 obtain ⟨X0, X1, XE⟩ : Bx ((w.alloc (.cells #[.bool neg, .slice A n c, I den] 56)).alloc (.cells #[.bool false, .slice none 0 0, I 0] 56)) w.heap.size (.bool neg) (.slice A n c) (I den) ∧
   Bx ((w.alloc (.cells #[.bool neg, .slice A n c, I den] 56)).alloc (.cells #[.bool false, .slice none 0 0, I 0] 56)) (w.heap.size + 1) (.bool false) (.slice none 0 0) (I 0) ∧
   Ext w ((w.alloc (.cells #[.bool neg, .slice A n c, I den] 56)).alloc (.cells #[.bool false, .slice none 0 0, I 0] 56)) := two_bx (Ext.refl _)
 have HX0 := Lib.hid X0; have HX1 := Lib.hid X1; have HXE := Lib.hid XE
 clear X0 X1 XE hy ey h hT hs hp
 generalize paD x = r at *
 go_enter Tryz.func143, Tryz.ntmps143
 go_upto_region 1 with fail
 obtain ⟨W1, hW1⟩ : ∃ W1, W1 = (w.alloc (.cells #[.bool neg, .slice A n c, I den] 56)).alloc (.cells #[.bool false, .slice none 0 0, I 0] 56) := ⟨_, rfl⟩
 have hz : W1.heap.size = w.heap.size + 2 := by rw [hW1]; simp
 rw [← hW1] at HX0 HX1 HXE
 (try rw [← hW1])
 clear hW1
 go_cut [] (fun wx => PaS w W1.heap.size y wx)
 case first =>
  obtain ⟨⟨k0, k1, k2⟩, kz⟩ := HX0.out
  have f0 := kz 0; have f1 := kz 1; have f2 := kz 2
  go_wp2_with (go_at_call 186; (with_reducible refine (HC.out _ HXE.out).mono ?_); rintro e1 w1 ⟨A1, c1, rfl, hon, hx⟩; have HX := Lib.hid hx; have HO := Lib.hid hon; clear k0 k1 k2 kz f0 f1 f2 hx hon; obtain ⟨⟨k0, k1, k2⟩, kz⟩ := HX0.out.ext HX.out; have f0 := kz 0; have f1 := kz 1; have f2 := kz 2)
  go_meet
  exact ⟨A1, c1, ext_set3 (HXE.out.trans HX.out) (Nat.le_refl _) _ _ _, (HX0.out.ext HX.out).set3 _ _ _, (HX1.out.ext HX.out).far3 (by omega) _ _ _, (HO.out.mono (Nat.le_refl _)).set3 (by omega) _ _ _⟩
 case rest =>
  clear HX0 HX1 HXE HC
  obtain ⟨A1, c1, hE, hX0, hX1, hO⟩ := hcut
  have HE := Lib.hid hE; have HX0 := Lib.hid hX0; have HX1 := Lib.hid hX1; have HO := Lib.hid hO
  have HD : Hid (∀ w', Ext wc w' → Dy w' y.neg A1 (len y.m) c1 y.den y A1 c1) := fun w' e => dy_of_on hO EY.out.1 (Nat.le_trans EY.out.2 (by decide)) e
  have HS : Hid (∀ w', Ext wc w' → Calls Tryz.prog 152 #[dv y.neg A1 (len y.m) c1 y.den] w' fun e w'' => e = .returned (I (signD y)) ∧ Ext w' w'') := fun w' e => sign_any (HD.out w' e)
  have hdn := EY.out.1.2.1
  have hln := bitsN_len y.m
  have hlm := EY.out.2
  obtain ⟨bb, hbb⟩ : ∃ bb : Int, (bitsN y.m : Int) = bb := ⟨_, rfl⟩
  obtain ⟨b1, hb1⟩ : ∃ b1 : Int, bb - 1 = b1 := ⟨_, rfl⟩
  obtain ⟨ee, hee⟩ : ∃ ee : Int, xpD y = ee := ⟨_, rfl⟩
  have he2 : b1 - (y.den : Int) = ee := by rw [← hee, ← hb1, ← hbb]; rfl
  have hw1 : IntKind.i64.wrap (bb - 1) = b1 := by rw [IntWalk.i64_in _ (by omega)]; exact hb1
  have hw2 : IntKind.i64.wrap (b1 - (y.den : Int)) = ee := by rw [IntWalk.i64_in _ (by omega)]; exact he2
  have hw3 : IntKind.i64.wrap (ee + 1) = ee + 1 := IntWalk.i64_in _ (by omega)
  have eb1 : -9223372036854775808 ≤ ee ∧ ee + 1 ≤ 9223372036854775807 := by omega
  have HW1 := Lib.hid hw1; have HW2 := Lib.hid hw2; have HW3 := Lib.hid hw3
  have HBt : Hid (∀ w', Ext wc w' → Calls Tryz.prog 165 #[dv y.neg A1 (len y.m) c1 y.den] w' fun e w'' => e = .returned (I bb) ∧ Ext w' w'') := fun w' e => by rw [← hbb]; exact bits_any (HD.out w' e)
  have HPw : Hid (∀ w', Ext wc w' → Calls Tryz.prog 138 #[I ee] w' (DyRes (pwD ee) w')) := fun w' e => rpower_any ee w' (HT.out.ext (HE.out.trans e)) (by omega) (by omega)
  have HPv : Hid (∀ w', Ext wc w' → Calls Tryz.prog 138 #[I (ee + 1)] w' (DyRes (pwD (ee + 1)) w')) := fun w' e => rpower_any (ee + 1) w' (HT.out.ext (HE.out.trans e)) (by omega) (by omega)
  rw [hee] at HP
  have LP := Lib.hid (pwD_len ee)
  clear hE hX0 hX1 hO hdn hln hlm hbb hb1 he2 hee eb1 hw1 hw2 hw3
  obtain ⟨⟨k0, k1, k2⟩, kz⟩ := HX0.out
  obtain ⟨⟨l0, l1, l2⟩, lz⟩ := HX1.out
  by_cases s0 : signD y = 0
  ·rw [s0] at HS
   obtain rfl : y = r := by rw [HP.out, if_pos s0]
   clear s0 HP
   go_wp2_with (go_at_call 152; (with_reducible refine (HS.out _ (Ext.refl _)).mono ?_); rintro e w1 ⟨rfl, hx⟩; have Y1 := Lib.hid hx; clear hx k0 k1 k2 kz l0 l1 l2 lz; obtain ⟨⟨k0, k1, k2⟩, kz⟩ := HX0.out.ext Y1.out; obtain ⟨⟨l0, l1, l2⟩, lz⟩ := HX1.out.ext Y1.out; have f0 := lz 0; have f1 := lz 1; have f2 := lz 2)
   exact bodyPost_ret (v := dv y.neg A1 (len y.m) c1 y.den) (by simp [results, Tryz.results143, go_sem, l0, l1, l2]) rfl (DyRes.end3 rfl (HO.out.ext Y1.out) (HE.out.trans Y1.out) (by omega) (by omega) (by omega))
  ·have s0' : ((signD y == 0) = false) := by simp [s0]
   have s0'' : decide (signD y = 0) = false := decide_eq_false s0
   have HP2 := HP.out
   rw [if_neg s0] at HP2
   obtain ⟨sg, hsg⟩ : ∃ sg, signD y = sg := ⟨_, rfl⟩
   rw [hsg] at HS s0 s0' s0'' HP2
   clear hsg HP
   by_cases s1 : sg < 0
   ·obtain rfl : r = negD (pwD ee) := by rw [HP2, if_pos s1]
    have s1' : decide (sg < 0) = true := decide_eq_true s1
    clear HP2
    go_upto_region 4 with (go_at_call 152; (with_reducible refine (HS.out _ (Ext.refl _)).mono ?_); rintro e w1 ⟨rfl, hx⟩; have Y1 := Lib.hid hx; clear hx k0 k1 k2 kz l0 l1 l2 lz; obtain ⟨⟨k0, k1, k2⟩, kz⟩ := HX0.out.ext Y1.out)
    have hb : Ext w1 w1 := Ext.refl _
    have HB1 : Hid (∀ w', Ext w1 w' → Calls Tryz.prog 165 #[dv y.neg A1 (len y.m) c1 y.den] w' fun e w'' => e = .returned (I bb) ∧ Ext w' w'') := fun w' e => HBt.out w' (Y1.out.trans e)
    have hw1 := HW1.out; have hw2 := HW2.out
    have hlt0 := (HX0.out.ext Y1.out).lt
    have hL := fun (x : Later _) => (Ext.trans hb x.ext).old.1
    refine wp_region_later (by kernel_rfl) (by kernel_rfl) ?_
    repeat (go_big_quiet_step ((go_at_call 165; with_reducible exact Calls.later (HB1.out _ (Later.ext _)))))
    refine wpQuiet_nil ?_
    intro w2 hw2
    replace hb := Ext.trans hb (Later.of hw2)
    clear hw2 hL
    obtain ⟨hc, hf⟩ := hb.old
    have Y2 := Lib.hid (Y1.out.trans hb)
    clear k0 k1 k2 kz hc hf hw1 hw2 hlt0 hb HB1
    obtain ⟨⟨k0, k1, k2⟩, kz⟩ := HX0.out.ext Y2.out
    have hlt1 := HX1.out.lt
    generalize pwD ee = p at *
    go_wp2_with (first
     | (go_at_call 142; (with_reducible refine (neg_any F4.out (HT.out.ext (HE.out.trans Y4.out))).mono ?_); rintro e w5 ⟨A5, c5, rfl, hon, hx⟩; have HO5 := Lib.hid hon; have Y5 := Lib.hid (Y4.out.trans hx); have hs4 := Y4.out.size; clear hon hx; obtain ⟨⟨l0, l1, l2⟩, lz⟩ := HX1.out.ext Y5.out; have f0 := lz 0; have f1 := lz 1; have f2 := lz 2)
     | (go_at_call 138; (with_reducible refine (HPw.out _ Y3.out).mono ?_); rintro e w4 ⟨A4, c4, rfl, hon, hx⟩; have F4 := Lib.hid (dy_of_on hon LP.out.1 (Nat.le_trans LP.out.2 (by decide)) (Ext.refl _)); have Y4 := Lib.hid (Y3.out.trans hx); clear hon hx)
     | (go_at_call 152; (with_reducible refine (HS.out _ Y2.out).mono ?_); rintro e w3 ⟨rfl, hx⟩; have Y3 := Lib.hid (Y2.out.trans hx); clear hx k0 k1 k2 kz))
    exact bodyPost_ret (v := dv (negD p).neg A5 (len (negD p).m) c5 (negD p).den) (by simp [results, Tryz.results143, go_sem, l0, l1, l2]) rfl (DyRes.end3 rfl HO5.out (HE.out.trans Y5.out) (by omega) (by omega) (by omega))
   ·have s1' : decide (sg < 0) = false := decide_eq_false s1
    rw [if_neg s1] at HP2
    obtain ⟨cm, hcm⟩ : ∃ cm, cmpD (pwD ee) y = cm := ⟨_, rfl⟩
    rw [hcm] at HP2
    have HCM := Lib.hid hcm
    clear hcm
    by_cases s2 : cm < 0
    ·obtain rfl : r = pwD (ee + 1) := by rw [HP2, if_pos s2]
     have s2' : decide (cm < 0) = true := decide_eq_true s2
     clear HP2
     go_upto_region 4 with (go_at_call 152; (with_reducible refine (HS.out _ (Ext.refl _)).mono ?_); rintro e w1 ⟨rfl, hx⟩; have Y1 := Lib.hid hx; clear hx k0 k1 k2 kz l0 l1 l2 lz; obtain ⟨⟨k0, k1, k2⟩, kz⟩ := HX0.out.ext Y1.out)
     have hb : Ext w1 w1 := Ext.refl _
     have HB1 : Hid (∀ w', Ext w1 w' → Calls Tryz.prog 165 #[dv y.neg A1 (len y.m) c1 y.den] w' fun e w'' => e = .returned (I bb) ∧ Ext w' w'') := fun w' e => HBt.out w' (Y1.out.trans e)
     have hw1 := HW1.out; have hw2 := HW2.out
     have hlt0 := (HX0.out.ext Y1.out).lt
     have hL := fun (x : Later _) => (Ext.trans hb x.ext).old.1
     refine wp_region_later (by kernel_rfl) (by kernel_rfl) ?_
     repeat (go_big_quiet_step ((go_at_call 165; with_reducible exact Calls.later (HB1.out _ (Later.ext _)))))
     refine wpQuiet_nil ?_
     intro w2 hw2
     replace hb := Ext.trans hb (Later.of hw2)
     clear hw2 hL
     obtain ⟨hc, hf⟩ := hb.old
     have Y2 := Lib.hid (Y1.out.trans hb)
     clear k0 k1 k2 kz hc hf hw1 hw2 hlt0 hb HB1
     obtain ⟨⟨k0, k1, k2⟩, kz⟩ := HX0.out.ext Y2.out
     have hlt1 := HX1.out.lt
     generalize pwD ee = p at *
     generalize pwD (ee + 1) = p2 at *
     go_upto_region 7 with (go_at_call 152; (with_reducible refine (HS.out _ Y2.out).mono ?_); rintro e w3 ⟨rfl, hx⟩; have Y3 := Lib.hid (Y2.out.trans hx); clear hx k0 k1 k2 kz)
     have HS7 : Hid (∀ w', Ext w3.drew w' → w'.cell? ⟨w.heap.size, 0, none⟩ = some (.bool y.neg) ∧ w'.cell? ⟨w.heap.size, 1, none⟩ = some (.slice A1 (len y.m) c1) ∧ w'.cell? ⟨w.heap.size, 2, none⟩ = some (I y.den)) := fun w' e => (HX0.out.ext (Y3.out.trans ((Ext.drew w3).trans e))).1
     have HPw7 : Hid (∀ w', Ext w3.drew w' → Calls Tryz.prog 138 #[I ee] w' (DyRes p w')) := fun w' e => HPw.out w' (Y3.out.trans ((Ext.drew w3).trans e))
     have HD7 : Hid (∀ w', Ext w3.drew w' → Dy w' y.neg A1 (len y.m) c1 y.den y A1 c1) := fun w' e => HD.out w' (Y3.out.trans ((Ext.drew w3).trans e))
     go_region_held3 (fun w' => w'.cell? ⟨w.heap.size, 0, none⟩ = some (.bool y.neg) ∧ w'.cell? ⟨w.heap.size, 1, none⟩ = some (.slice A1 (len y.m) c1) ∧ w'.cell? ⟨w.heap.size, 2, none⟩ = some (I y.den)) (first | with_reducible assumption | exact HS7.out _ ex2)
      (first
       | (have hg := hx4; clear hg; go_at_call 88; (with_reducible refine (cmp_any (F4.out.ext ex2) (HD7.out _ ex2)).mono ?_); rw [HCM.out]; rintro e w5 ⟨rfl, hx5⟩)
       | (go_at_call 138; (with_reducible refine (HPw7.out _ ex2).mono ?_); rintro e w4 ⟨A4, c4, rfl, hon, hx4⟩; have F4 := Lib.hid (dy_of_on hon LP.out.1 (Nat.le_trans LP.out.2 (by decide)) (Ext.refl _)); clear hon))
     have HF := Lib.hid (Y3.out.trans ((Ext.drew w3).trans (show Ext w3.drew w5 from ex2)))
     have hw3 := HW3.out
     go_wp2_with (go_at_call 138; (with_reducible refine (HPv.out _ HF.out).mono ?_); rintro e w6 ⟨A6, c6, rfl, hon, hx⟩; have HO6 := Lib.hid hon; have Y6 := Lib.hid (HF.out.trans hx); have hs6 := HF.out.size; clear hon hx; obtain ⟨⟨l0, l1, l2⟩, lz⟩ := HX1.out.ext Y6.out; have f0 := lz 0; have f1 := lz 1; have f2 := lz 2)
     exact bodyPost_ret (v := dv p2.neg A6 (len p2.m) c6 p2.den) (by simp [results, Tryz.results143, go_sem, l0, l1, l2]) rfl (DyRes.end3 rfl HO6.out (HE.out.trans Y6.out) (by omega) (by omega) (by omega))
    ·obtain rfl : y = r := by rw [HP2, if_neg s2]
     have s2' : decide (cm < 0) = false := decide_eq_false s2
     clear HP2
     go_upto_region 4 with (go_at_call 152; (with_reducible refine (HS.out _ (Ext.refl _)).mono ?_); rintro e w1 ⟨rfl, hx⟩; have Y1 := Lib.hid hx; clear hx k0 k1 k2 kz l0 l1 l2 lz; obtain ⟨⟨k0, k1, k2⟩, kz⟩ := HX0.out.ext Y1.out)
     have hb : Ext w1 w1 := Ext.refl _
     have HB1 : Hid (∀ w', Ext w1 w' → Calls Tryz.prog 165 #[dv y.neg A1 (len y.m) c1 y.den] w' fun e w'' => e = .returned (I bb) ∧ Ext w' w'') := fun w' e => HBt.out w' (Y1.out.trans e)
     have hw1 := HW1.out; have hw2 := HW2.out
     have hlt0 := (HX0.out.ext Y1.out).lt
     have hL := fun (x : Later _) => (Ext.trans hb x.ext).old.1
     refine wp_region_later (by kernel_rfl) (by kernel_rfl) ?_
     repeat (go_big_quiet_step ((go_at_call 165; with_reducible exact Calls.later (HB1.out _ (Later.ext _)))))
     refine wpQuiet_nil ?_
     intro w2 hw2
     replace hb := Ext.trans hb (Later.of hw2)
     clear hw2 hL
     obtain ⟨hc, hf⟩ := hb.old
     have Y2 := Lib.hid (Y1.out.trans hb)
     clear k0 k1 k2 kz hc hf hw1 hw2 hlt0 hb HB1
     obtain ⟨⟨k0, k1, k2⟩, kz⟩ := HX0.out.ext Y2.out
     have hlt1 := HX1.out.lt
     generalize pwD ee = p at *
     go_upto_region 7 with (go_at_call 152; (with_reducible refine (HS.out _ Y2.out).mono ?_); rintro e w3 ⟨rfl, hx⟩; have Y3 := Lib.hid (Y2.out.trans hx); clear hx k0 k1 k2 kz)
     have HS7 : Hid (∀ w', Ext w3.drew w' → w'.cell? ⟨w.heap.size, 0, none⟩ = some (.bool y.neg) ∧ w'.cell? ⟨w.heap.size, 1, none⟩ = some (.slice A1 (len y.m) c1) ∧ w'.cell? ⟨w.heap.size, 2, none⟩ = some (I y.den)) := fun w' e => (HX0.out.ext (Y3.out.trans ((Ext.drew w3).trans e))).1
     have HPw7 : Hid (∀ w', Ext w3.drew w' → Calls Tryz.prog 138 #[I ee] w' (DyRes p w')) := fun w' e => HPw.out w' (Y3.out.trans ((Ext.drew w3).trans e))
     have HD7 : Hid (∀ w', Ext w3.drew w' → Dy w' y.neg A1 (len y.m) c1 y.den y A1 c1) := fun w' e => HD.out w' (Y3.out.trans ((Ext.drew w3).trans e))
     go_region_held3 (fun w' => w'.cell? ⟨w.heap.size, 0, none⟩ = some (.bool y.neg) ∧ w'.cell? ⟨w.heap.size, 1, none⟩ = some (.slice A1 (len y.m) c1) ∧ w'.cell? ⟨w.heap.size, 2, none⟩ = some (I y.den)) (first | with_reducible assumption | exact HS7.out _ ex2)
      (first
       | (have hg := hx4; clear hg; go_at_call 88; (with_reducible refine (cmp_any (F4.out.ext ex2) (HD7.out _ ex2)).mono ?_); rw [HCM.out]; rintro e w5 ⟨rfl, hx5⟩)
       | (go_at_call 138; (with_reducible refine (HPw7.out _ ex2).mono ?_); rintro e w4 ⟨A4, c4, rfl, hon, hx4⟩; have F4 := Lib.hid (dy_of_on hon LP.out.1 (Nat.le_trans LP.out.2 (by decide)) (Ext.refl _)); clear hon))
     have HF := Lib.hid (Y3.out.trans ((Ext.drew w3).trans (show Ext w3.drew w5 from ex2)))
     obtain ⟨⟨k0, k1, k2⟩, kz⟩ := HX0.out.ext HF.out
     obtain ⟨⟨l0, l1, l2⟩, lz⟩ := HX1.out.ext HF.out
     have f0 := lz 0; have f1 := lz 1; have f2 := lz 2
     go_wp2_with fail
     exact bodyPost_ret (v := dv y.neg A1 (len y.m) c1 y.den) (by simp [results, Tryz.results143, go_sem, l0, l1, l2]) rfl (DyRes.end3 rfl (HO.out.ext HF.out) (HE.out.trans HF.out) (by omega) (by omega) (by omega))
end
section
open Go Go.RowKit
attribute [local go_sem ↓] Go.wp_at_zero Go.wp_at_succ
def sdI (D : Dia) (k : Nat) : Nat := sr D ((delL D).getD k 0) 0
theorem sdI_lt {D : Dia} (ok : OkD D) {k : Nat} (hk : k < (delL D).length) : sdI D k < D.nb := by
  obtain ⟨hx, hd⟩ := del_at hk
  have h2 : (D.B ((delL D).getD k 0)).k = 2 := by unfold isD at hd; simpa using hd
  have har := ok.ar _ hx
  rw [h2] at har
  have hn1 : (D.B ((delL D).getD k 0)).n = 1 := by have : arity 2 = 1 := by decide
                                                   omega
  have hns : 0 < ns D ((delL D).getD k 0) := by unfold ns; rw [if_neg (by omega)]; omega
  exact (ok.src hx hns).2.1
def clK (D : Dia) (S : Nat → IV) (k : Nat) : Bool := conB (S k).lo (S k).hi (s0S D k) && insB (tkI D S (sdI D k)).lo (tkI D S (sdI D k)).hi (S k).lo (S k).hi
def clB (D : Dia) (n : Nat) (S : Nat → IV) : Bool := allN n (clK D S)
set_option maxRecDepth 100000 in
set_option maxHeartbeats 8000000 in
theorem Closed_ok {w : World} {D : Dia} {p : Pl} {Ai : Option Addr} {n ci : Nat} {R : Nat → RI} {S : Nat → IV} {b : Nat → Bool} (d : Dm w D p) (hT : Tabs w) (h : chk D = 0) (rs : RnI w Ai n R) (el : ∀ k, k < n → ElI w (R k) (S k) (b k)) (hz : evE D n b S = 0) :
  Calls Tryz.prog 15 #[dgv D p, .slice Ai n ci] w fun e w' => e = .returned (.tuple #[.bool (clB D n S), .nilIface]) ∧ Ext w w' := by
 have ok := chk_ok h
 obtain ⟨hn, hbt, _⟩ := evE_good hz
 obtain ⟨lo, hlo⟩ : ∃ lo, (ordL D).length = lo := ⟨_, rfl⟩
 have HCN : Hid (∀ k, k < n → CnI w (R k) (S k)) := fun k hk => (el k hk).cn (hbt k hk)
 have HP : Hid (∀ w', Ext w w' → Calls Tryz.prog 54 #[dgv D p] w' (fun e w'' => ∃ Ao co Ad cd gs Rs, e = .returned (.tuple #[anv D p Ao lo co Ad n cd (some ⟨gs, 0, none⟩) n n, .nilIface]) ∧ Rl w'' Ao co (ordL D) ∧ Rl w'' Ad cd (delL D) ∧ LvM w'' gs n Rs (s0S D) ∧ Ext w' w'')) := fun w' e => (rprepare_ok (d.ext e) (hT.ext e) h).mono fun e w'' hh => by
  obtain ⟨Ao, co, Ad, cd, g, R, he, h1, h2, h3, h4⟩ := hh
  rw [hlo, ← hn] at he
  rw [← hn] at h3
  exact ⟨Ao, co, Ad, cd, g, R, he, h1, h2, h3, h4⟩
 have HV2 : Hid (∀ w' Ao co Ad cd As, Ext w w' → Rl w' Ao co (ordL D) → Rl w' Ad cd (delL D) → Calls Tryz.prog 55 #[anv D p Ao lo co Ad n cd As n n, .slice Ai n ci] w' (fun e w'' => ∃ g R, e = .returned (.tuple #[.slice (some ⟨g, 0, none⟩) D.nb D.nb, .nilIface]) ∧ BuI w' w'' g D.nb R (tkI D S))) := fun w' Ao co Ad cd As e ro rd => (evaluate_any (d.ext e) ok (hT.ext e) hn.symm hlo rd ro (rs.ext e) fun k hk => (el k hk).ext e).mono fun e w'' hh => by
  rcases hh with ⟨h1, _⟩ | ⟨_, h2⟩
  ·exact absurd hz h1
  ·exact h2
 have HSR : Hid (∀ w' Ao co Ad cd As (j : Nat), Ext w w' → Rl w' Ad cd (delL D) → j < n → Calls Tryz.prog 56 #[anv D p Ao lo co Ad n cd As n n, I j] w' (fun e w'' => e = .returned (I (sdI D j)) ∧ Ext w' w'')) := fun w' Ao co Ad cd As j e rd hj => rsource_any (d.ext e) ok rd hn.symm hj
 have HSL : Hid (∀ j, j < n → sdI D j < D.nb) := fun j hj => sdI_lt ok (by omega)
 have hnm : n ≤ 100000 := by have := del_le D; have := ok.nb; omega
 have HRS := Lib.hid rs
 obtain ⟨v, hv⟩ : ∃ v, clB D n S = v := ⟨_, rfl⟩
 have HV := Lib.hid hv
 rw [hv]
 clear d hT h ok hlo rs el hz hbt hv hn
 go_enter Tryz.func15, Tryz.ntmps15
 go_upto_region 8 with (first
  | (go_at_call 54; (with_reducible refine (HP.out _ (Ext.alloc _ _)).mono ?_); rintro e1 w1 ⟨Ao, co, Ad, cd, gs, Rs, rfl, ro, rd, st, h1⟩; have HRO := Lib.hid ro; have HRD := Lib.hid rd; have HST := Lib.hid st; have HX1 := Lib.hid ((Ext.alloc _ _).trans h1); clear ro rd st h1)
  | (go_at_call 55; (with_reducible refine (HV2.out _ _ _ _ _ _ (HX1.out.trans (Ext.alloc _ _)) (HRO.out.ext (Ext.alloc _ _)) (HRD.out.ext (Ext.alloc _ _))).mono ?_); rintro e2 w2 ⟨g, R2, rfl, hr⟩; have HR := Lib.hid hr; clear hr))
 have hx2 := (Ext.alloc w1 (.cells #[.slice p.AI D.ni p.cI, .slice p.AB D.nb p.cB, .slice p.AO D.no p.cO, .slice Ao lo co, .slice Ad n cd, .slice (some ⟨gs, 0, none⟩) n n] 102)).trans HR.out.ext
 have HB2 : Hid (B6A w2 w1.heap.size D p Ao lo co Ad n cd (some ⟨gs, 0, none⟩) n n) := by
  have q := (B6.new w1 (.slice p.AI D.ni p.cI) (.slice p.AB D.nb p.cB) (.slice p.AO D.no p.cO) (.slice Ao lo co) (.slice Ad n cd) (.slice (some ⟨gs, 0, none⟩) n n) 102).ext HR.out.ext
  exact q
 have HS2 := Lib.hid (HST.out.ext hx2); have HD2 := Lib.hid (HRD.out.ext hx2)
 have HX2 := Lib.hid (HX1.out.trans hx2)
 have HL2 := Lib.hid HR.out.lv
 clear hx2 HST HRD HRO HX1 HR HP HV2
 generalize w1.heap.size = ga at *
 go_loopw [29] (fun s wr => ∃ j : Nat, j ≤ n ∧ s = I j ∧ Ext w2 wr ∧ Hid (∀ k, k < j → clK D S k = true)) (fun s _ => n - (intOf s).toNat)
 case atStart => exact ⟨0, Nat.zero_le _, rfl, Ext.refl _, fun k hk => absurd hk (by omega)⟩
 case round =>
  obtain ⟨j, hj, rfl, hx, HG⟩ := hrel
  by_cases hlt : j < n
  ·obtain ⟨bs, os, rfl, hbs, hcs⟩ := HRS.out.ext (HX2.out.trans hx) (by omega)
   obtain ⟨x0, x1, x2, x3, x4, x5⟩ := hcs j hlt
   obtain ⟨⟨a0, a1, a2, a3, a4, a5⟩, _⟩ := HB2.out.ext hx
   have hga := (HB2.out.ext hx).lt
   obtain ⟨s0, s1, s2⟩ := (HS2.out.ext hx).cells hlt
   have hgs := (HS2.out.ext hx).row.lt
   obtain ⟨q, hq⟩ : ∃ q, sdI D j = q := ⟨_, rfl⟩
   have hqn := HSL.out j hlt
   rw [hq] at hqn
   obtain ⟨r0, r1, r2, r3, r4, r5⟩ := (HL2.out.ext hx).cells hqn
   have hg := (HL2.out.ext hx).row.lt
   have hlt' : (j : Int) < (n : Int) := by omega
   have hq' : (q : Int) < (D.nb : Int) := by omega
   have hb : Ext wr wr := Ext.refl _
   obtain ⟨bc, hbc⟩ : ∃ bc, conB (S j).lo (S j).hi (s0S D j) = bc := ⟨_, rfl⟩
   obtain ⟨bi, hbi⟩ : ∃ bi, insB (tkI D S q).lo (tkI D S q).hi (S j).lo (S j).hi = bi := ⟨_, rfl⟩
   have hk : clK D S j = (bc && bi) := by unfold clK; rw [hq, hbc, hbi]
   have cn := (HCN.out j hlt).ext (HX2.out.trans hx)
   have cs := (HS2.out.el j hlt).ext hx
   have cr := (HL2.out.el q hqn).ext hx
   have HC1 : Hid (∀ w', Ext wr w' → Calls Tryz.prog 31 #[(R j).v, (Rs j).v] w' fun e w'' => e = .returned (.bool bc) ∧ Ext w' w'') := fun w' e => by rw [← hbc]; exact contains_any (cn.ext e).iw (cs.ext e).dy
   have HC2 : Hid (∀ w', Ext wr w' → Calls Tryz.prog 34 #[(R2 q).v, (R j).v] w' fun e w'' => e = .returned (.bool bi) ∧ Ext w' w'') := fun w' e => by rw [← hbi]; exact inside_any (cr.ext e).iw (cn.ext e).iw
   have HC3 : Hid (∀ w', Ext wr w' → Calls Tryz.prog 56 #[anv D p Ao lo co Ad n cd (some ⟨gs, 0, none⟩) n n, I j] w' fun e w'' => e = .returned (I q) ∧ Ext w' w'') := fun w' e => by rw [← hq]; exact HSR.out w' _ _ _ _ _ j ((HX2.out.trans hx).trans e) (HD2.out.ext (hx.trans e)) hlt
   have HK := Lib.hid hk
   clear hcs hq hbc hbi hk cn cs cr
   generalize R j = rj at *
   generalize Rs j = sj at *
   generalize R2 q = rq at *
   cases bc with
   | false =>
    obtain rfl : v = false := by rw [← HV.out]; exact allN_false.2 ⟨j, hlt, HK.out⟩
    go_upto_region 10 with fail
    have hL := fun (x : Later _) => (Ext.trans hb x.ext).old.1
    refine wp_region_later (by kernel_rfl) (by kernel_rfl) ?_
    repeat (go_big_quiet_step ((first | (go_at_call 31; with_reducible exact Calls.later (HC1.out _ (Later.ext _))) | (go_at_call 56; with_reducible exact Calls.later (HC3.out _ (Later.ext _))) | (go_at_call 34; with_reducible exact Calls.later (HC2.out _ (Later.ext _))))))
    refine wpQuiet_nil ?_
    intro w2 hw2
    replace hb := Ext.trans hb (Later.of hw2)
    clear hw2 hL
    obtain ⟨hc, hf⟩ := hb.old
    go_wp2_with fail
    go_ret2
    exact ⟨rfl, (HX2.out.trans hx).trans hb⟩
   | true =>
    cases bi with
    | false =>
     obtain rfl : v = false := by rw [← HV.out]; exact allN_false.2 ⟨j, hlt, HK.out⟩
     go_upto_region 10 with fail
     have hL := fun (x : Later _) => (Ext.trans hb x.ext).old.1
     refine wp_region_later (by kernel_rfl) (by kernel_rfl) ?_
     repeat (go_big_quiet_step ((first | (go_at_call 31; with_reducible exact Calls.later (HC1.out _ (Later.ext _))) | (go_at_call 56; with_reducible exact Calls.later (HC3.out _ (Later.ext _))) | (go_at_call 34; with_reducible exact Calls.later (HC2.out _ (Later.ext _))))))
     refine wpQuiet_nil ?_
     intro w2 hw2
     replace hb := Ext.trans hb (Later.of hw2)
     clear hw2 hL
     obtain ⟨hc, hf⟩ := hb.old
     go_wp2_with fail
     go_ret2
     exact ⟨rfl, (HX2.out.trans hx).trans hb⟩
    | true =>
     have HG2 : Hid (∀ k, k < j + 1 → clK D S k = true) := fun k hk => by
      by_cases e : k = j
      ·subst e; exact HK.out
      ·exact HG.out k (by omega)
     go_upto_region 10 with fail
     have hL := fun (x : Later _) => (Ext.trans hb x.ext).old.1
     refine wp_region_later (by kernel_rfl) (by kernel_rfl) ?_
     repeat (go_big_quiet_step ((first | (go_at_call 31; with_reducible exact Calls.later (HC1.out _ (Later.ext _))) | (go_at_call 56; with_reducible exact Calls.later (HC3.out _ (Later.ext _))) | (go_at_call 34; with_reducible exact Calls.later (HC2.out _ (Later.ext _))))))
     refine wpQuiet_nil ?_
     intro w2 hw2
     replace hb := Ext.trans hb (Later.of hw2)
     clear hw2 hL
     obtain ⟨hc, hf⟩ := hb.old
     go_wp2_with fail
     go_roundw
     case rel => exact ⟨j + 1, by omega, by go_num, hx.trans hb, HG2⟩
     case measure => simp [intOf]; omega
  ·obtain rfl : j = n := by omega
   obtain rfl : v = true := by rw [← HV.out]; exact allN_iff.2 HG.out
   go_wp2_with fail
   go_ret2
   exact ⟨rfl, HX2.out.trans hx⟩
end
end Go.Proofs.YtgnngldlgcdnfaaGreatDoor
