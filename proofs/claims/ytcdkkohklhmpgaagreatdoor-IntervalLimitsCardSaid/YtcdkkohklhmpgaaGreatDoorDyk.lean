/- Numbers as structs: comparison. -/
import Derived.Test.YtcdkkohklhmpgaaGreatDoorMdyf
namespace Go.Proofs.YtcdkkohklhmpgaaGreatDoor
open Go.RowKit
attribute [local go_sem ↓] Go.wp_at_zero Go.wp_at_succ

def TwoC (w : World) (a b : DV) (A B : Option Addr) (ca cb : Nat) (wx : World) : Prop :=
  Ext w wx ∧ Bx wx w.heap.size (.bool a.neg) (.slice A (len a.m) ca) (I a.den) ∧ Bx wx (w.heap.size + 1) (.bool b.neg) (.slice B (len b.m) cb) (I b.den)
theorem twoC_of {w W0 W : World} {a b : DV} {A B : Option Addr} {ca cb : Nat} {a0 a1 a2 b0 b1 b2 : Value} (h0 : Bx W0 w.heap.size a0 a1 a2) (h1 : Bx W0 (w.heap.size + 1) b0 b1 b2) (hw : Ext w W0) (hx : Ext W0 W) :
    TwoC w a b A B ca cb ((((((W.setCell ⟨w.heap.size, 0, none⟩ (.bool a.neg)).setCell ⟨w.heap.size, 1, none⟩ (.slice A (len a.m) ca)).setCell ⟨w.heap.size, 2, none⟩ (I a.den)).setCell ⟨w.heap.size + 1, 0, none⟩ (.bool b.neg)).setCell ⟨w.heap.size + 1, 1, none⟩ (.slice B (len b.m) cb)).setCell ⟨w.heap.size + 1, 2, none⟩ (I b.den)) :=
  ⟨ext_set3 (ext_set3 (hw.trans hx) (Nat.le_refl _) _ _ _) (by omega) _ _ _, ((h0.ext hx).set3 _ _ _).far3 (by omega) _ _ _, ((h1.ext hx).far3 (by omega) _ _ _).set3 _ _ _⟩

theorem cmp_ne_val {a b : DV} (ha : a.ok) (hb : b.ok) (h : signD a ≠ signD b) : cmpI (signD a) (signD b) = cmpD a b := by rw [cmpD_signs ha hb h, cmp_ne h]

set_option maxRecDepth 100000 in
set_option maxHeartbeats 1000000 in
theorem cmp_any {w : World} {na nb : Bool} {A A' B B' : Option Addr} {n c c' k e e' : Nat} {da db : Int} {a b : DV} (ha : Dy w na A n c da a A' c') (hb' : Dy w nb B k e db b B' e') :
    Calls Tryz.prog 31 #[dv na A n c da, dv nb B k e db] w fun e w' => e = .returned (I (cmpD a b)) ∧ Ext w w' := by
  have HA := Lib.hid ha; have HB := Lib.hid hb'; clear ha hb'
  obtain ⟨X0, X1, XE⟩ : Bx ((w.alloc (.cells #[.bool na, .slice A n c, I da] 24)).alloc (.cells #[.bool nb, .slice B k e, I db] 24)) w.heap.size (.bool na) (.slice A n c) (I da) ∧
      Bx ((w.alloc (.cells #[.bool na, .slice A n c, I da] 24)).alloc (.cells #[.bool nb, .slice B k e, I db] 24)) (w.heap.size + 1) (.bool nb) (.slice B k e) (I db) ∧
      Ext w ((w.alloc (.cells #[.bool na, .slice A n c, I da] 24)).alloc (.cells #[.bool nb, .slice B k e, I db] 24)) := two_bx (Ext.refl _)
  have HX0 := Lib.hid X0; have HX1 := Lib.hid X1; have HXE := Lib.hid XE
  clear X0 X1 XE
  go_enter Tryz.func31, Tryz.ntmps31
  go_upto_region 1 with fail
  go_cut [] (fun wx => TwoC w a b A' B' c' e' wx)
  case first =>
    go_region_with ((first | (go_at_call 106; refine (HA.out.num _ (HXE.out.trans (by repeat (first | exact Ext.refl _ | assumption | refine Ext.trans ?_ (Ext.drew _) | refine Ext.trans ?_ (by assumption))))).mono ?_; rintro e wa ⟨rfl, hxa⟩; have ga0 := (HX0.out.ext (w' := wa) (by repeat (first | exact Ext.refl _ | assumption | refine Ext.trans ?_ (Ext.drew _) | refine Ext.trans ?_ (by assumption)))).2; have ga1 := (HX1.out.ext (w' := wa) (by repeat (first | exact Ext.refl _ | assumption | refine Ext.trans ?_ (Ext.drew _) | refine Ext.trans ?_ (by assumption)))).2; obtain ⟨ka0, ka1, ka2, ka3, ka4, ka5⟩ := keepB HX0.out HX1.out (w' := wa) (by repeat (first | exact Ext.refl _ | assumption | refine Ext.trans ?_ (Ext.drew _) | refine Ext.trans ?_ (by assumption)))) | (go_at_call 106; refine (HB.out.num _ (HXE.out.trans (by repeat (first | exact Ext.refl _ | assumption | refine Ext.trans ?_ (Ext.drew _) | refine Ext.trans ?_ (by assumption))))).mono ?_; rintro e wb ⟨rfl, hxb⟩; have gb0 := (HX0.out.ext (w' := wb) (by repeat (first | exact Ext.refl _ | assumption | refine Ext.trans ?_ (Ext.drew _) | refine Ext.trans ?_ (by assumption)))).2; have gb1 := (HX1.out.ext (w' := wb) (by repeat (first | exact Ext.refl _ | assumption | refine Ext.trans ?_ (Ext.drew _) | refine Ext.trans ?_ (by assumption)))).2; obtain ⟨kb0, kb1, kb2, kb3, kb4, kb5⟩ := keepB HX0.out HX1.out (w' := wb) (by repeat (first | exact Ext.refl _ | assumption | refine Ext.trans ?_ (Ext.drew _) | refine Ext.trans ?_ (by assumption))))))
    all_goals
      go_wp2_with fail
      go_meet
      exact twoC_of HX0.out HX1.out HXE.out (by repeat (first | exact Ext.refl _ | assumption | refine Ext.trans ?_ (Ext.drew _) | refine Ext.trans ?_ (by assumption)))
  case rest =>
    clear HX0 HX1 HXE
    obtain ⟨hE, X0, X1⟩ := hcut
    have HX0 := Lib.hid X0; have HX1 := Lib.hid X1; have HE := Lib.hid hE
    clear X0 X1 hE
    obtain ⟨k0, k1, k2, k3, k4, k5⟩ := keepB HX0.out HX1.out (Ext.refl _)
    have l0 := HX0.out.lt
    have l1 := HX1.out.lt
    have HSA : Hid (∀ w', Ext w w' → Calls Tryz.prog 70 #[dv a.neg A' (len a.m) c' a.den] w' fun e w'' => e = .returned (I (signD a)) ∧ Ext w' w'') := fun w' e => sign_any (HA.out.self.ext e)
    have HSB : Hid (∀ w', Ext w w' → Calls Tryz.prog 70 #[dv b.neg B' (len b.m) e' b.den] w' fun e w'' => e = .returned (I (signD b)) ∧ Ext w' w'') := fun w' e => sign_any (HB.out.self.ext e)
    have hb := Ext.refl wc
    obtain ⟨hc, hf⟩ := hb.old
    by_cases hs : signD a = signD b
    · have h1 : (signD a != signD b) = false := by simpa using hs
      have HC := Lib.hid (cmpD_same HA.out.wf HB.out.wf hs)
      have HAL : Hid (∀ w', Ext w w' → Calls Tryz.prog 108 #[dv a.neg A' (len a.m) c' a.den, dv b.neg B' (len b.m) e' b.den] w' (AlRes (al a (max a.den b.den)) (al b (max a.den b.den)) (max a.den b.den) w')) := fun w' e => aligned_any (HA.out.rd.ext e) (HB.out.rd.ext e) HA.out.wf.2.1 HB.out.wf.2.1 HA.out.lim HB.out.lim
      have hlx : len (al a (max a.den b.den)) ≤ 1073741824 := by
        have h1 := len_shl a.m (max a.den b.den - a.den)
        have h2 := HA.out.lim; have h3 := HA.out.wf.2.1; have h4 := HB.out.wf.2.1
        unfold al; omega
      have hly : len (al b (max a.den b.den)) ≤ 1073741824 := by
        have h1 := len_shl b.m (max a.den b.den - b.den)
        have h2 := HB.out.lim; have h3 := HA.out.wf.2.1; have h4 := HB.out.wf.2.1
        unfold al; omega
      generalize al a (max a.den b.den) = x at *
      generalize al b (max a.den b.den) = y at *
      generalize max a.den b.den = D at *
      clear hs
      generalize signD a = sa at *
      generalize signD b = sb at *
      go_upto_region 2 with fail
      have hL := fun (x : Later _) => (Ext.trans hb x.ext).old.1
      refine wp_region_later (by kernel_rfl) (by kernel_rfl) ?_
      repeat (go_big_quiet_step ((first | (go_at_call_of 70 (Value.agg #[.bool a.neg, .slice A' (len a.m) c', I a.den]); exact Calls.later (HSA.out _ (HE.out.trans (Ext.trans hb (Later.ext _))))) | (go_at_call_of 70 (Value.agg #[.bool b.neg, .slice B' (len b.m) e', I b.den]); exact Calls.later (HSB.out _ (HE.out.trans (Ext.trans hb (Later.ext _))))))))
      refine wpQuiet_nil ?_
      intro w2 hw2
      replace hb := Ext.trans hb (Later.of hw2)
      clear hw2 hL
      obtain ⟨hc, hf⟩ := hb.old
      go_wp2_with (first
        | (go_at_call 108; refine (HAL.out _ (HE.out.trans hb)).mono ?_; rintro e w3 ⟨A1, c1, A2, c2, rfl, hon1, hon2, hx⟩; have HO1 := Lib.hid hon1; have HO2 := Lib.hid hon2; clear hon1 hon2; replace hb := Ext.trans hb hx; clear hx hc hf; obtain ⟨hc, hf⟩ := hb.old)
        | (go_at_call_of 109 (Value.slice A1 (len x) c1); (with_reducible refine (compare_any A1 A2 x y c1 c2 _ HO1.out.rd HO2.out.rd hlx).mono ?_); rintro e w4 ⟨rfl, hx⟩)
        | (go_at_call_of 109 (Value.slice A1 (len x) c1); (with_reducible refine (compare_any A2 A1 y x c2 c1 _ HO2.out.rd HO1.out.rd hly).mono ?_); rintro e w4 ⟨rfl, hx⟩))
      all_goals
        go_ret
        refine ⟨?_, HE.out.trans (hb.trans hx)⟩
        have := HC.out
        simp [*]
    · have h1 : (signD a != signD b) = true := by simpa using hs
      have HC := Lib.hid (cmp_ne_val HA.out.wf HB.out.wf hs)
      clear hs
      generalize signD a = sa at *
      generalize signD b = sb at *
      go_upto_region 2 with fail
      have hL := fun (x : Later _) => (Ext.trans hb x.ext).old.1
      refine wp_region_later (by kernel_rfl) (by kernel_rfl) ?_
      repeat (go_big_quiet_step ((first | (go_at_call_of 70 (Value.agg #[.bool a.neg, .slice A' (len a.m) c', I a.den]); exact Calls.later (HSA.out _ (HE.out.trans (Ext.trans hb (Later.ext _))))) | (go_at_call_of 70 (Value.agg #[.bool b.neg, .slice B' (len b.m) e', I b.den]); exact Calls.later (HSB.out _ (HE.out.trans (Ext.trans hb (Later.ext _))))))))
      refine wpQuiet_nil ?_
      intro w2 hw2
      replace hb := Ext.trans hb (Later.of hw2)
      clear hw2 hL
      obtain ⟨hc, hf⟩ := hb.old
      go_wp2_with fail
      have hL := fun (x : Later _) => (Ext.trans hb x.ext).old.1
      refine wp_region_later (by kernel_rfl) (by kernel_rfl) ?_
      repeat (go_big_quiet_step ((first | (go_at_call_of 70 (Value.agg #[.bool a.neg, .slice A' (len a.m) c', I a.den]); exact Calls.later (HSA.out _ (HE.out.trans (Ext.trans hb (Later.ext _))))) | (go_at_call_of 70 (Value.agg #[.bool b.neg, .slice B' (len b.m) e', I b.den]); exact Calls.later (HSB.out _ (HE.out.trans (Ext.trans hb (Later.ext _))))) | (go_at_call 107; exact Calls.later (Calls.same_ext (cmpInt_any _ _ _))))))
      refine wpQuiet_nil ?_
      intro w2 hw2
      replace hb := Ext.trans hb (Later.of hw2)
      clear hw2 hL
      obtain ⟨hc, hf⟩ := hb.old
      go_wp2_with fail
      go_ret
      exact ⟨by rw [← HC.out]; rfl, HE.out.trans hb⟩

end Go.Proofs.YtcdkkohklhmpgaaGreatDoor
