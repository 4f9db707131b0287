/- Intervals: the walks of the functions (written by gi.py). -/
import Derived.Test.YtgnngldlgcdnfaaDoorIvcx
import Derived.Deep.RegionHeld3
import Derived.Deep.DeepCutAuto
namespace Go.Proofs.YtgnngldlgcdnfaaDoor

/-! ### Ivmi -/
section
open Go.RowKit
attribute [local go_sem ↓] Go.wp_at_zero Go.wp_at_succ


end

/-! ### Ivma -/
section
open Go.RowKit
attribute [local go_sem ↓] Go.wp_at_zero Go.wp_at_succ


end

/-! ### Ivmg -/
section
open Go.RowKit
attribute [local go_sem ↓] Go.wp_at_zero Go.wp_at_succ

def OneD (w : World) (a b : DV) (A : Option Addr) (c : Nat) (B : Option Addr) (e : Nat) (wx : World) : Prop := Ext w wx ∧ BI wx w.heap.size a A c b B e ∧ Bx wx (w.heap.size + 1) (.bool false) (.slice none 0 0) (I 0)
theorem boxesD (w : World) (n1 n2 : Bool) (A B : Option Addr) (k c m e : Nat) (d1 d2 : Int) :
    let W := (w.alloc (.cells #[.bool n1, .slice A k c, I d1, .bool n2, .slice B m e, I d2] 47)).alloc (.cells #[.bool false, .slice none 0 0, I 0] 43)
    B6 W w.heap.size (.bool n1) (.slice A k c) (I d1) (.bool n2) (.slice B m e) (I d2) ∧ Bx W (w.heap.size + 1) (.bool false) (.slice none 0 0) (I 0) ∧ Ext w W := by
  have s1 := (B6.new w (.bool n1) (.slice A k c) (I d1) (.bool n2) (.slice B m e) (I d2) 47).ext (Ext.alloc _ (.cells #[.bool false, .slice none 0 0, I 0] 43))
  have s2 := Bx.new (w.alloc (.cells #[.bool n1, .slice A k c, I d1, .bool n2, .slice B m e, I d2] 47)) (.bool false) (.slice none 0 0) (I 0) 43
  rw [show (w.alloc (.cells #[.bool n1, .slice A k c, I d1, .bool n2, .slice B m e, I d2] 47)).heap.size = w.heap.size + 1 by simp] at s2
  exact ⟨s1, s2, (Ext.alloc _ _).trans (Ext.alloc _ _)⟩
theorem oneD_of {w W0 W : World} {a b : DV} {A B : Option Addr} {c e : Nat} {v0 v1 v2 v3 v4 v5 : Value} (h0 : B6 W0 w.heap.size v0 v1 v2 v3 v4 v5) (hz : Bx W0 (w.heap.size + 1) (.bool false) (.slice none 0 0) (I 0)) (hw : Ext w W0) (hx : Ext W0 W) :
    OneD w a b A c B e ((((((W.setCell ⟨w.heap.size, 0, none⟩ (.bool a.neg)).setCell ⟨w.heap.size, 1, none⟩ (.slice A (len a.m) c)).setCell ⟨w.heap.size, 2, none⟩ (I a.den)).setCell ⟨w.heap.size, 3, none⟩ (.bool b.neg)).setCell ⟨w.heap.size, 4, none⟩ (.slice B (len b.m) e)).setCell ⟨w.heap.size, 5, none⟩ (I b.den)) :=
  ⟨ext_set6 (hw.trans hx) (Nat.le_refl _) _ _ _ _ _ _, (h0.ext hx).set6 _ _ _ _ _ _, (hz.ext hx).far6 (by omega) _ _ _ _ _ _⟩
theorem B6.far3' {w : World} {g g' : Nat} {v0 v1 v2 v3 v4 v5 : Value} (h : B6 w g v0 v1 v2 v3 v4 v5) (hne : g' ≠ g) (u0 u1 u2 : Value) : B6 (((w.setCell ⟨g', 0, none⟩ u0).setCell ⟨g', 1, none⟩ u1).setCell ⟨g', 2, none⟩ u2) g v0 v1 v2 v3 v4 v5 := h.far3 hne u0 u1 u2
theorem absE {d : DV} (h : End d) : (absD d).ok ∧ len (absD d).m ≤ 16777216 := ⟨absD_ok _, by have h1 := len_mono (mkD_m_le false d.m d.den); have h2 : (absD d).m = (mkD false d.m d.den).m := rfl; rw [← h2] at h1; have := h.2; omega⟩

set_option maxRecDepth 100000 in
set_option maxHeartbeats 1000000 in
theorem imag_any {w : World} {n1 n2 : Bool} {A B A' B' : Option Addr} {k c m e c' e' : Nat} {d1 d2 : Int} {a b : DV} (ha : Iw w n1 A k c d1 n2 B m e d2 a b A' c' B' e') (hT : Tabs w) :
    Calls Tryd.prog 14 #[iv n1 A k c d1 n2 B m e d2] w (DyRes (maxD (absD a) (absD b)) w) := by
  obtain ⟨u, hu⟩ : ∃ u, absD a = u := ⟨_, rfl⟩; obtain ⟨v, hv⟩ : ∃ v, absD b = v := ⟨_, rfl⟩
  have wu := absE ha.wa; have wv := absE ha.wb
  rw [hu] at wu; rw [hv] at wv
  have Wu : Hid (u.ok ∧ len u.m ≤ 16777216) := wu; have Wv : Hid (v.ok ∧ len v.m ≤ 16777216) := wv
  rw [hu, hv]
  obtain ⟨o, ho⟩ : ∃ o, maxD u v = o := ⟨_, rfl⟩
  rw [ho]
  have Eu := Lib.hid hu; have Ev := Lib.hid hv; have Eo := Lib.hid ho; clear hu hv ho wu wv
  have HA := Lib.hid ha; have HT := Lib.hid hT; clear ha hT
  obtain ⟨X0, XZ, XE⟩ := boxesD w n1 n2 A B k c m e d1 d2
  have HX0 := Lib.hid X0; have HXZ := Lib.hid XZ; have HXE := Lib.hid XE
  clear X0 XZ XE
  go_enter Tryd.func14, Tryd.ntmps14
  go_upto_region 1 with fail
  go_cut [] (fun wx => OneD w a b A' c' B' e' wx)
  case first =>
    obtain ⟨⟨k0, k1, k2, k3, k4, k5⟩, kz⟩ := HX0.out
    go_wp2_with (go_at_call 35; (with_reducible refine (HA.out.itv _ HXE.out).mono ?_); rintro e1 w1 ⟨rfl, hx⟩; clear k0 k1 k2 k3 k4 k5 kz; obtain ⟨⟨k0, k1, k2, k3, k4, k5⟩, kz⟩ := HX0.out.ext hx; have HX := Lib.hid hx; clear hx)
    go_meet
    exact oneD_of HX0.out HXZ.out HXE.out HX.out
  case rest =>
    clear HX0 HXZ HXE
    obtain ⟨hE, hX0, hXZ⟩ := hcut
    have HE := Lib.hid hE; have HX0 := Lib.hid hX0; have HXZ := Lib.hid hXZ
    clear hE hX0 hXZ
    have HS : Hid (∀ w', Ext wc w' → w'.cell? ⟨w.heap.size, 0, none⟩ = some (.bool a.neg) ∧ w'.cell? ⟨w.heap.size, 1, none⟩ = some (.slice A' (len a.m) c') ∧ w'.cell? ⟨w.heap.size, 2, none⟩ = some (I a.den) ∧ w'.cell? ⟨w.heap.size, 3, none⟩ = some (.bool b.neg) ∧ w'.cell? ⟨w.heap.size, 4, none⟩ = some (.slice B' (len b.m) e') ∧ w'.cell? ⟨w.heap.size, 5, none⟩ = some (I b.den)) := fun w' e => by
      obtain ⟨⟨i0, i1, i2, i3, i4, i5⟩, iz⟩ := HX0.out.ext e
      exact ⟨i0, i1, i2, i3, i4, i5⟩
    have HS2 : Hid (∀ w1 u0 u1 u2, Ext wc w1 → (((w1.setCell ⟨w.heap.size + 1, 0, none⟩ u0).setCell ⟨w.heap.size + 1, 1, none⟩ u1).setCell ⟨w.heap.size + 1, 2, none⟩ u2).cell? ⟨w.heap.size, 0, none⟩ = some (.bool a.neg) ∧ (((w1.setCell ⟨w.heap.size + 1, 0, none⟩ u0).setCell ⟨w.heap.size + 1, 1, none⟩ u1).setCell ⟨w.heap.size + 1, 2, none⟩ u2).cell? ⟨w.heap.size, 1, none⟩ = some (.slice A' (len a.m) c') ∧ (((w1.setCell ⟨w.heap.size + 1, 0, none⟩ u0).setCell ⟨w.heap.size + 1, 1, none⟩ u1).setCell ⟨w.heap.size + 1, 2, none⟩ u2).cell? ⟨w.heap.size, 2, none⟩ = some (I a.den) ∧ (((w1.setCell ⟨w.heap.size + 1, 0, none⟩ u0).setCell ⟨w.heap.size + 1, 1, none⟩ u1).setCell ⟨w.heap.size + 1, 2, none⟩ u2).cell? ⟨w.heap.size, 3, none⟩ = some (.bool b.neg) ∧ (((w1.setCell ⟨w.heap.size + 1, 0, none⟩ u0).setCell ⟨w.heap.size + 1, 1, none⟩ u1).setCell ⟨w.heap.size + 1, 2, none⟩ u2).cell? ⟨w.heap.size, 4, none⟩ = some (.slice B' (len b.m) e') ∧ (((w1.setCell ⟨w.heap.size + 1, 0, none⟩ u0).setCell ⟨w.heap.size + 1, 1, none⟩ u1).setCell ⟨w.heap.size + 1, 2, none⟩ u2).cell? ⟨w.heap.size, 5, none⟩ = some (I b.den)) := fun w1 u0 u1 u2 e => by
      obtain ⟨⟨i0, i1, i2, i3, i4, i5⟩, iz⟩ := (HX0.out.ext e).far3 (g' := w.heap.size + 1) (by omega) u0 u1 u2
      exact ⟨i0, i1, i2, i3, i4, i5⟩
    have hlx := HXZ.out.lt
    go_wp2_with fail
    go_region_held3 (fun w' => w'.cell? ⟨w.heap.size, 0, none⟩ = some (.bool a.neg) ∧ w'.cell? ⟨w.heap.size, 1, none⟩ = some (.slice A' (len a.m) c') ∧ w'.cell? ⟨w.heap.size, 2, none⟩ = some (I a.den) ∧ w'.cell? ⟨w.heap.size, 3, none⟩ = some (.bool b.neg) ∧ w'.cell? ⟨w.heap.size, 4, none⟩ = some (.slice B' (len b.m) e') ∧ w'.cell? ⟨w.heap.size, 5, none⟩ = some (I b.den)) (first | with_reducible assumption | exact HS.out _ (by (with_reducible (repeat (first | exact Ext.refl _ | assumption | (refine Ext.toSet ?_ (by omega)) | refine Ext.toAlloc ?_ | refine Ext.toDrew ?_ | refine Ext.toDrewN ?_ | refine Ext.trans ?_ (by assumption)))); (first | done | fail "no")) | exact HS2.out _ _ _ _ (by (with_reducible (repeat (first | exact Ext.refl _ | assumption | (refine Ext.toSet ?_ (by omega)) | refine Ext.toAlloc ?_ | refine Ext.toDrew ?_ | refine Ext.toDrewN ?_ | refine Ext.trans ?_ (by assumption)))); (first | done | fail "no")))
      (first
        | (have hg := hx2; clear hg; go_at_call 36; (with_reducible refine (max_any (D1.out.ext (by (with_reducible (repeat (first | exact Ext.refl _ | assumption | (refine Ext.toSet ?_ (by omega)) | refine Ext.toAlloc ?_ | refine Ext.toDrew ?_ | refine Ext.toDrewN ?_ | refine Ext.trans ?_ (by assumption)))); (first | done | fail "no"))) (D2.out.ext (by (with_reducible (repeat (first | exact Ext.refl _ | assumption | (refine Ext.toSet ?_ (by omega)) | refine Ext.toAlloc ?_ | refine Ext.toDrew ?_ | refine Ext.toDrewN ?_ | refine Ext.trans ?_ (by assumption)))); (first | done | fail "no"))) (HT.out.ext (HE.out.trans (by (with_reducible (repeat (first | exact Ext.refl _ | assumption | (refine Ext.toSet ?_ (by omega)) | refine Ext.toAlloc ?_ | refine Ext.toDrew ?_ | refine Ext.toDrewN ?_ | refine Ext.trans ?_ (by assumption)))); (first | done | fail "no"))))).mono ?_); rw [Eo.out]; rintro e1 w3 ⟨A3, c3, rfl, hon, hx3⟩; have HO := Lib.hid hon; clear hon; obtain ⟨⟨r0, r1, r2⟩, rz⟩ := HXZ.out.ext (w' := w3) (by (with_reducible (repeat (first | exact Ext.refl _ | assumption | (refine Ext.toSet ?_ (by omega)) | refine Ext.toAlloc ?_ | refine Ext.toDrew ?_ | refine Ext.toDrewN ?_ | refine Ext.trans ?_ (by assumption)))); (first | done | fail "no")))
        | (have hg := hx1; clear hg; go_at_call 37; (with_reducible refine (abs_any (HA.out.dyb.ext (HE.out.trans (by (with_reducible (repeat (first | exact Ext.refl _ | assumption | (refine Ext.toSet ?_ (by omega)) | refine Ext.toAlloc ?_ | refine Ext.toDrew ?_ | refine Ext.toDrewN ?_ | refine Ext.trans ?_ (by assumption)))); (first | done | fail "no")))) (HT.out.ext (HE.out.trans (by (with_reducible (repeat (first | exact Ext.refl _ | assumption | (refine Ext.toSet ?_ (by omega)) | refine Ext.toAlloc ?_ | refine Ext.toDrew ?_ | refine Ext.toDrewN ?_ | refine Ext.trans ?_ (by assumption)))); (first | done | fail "no"))))).mono ?_); rw [Ev.out]; rintro e1 w2 ⟨A2, c2, rfl, hon, hx2⟩; have O2 := Lib.hid hon; have D2 := Lib.hid (Dy.of_on hon Wv.out.1 Wv.out.2 (Ext.refl _)); clear hon)
        | (go_at_call 37; (with_reducible refine (abs_any (HA.out.dya.ext (HE.out.trans (by (with_reducible (repeat (first | exact Ext.refl _ | assumption | (refine Ext.toSet ?_ (by omega)) | refine Ext.toAlloc ?_ | refine Ext.toDrew ?_ | refine Ext.toDrewN ?_ | refine Ext.trans ?_ (by assumption)))); (first | done | fail "no")))) (HT.out.ext (HE.out.trans (by (with_reducible (repeat (first | exact Ext.refl _ | assumption | (refine Ext.toSet ?_ (by omega)) | refine Ext.toAlloc ?_ | refine Ext.toDrew ?_ | refine Ext.toDrewN ?_ | refine Ext.trans ?_ (by assumption)))); (first | done | fail "no"))))).mono ?_); rw [Eu.out]; rintro e1 w1 ⟨A1, c1, rfl, hon, hx1⟩; have O1 := Lib.hid hon; have D1 := Lib.hid (Dy.of_on hon Wu.out.1 Wu.out.2 (Ext.refl _)); clear hon))
    all_goals
      have HF := Lib.hid (HE.out.trans (show Ext wc w3 from (by (with_reducible (repeat (first | exact Ext.refl _ | assumption | (refine Ext.toSet ?_ (by omega)) | refine Ext.toAlloc ?_ | refine Ext.toDrew ?_ | refine Ext.toDrewN ?_ | refine Ext.trans ?_ (by assumption)))); (first | done | fail "no"))))
      have hz2 := Ext.size (show Ext wc w2 from (by (with_reducible (repeat (first | exact Ext.refl _ | assumption | (refine Ext.toSet ?_ (by omega)) | refine Ext.toAlloc ?_ | refine Ext.toDrew ?_ | refine Ext.toDrewN ?_ | refine Ext.trans ?_ (by assumption)))); (first | done | fail "no")))
      go_wp2_with fail
      exact bodyPost_ret (v := dv o.neg A3 (len o.m) c3 o.den) (by simp [results, Tryd.results14, go_sem, r0, r1, r2]) rfl (DyRes.end3 rfl HO.out HF.out (by (try simp); omega) (by omega) (by (try simp); omega))

end

/-! ### Ivsa -/
section
open Go.RowKit
attribute [local go_sem ↓] Go.wp_at_zero Go.wp_at_succ


end

end Go.Proofs.YtgnngldlgcdnfaaDoor
