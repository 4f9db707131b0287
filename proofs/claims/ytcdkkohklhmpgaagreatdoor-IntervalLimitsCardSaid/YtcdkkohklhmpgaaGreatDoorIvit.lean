/- Intervals: the walks of the functions (written by gi.py). -/
import Derived.Test.YtcdkkohklhmpgaaGreatDoorIvcd
import Derived.Deep.RegionHeld3
import Derived.Deep.DeepCutAuto
namespace Go.Proofs.YtcdkkohklhmpgaaGreatDoor
open Go.RowKit
attribute [local go_sem ↓] Go.wp_at_zero Go.wp_at_succ


set_option maxRecDepth 100000 in
set_option maxHeartbeats 1000000 in
theorem iints_any {w : World} (p q : Int) (p1 : -9223372036854775808 ≤ p) (p2 : p ≤ 9223372036854775807) (q1 : -9223372036854775808 ≤ q) (q2 : q ≤ 9223372036854775807) (hT : Tabs w) :
    Calls Tryz.prog 62 #[I p, I q] w (IvRes (lo2 (ofI p 0) (ofI q 0)) (hi2 (ofI p 0) (ofI q 0)) w) := by
  obtain ⟨u, hu⟩ : ∃ u, ofI p 0 = u := ⟨_, rfl⟩
  obtain ⟨v, hv⟩ : ∃ v, ofI q 0 = v := ⟨_, rfl⟩
  have Wu : Hid (u.ok ∧ len u.m ≤ 16777216) := ⟨hu ▸ ofI_ok _ _, by rw [← hu]; exact Nat.le_trans (len_mono (mkD_m_le _ _ _)) (Nat.le_trans (len_le (n := 2) (by unfold pB; omega)) (by decide))⟩
  have Wv : Hid (v.ok ∧ len v.m ≤ 16777216) := ⟨hv ▸ ofI_ok _ _, by rw [← hv]; exact Nat.le_trans (len_mono (mkD_m_le _ _ _)) (Nat.le_trans (len_le (n := 2) (by unfold pB; omega)) (by decide))⟩
  rw [hu, hv]
  have Eu := Lib.hid hu; have Ev := Lib.hid hv; have HT := Lib.hid hT; have P1 := Lib.hid p1; have P2 := Lib.hid p2; have Q1 := Lib.hid q1; have Q2 := Lib.hid q2; clear hu hv hT p1 p2 q1 q2
  have HXZ := Lib.hid (B6.new w (.bool false) (.slice none 0 0) (I 0) (.bool false) (.slice none 0 0) (I 0) 26)
  have HE := Lib.hid (Ext.alloc w (.cells #[.bool false, .slice none 0 0, I 0, .bool false, .slice none 0 0, I 0] 26))
  generalize hWc : w.alloc (.cells #[.bool false, .slice none 0 0, I 0, .bool false, .slice none 0 0, I 0] 26) = W9 at HXZ HE
  go_enter Tryz.func62, Tryz.ntmps62
  go_upto_region 1 with fail
  (try rw [hWc])
  clear hWc
  have hlx := HXZ.out.lt; have hnx := Nat.ne_of_lt hlx
  go_wp2_with (first
    | (have hg := hx2; clear hg; go_at_call 71; (with_reducible refine (least1 (D1.out.ext (by (with_reducible (repeat (first | exact Ext.refl _ | assumption | (refine Ext.toSet ?_ (by omega)) | refine Ext.toAlloc ?_ | refine Ext.toDrew ?_ | refine Ext.toDrewN ?_ | refine Ext.trans ?_ (by assumption)))); (first | done | fail "no"))) (D2.out.ext (by (with_reducible (repeat (first | exact Ext.refl _ | assumption | (refine Ext.toSet ?_ (by omega)) | refine Ext.toAlloc ?_ | refine Ext.toDrew ?_ | refine Ext.toDrewN ?_ | refine Ext.trans ?_ (by assumption)))); (first | done | fail "no"))) (HT.out.ext (HE.out.trans (by (with_reducible (repeat (first | exact Ext.refl _ | assumption | (refine Ext.toSet ?_ (by omega)) | refine Ext.toAlloc ?_ | refine Ext.toDrew ?_ | refine Ext.toDrewN ?_ | refine Ext.trans ?_ (by assumption)))); (first | done | fail "no")))) (St.new _ _ _ _ _)).mono ?_); rintro e1 w3 ⟨A3, c3, B3, k3, rfl, hfa, hfb, hx3⟩; have FA := Lib.hid hfa; have FB := Lib.hid hfb; clear hfa hfb; obtain ⟨⟨r0, r1, r2, r3, r4, r5⟩, rz⟩ := HXZ.out.ext (w' := w3) (by (with_reducible (repeat (first | exact Ext.refl _ | assumption | (refine Ext.toSet ?_ (by omega)) | refine Ext.toAlloc ?_ | refine Ext.toDrew ?_ | refine Ext.toDrewN ?_ | refine Ext.trans ?_ (by assumption)))); (first | done | fail "no")))
    | (have hg := hx1; clear hg; go_at_call 65; (with_reducible refine (of_any q _ (HT.out.ext (HE.out.trans (by (with_reducible (repeat (first | exact Ext.refl _ | assumption | (refine Ext.toSet ?_ (by omega)) | refine Ext.toAlloc ?_ | refine Ext.toDrew ?_ | refine Ext.toDrewN ?_ | refine Ext.trans ?_ (by assumption)))); (first | done | fail "no")))) Q1.out Q2.out).mono ?_); rw [Ev.out]; rintro e1 w2 ⟨A2, c2, rfl, hon, hx2⟩; have D2 := Lib.hid (Dy.of_on hon Wv.out.1 Wv.out.2 (Ext.refl _)); clear hon)
    | (go_at_call 65; (with_reducible refine (of_any p _ (HT.out.ext (HE.out.trans (by (with_reducible (repeat (first | exact Ext.refl _ | assumption | (refine Ext.toSet ?_ (by omega)) | refine Ext.toAlloc ?_ | refine Ext.toDrew ?_ | refine Ext.toDrewN ?_ | refine Ext.trans ?_ (by assumption)))); (first | done | fail "no")))) P1.out P2.out).mono ?_); rw [Eu.out]; rintro e1 w1 ⟨A1, c1, rfl, hon, hx1⟩; have D1 := Lib.hid (Dy.of_on hon Wu.out.1 Wu.out.2 (Ext.refl _)); clear hon))
  have HF := Lib.hid (HE.out.trans (show Ext W9 w3 from (by (with_reducible (repeat (first | exact Ext.refl _ | assumption | (refine Ext.toSet ?_ (by omega)) | refine Ext.toAlloc ?_ | refine Ext.toDrew ?_ | refine Ext.toDrewN ?_ | refine Ext.trans ?_ (by assumption)))); (first | done | fail "no"))))
  have hz2 := Ext.size (show Ext W9 w2 from (by (with_reducible (repeat (first | exact Ext.refl _ | assumption | (refine Ext.toSet ?_ (by omega)) | refine Ext.toAlloc ?_ | refine Ext.toDrew ?_ | refine Ext.toDrewN ?_ | refine Ext.trans ?_ (by assumption)))); (first | done | fail "no")))
  exact bodyPost_ret (v := ivd (lo2 u v) A3 c3 (hi2 u v) B3 k3) (by simp [results, Tryz.results62, go_sem, r0, r1, r2, r3, r4, r5]) rfl (IvRes.end6 rfl FA.out FB.out HF.out (by omega) (by (try simp); omega) (by (try simp); omega))
end Go.Proofs.YtcdkkohklhmpgaaGreatDoor
