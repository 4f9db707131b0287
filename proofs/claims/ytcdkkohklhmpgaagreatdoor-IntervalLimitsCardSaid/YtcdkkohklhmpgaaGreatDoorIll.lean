/- Clip, in the code and in the reference (written by gil.py). -/
import Derived.Test.YtcdkkohklhmpgaaGreatDoorIrop
import Derived.Test.YtcdkkohklhmpgaaGreatDoorIvmx
import Derived.Deep.RegionHeld3
import Derived.Deep.DeepCutAuto
import Derived.Test.YtcdkkohklhmpgaaGreatDoorIvcd
import Derived.Test.YtcdkkohklhmpgaaGreatDoorDyat
import Derived.Test.YtcdkkohklhmpgaaGreatDoorDyl
import Derived.Test.YtcdkkohklhmpgaaGreatDoorRefmo
import Derived.Test.YtcdkkohklhmpgaaGreatDoorRefh
import Derived.Test.YtcdkkohklhmpgaaGreatDoorMref
import Derived.Test.YtcdkkohklhmpgaaGreatDoorLawo
import Derived.Test.YtcdkkohklhmpgaaGreatDoorIvmk
import Derived.Test.YtcdkkohklhmpgaaGreatDoorIrms
import Derived.Test.YtcdkkohklhmpgaaGreatDoorIvab
namespace Go.Proofs.YtcdkkohklhmpgaaGreatDoor

/-! ### Ilcl -/
section
open Go.RowKit
attribute [local go_sem ↓] Go.wp_at_zero Go.wp_at_succ

theorem lo2_id {u v : DV} (hu : u.ok) (hv : v.ok) (h : u.q ≤ v.q) : lo2 u v = u := DV.uniq (lo2_ok hu hv) hu (by show (minD u v).q = _; rw [q_min hu hv]; unfold mnQ; grind)
theorem hi2_id {u v : DV} (hu : u.ok) (hv : v.ok) (h : u.q ≤ v.q) : hi2 u v = v := DV.uniq (hi2_ok hu hv) hv (by show (maxD u v).q = _; rw [q_max hu hv]; unfold mxQ; grind)
theorem min_mono {a b x y : DV} (ha : a.ok) (hb : b.ok) (hx : x.ok) (hy : y.ok) (h : a.q ≤ b.q) (k : x.q ≤ y.q) : (minD a x).q ≤ (minD b y).q := by rw [q_min ha hx, q_min hb hy]; unfold mnQ; grind
theorem max_mono {a b x y : DV} (ha : a.ok) (hb : b.ok) (hx : x.ok) (hy : y.ok) (h : a.q ≤ b.q) (k : x.q ≤ y.q) : (maxD a x).q ≤ (maxD b y).q := by rw [q_max ha hx, q_max hb hy]; unfold mxQ; grind
/-- n, moved into a range. -/
def clD (a z u : DV) : DV := minD (maxD a z) u
theorem cl_ref {a z u : DV} (ha : a.ok) (hz : z.ok) (hu : u.ok) (h : ¬ 0 < cmpD z u) : maxD z (minD u a) = clD a z u := by
  have m1 := maxD_ok ha hz; have m2 := minD_ok hu ha
  have hq : z.q ≤ u.q := by have := sgn_ngt (by rw [← cmpD_sgn hz hu]; exact h); grind
  refine DV.uniq (maxD_ok hz m2) (minD_ok m1 hu) ?_
  show (maxD z (minD u a)).q = (minD (maxD a z) u).q
  rw [q_max hz m2, q_min hu ha, q_min m1 hu, q_max ha hz]; unfold mnQ mxQ; grind
theorem cell_far6 {w : World} {g g' i : Nat} {v : Value} (hv : w.cell? ⟨g, i, none⟩ = some v) (hne : g' ≠ g) (u0 u1 u2 u3 u4 u5 : Value) : ((((((w.setCell ⟨g', 0, none⟩ u0).setCell ⟨g', 1, none⟩ u1).setCell ⟨g', 2, none⟩ u2).setCell ⟨g', 3, none⟩ u3).setCell ⟨g', 4, none⟩ u4).setCell ⟨g', 5, none⟩ u5).cell? ⟨g, i, none⟩ = some v := by
  rw [World.cell?_setCell_other _ _ _ _ (by intro e; injection e with e; exact hne e), World.cell?_setCell_other _ _ _ _ (by intro e; injection e with e; exact hne e), World.cell?_setCell_other _ _ _ _ (by intro e; injection e with e; exact hne e), World.cell?_setCell_other _ _ _ _ (by intro e; injection e with e; exact hne e), World.cell?_setCell_other _ _ _ _ (by intro e; injection e with e; exact hne e), World.cell?_setCell_other _ _ _ _ (by intro e; injection e with e; exact hne e)]
  exact hv
theorem clip_boxes (w : World) (n1 n2 n3 n4 : Bool) (A B X Y : Option Addr) (k c m e p q r s : Nat) (d1 d2 d3 d4 : Int) :
    let W := (((w.alloc (.cells #[.bool n1, .slice A k c, I d1, .bool n2, .slice B m e, I d2] 26)).alloc (.cells #[.bool n3, .slice X p q, I d3] 24)).alloc (.cells #[.bool n4, .slice Y r s, I d4] 24)).alloc (.cells #[.bool false, .slice none 0 0, I 0, .bool false, .slice none 0 0, I 0] 26)
    B6 W w.heap.size (.bool n1) (.slice A k c) (I d1) (.bool n2) (.slice B m e) (I d2) ∧ St W (w.heap.size + 1) (.bool n3) (.slice X p q) (I d3) ∧ St W (w.heap.size + 1 + 1) (.bool n4) (.slice Y r s) (I d4) ∧ B6 W (w.heap.size + 1 + 1 + 1) (.bool false) (.slice none 0 0) (I 0) (.bool false) (.slice none 0 0) (I 0) ∧ Ext w W := by
  have s1 := (((B6.new w (.bool n1) (.slice A k c) (I d1) (.bool n2) (.slice B m e) (I d2) 26).ext (Ext.alloc _ (.cells #[.bool n3, .slice X p q, I d3] 24))).ext (Ext.alloc _ (.cells #[.bool n4, .slice Y r s, I d4] 24))).ext (Ext.alloc _ (.cells #[.bool false, .slice none 0 0, I 0, .bool false, .slice none 0 0, I 0] 26))
  have s2 := ((St.new (w.alloc (.cells #[.bool n1, .slice A k c, I d1, .bool n2, .slice B m e, I d2] 26)) (.bool n3) (.slice X p q) (I d3) 24).ext (Ext.alloc _ (.cells #[.bool n4, .slice Y r s, I d4] 24))).ext (Ext.alloc _ (.cells #[.bool false, .slice none 0 0, I 0, .bool false, .slice none 0 0, I 0] 26))
  have s3 := (St.new ((w.alloc (.cells #[.bool n1, .slice A k c, I d1, .bool n2, .slice B m e, I d2] 26)).alloc (.cells #[.bool n3, .slice X p q, I d3] 24)) (.bool n4) (.slice Y r s) (I d4) 24).ext (Ext.alloc _ (.cells #[.bool false, .slice none 0 0, I 0, .bool false, .slice none 0 0, I 0] 26))
  have s4 := B6.new (((w.alloc (.cells #[.bool n1, .slice A k c, I d1, .bool n2, .slice B m e, I d2] 26)).alloc (.cells #[.bool n3, .slice X p q, I d3] 24)).alloc (.cells #[.bool n4, .slice Y r s, I d4] 24)) (.bool false) (.slice none 0 0) (I 0) (.bool false) (.slice none 0 0) (I 0) 26
  simp only [World.size_alloc] at s2 s3 s4
  exact ⟨s1, s2, s3, s4, (((Ext.alloc _ _).trans (Ext.alloc _ _)).trans (Ext.alloc _ _)).trans (Ext.alloc _ _)⟩


set_option maxRecDepth 100000 in
set_option maxHeartbeats 4000000 in
theorem iclip_err {w : World} {n1 n2 : Bool} {A B : Option Addr} {k c m e : Nat} {d1 d2 : Int} {n3 n4 : Bool} {X Y X' Y' : Option Addr} {p q r s q' s' : Nat} {d3 d4 : Int} {z u : DV}  (hz : Dy w n3 X p q d3 z X' q') (hu : Dy w n4 Y r s d4 u Y' s') (ez : End z) (eu : End u) (hc : 0 < cmpD z u) :
    Calls Tryz.prog 16 #[iv n1 A k c d1 n2 B m e d2, dv n3 X p q d3, dv n4 Y r s d4] w (IvErr 3 w) := by
  obtain ⟨v, hv⟩ : ∃ v, cmpD z u = v := ⟨_, rfl⟩
  rw [hv] at hc
  have EV := Lib.hid hv; clear hv
  have SB := Lib.hid (bd_sub (bd_end ez) (bd_end eu))
  have HZ := Lib.hid hz; have HU := Lib.hid hu; clear hz hu ez eu
  obtain ⟨X0, X1, X2, XZ, XE⟩ := clip_boxes w n1 n2 n3 n4 A B X Y k c m e p q r s d1 d2 d3 d4
  have HX0 := Lib.hid X0; have HX1 := Lib.hid X1; have HX2 := Lib.hid X2; have HXZ := Lib.hid XZ; have HE := Lib.hid XE
  obtain ⟨a0, a1, a2⟩ := X1
  obtain ⟨b0, b1, b2⟩ := X2
  clear X0 XZ XE
  generalize hWc : (((w.alloc (.cells #[.bool n1, .slice A k c, I d1, .bool n2, .slice B m e, I d2] 26)).alloc (.cells #[.bool n3, .slice X p q, I d3] 24)).alloc (.cells #[.bool n4, .slice Y r s, I d4] 24)).alloc (.cells #[.bool false, .slice none 0 0, I 0, .bool false, .slice none 0 0, I 0] 26) = wc at *
  go_enter Tryz.func16, Tryz.ntmps16
  go_upto_region 1 with fail
  (try rw [hWc])
  clear hWc
  go_wp2_with (go_at_call 31; (with_reducible refine (cmp_any (HZ.out.ext HE.out) (HU.out.ext HE.out)).mono ?_); rw [EV.out]; rintro e1 w1 ⟨rfl, hx⟩; have HY := Lib.hid (HE.out.trans hx); obtain ⟨⟨r0, r1, r2, r3, r4, r5⟩, rz⟩ := HXZ.out.ext hx; have lr := (HXZ.out.ext hx).lt; clear hx a0 a1 a2 b0 b1 b2)
  exact bodyPost_ret (v := .tuple #[iv false none 0 0 0 false none 0 0 0, .iface 61 (I 3)]) (by simp [results, Tryz.results16, go_sem, r0, r1, r2, r3, r4, r5]) rfl ⟨rfl, ext_set6 HY.out (by omega) _ _ _ _ _ _⟩

set_option maxRecDepth 100000 in
set_option maxHeartbeats 4000000 in
theorem iclip_ok {w : World} {n1 n2 : Bool} {A B A' B' : Option Addr} {k c m e c' e' : Nat} {d1 d2 : Int} {a b : DV} {n3 n4 : Bool} {X Y X' Y' : Option Addr} {p q r s q' s' : Nat} {d3 d4 : Int} {z u : DV} (ha : Iw w n1 A k c d1 n2 B m e d2 a b A' c' B' e') (hz : Dy w n3 X p q d3 z X' q') (hu : Dy w n4 Y r s d4 u Y' s') (ez : End z) (eu : End u) (hT : Tabs w) (hc : ¬ 0 < cmpD z u) :
    Calls Tryz.prog 16 #[iv n1 A k c d1 n2 B m e d2, dv n3 X p q d3, dv n4 Y r s d4] w (IvOk (clD a z u) (clD b z u) w) := by
  obtain ⟨v, hv⟩ : ∃ v, cmpD z u = v := ⟨_, rfl⟩
  rw [hv] at hc
  have EV := Lib.hid hv; clear hv
  have SB := Lib.hid (bd_sub (bd_end ez) (bd_end eu))
  have m1 := maxD_ok ha.wa.1 ez.1; have m2 := maxD_ok ha.wb.1 ez.1
  have q1 := max_mono ha.wa.1 ha.wb.1 ez.1 ez.1 ha.le (by grind : z.q ≤ z.q)
  have E1 := sz_max (P := End) ha.wa ez; have E2 := sz_max (P := End) ha.wb ez
  have C1 : Hid (lo2 (maxD a z) (maxD b z) = maxD a z ∧ hi2 (maxD a z) (maxD b z) = maxD b z) := ⟨lo2_id m1 m2 q1, hi2_id m1 m2 q1⟩
  have n1' := minD_ok m1 eu.1; have n2' := minD_ok m2 eu.1
  have q2 := min_mono m1 m2 eu.1 eu.1 q1 (by grind : u.q ≤ u.q)
  have C2 : Hid (lo2 (minD (maxD a z) u) (minD (maxD b z) u) = clD a z u ∧ hi2 (minD (maxD a z) u) (minD (maxD b z) u) = clD b z u) := ⟨lo2_id n1' n2' q2, hi2_id n1' n2' q2⟩
  have I1 : Hid (∀ w' A c B e, Fr w' 0 A (len (maxD a z).m) c (dg (maxD a z).m) → Fr w' 0 B (len (maxD b z).m) e (dg (maxD b z).m) → Iw w' (maxD a z).neg A (len (maxD a z).m) c (maxD a z).den (maxD b z).neg B (len (maxD b z).m) e (maxD b z).den (maxD a z) (maxD b z) A c B e) := fun w' A c B e fa fb => iv_ok fa.rd fa.ok E1 fb.rd fb.ok E2 q1
  have I2 : Hid (∀ (t : DV) w' A c B e, End t → Fr w' 0 A (len t.m) c (dg t.m) → Fr w' 0 B (len t.m) e (dg t.m) → Iw w' t.neg A (len t.m) c t.den t.neg B (len t.m) e t.den t t A c B e) := fun t w' A c B e et fa fb => iv_ok fa.rd fa.ok et fb.rd fb.ok et (by grind)
  have EZ := Lib.hid ez; have EU := Lib.hid eu
  clear m1 m2 q1 E1 E2 n1' n2' q2
  obtain ⟨L, hL⟩ : ∃ L, clD a z u = L := ⟨_, rfl⟩; obtain ⟨H, hH⟩ : ∃ H, clD b z u = H := ⟨_, rfl⟩
  rw [hL, hH] at C2 ⊢
  clear hL hH
  have HZ := Lib.hid hz; have HU := Lib.hid hu; have HA := Lib.hid ha; have HT := Lib.hid hT; clear hz hu ha ez eu hT
  obtain ⟨X0, X1, X2, XZ, XE⟩ := clip_boxes w n1 n2 n3 n4 A B X Y k c m e p q r s d1 d2 d3 d4
  have HX0 := Lib.hid X0; have HX1 := Lib.hid X1; have HX2 := Lib.hid X2; have HXZ := Lib.hid XZ; have HE := Lib.hid XE
  obtain ⟨a0, a1, a2⟩ := X1
  obtain ⟨b0, b1, b2⟩ := X2
  clear X0 XZ XE
  generalize hWc : (((w.alloc (.cells #[.bool n1, .slice A k c, I d1, .bool n2, .slice B m e, I d2] 26)).alloc (.cells #[.bool n3, .slice X p q, I d3] 24)).alloc (.cells #[.bool n4, .slice Y r s, I d4] 24)).alloc (.cells #[.bool false, .slice none 0 0, I 0, .bool false, .slice none 0 0, I 0] 26) = wc at *
  go_enter Tryz.func16, Tryz.ntmps16
  go_upto_region 1 with fail
  (try rw [hWc])
  clear hWc
  go_wp2_with (go_at_call 31; (with_reducible refine (cmp_any (HZ.out.ext HE.out) (HU.out.ext HE.out)).mono ?_); rw [EV.out]; rintro e1 w1 ⟨rfl, hx⟩; have HE1 := Lib.hid (HE.out.trans hx); have HXZ1 := Lib.hid (HXZ.out.ext hx); have HXA := Lib.hid (HX0.out.ext hx); have HXL := Lib.hid (HX1.out.ext hx); have HXH := Lib.hid (HX2.out.ext hx); clear hx a0 a1 a2 b0 b1 b2)
  clear HX0 HX1 HX2 HXZ HE
  have lr := HXZ1.out.lt
  have HS : Hid (∀ w', Ext w1 w' → w'.cell? ⟨w.heap.size, 0, none⟩ = some (.bool n1) ∧ w'.cell? ⟨w.heap.size, 1, none⟩ = some (.slice A k c) ∧ w'.cell? ⟨w.heap.size, 2, none⟩ = some (I d1) ∧ w'.cell? ⟨w.heap.size, 3, none⟩ = some (.bool n2) ∧ w'.cell? ⟨w.heap.size, 4, none⟩ = some (.slice B m e) ∧ w'.cell? ⟨w.heap.size, 5, none⟩ = some (I d2) ∧ w'.cell? ⟨w.heap.size + 1, 0, none⟩ = some (.bool n3) ∧ w'.cell? ⟨w.heap.size + 1, 1, none⟩ = some (.slice X p q) ∧ w'.cell? ⟨w.heap.size + 1, 2, none⟩ = some (I d3) ∧ w'.cell? ⟨w.heap.size + 1 + 1, 0, none⟩ = some (.bool n4) ∧ w'.cell? ⟨w.heap.size + 1 + 1, 1, none⟩ = some (.slice Y r s) ∧ w'.cell? ⟨w.heap.size + 1 + 1, 2, none⟩ = some (I d4)) := fun w' e => by
    obtain ⟨⟨i0, i1, i2, i3, i4, i5⟩, iz⟩ := HXA.out.ext e
    obtain ⟨j0, j1, j2⟩ := HXL.out.ext e
    obtain ⟨l0, l1, l2⟩ := HXH.out.ext e
    exact ⟨i0, i1, i2, i3, i4, i5, j0, j1, j2, l0, l1, l2⟩
  have HS2 : Hid (∀ w0 u0 u1 u2 u3 u4 u5, Ext w1 w0 → ((((((w0.setCell ⟨w.heap.size + 1 + 1 + 1, 0, none⟩ u0).setCell ⟨w.heap.size + 1 + 1 + 1, 1, none⟩ u1).setCell ⟨w.heap.size + 1 + 1 + 1, 2, none⟩ u2).setCell ⟨w.heap.size + 1 + 1 + 1, 3, none⟩ u3).setCell ⟨w.heap.size + 1 + 1 + 1, 4, none⟩ u4).setCell ⟨w.heap.size + 1 + 1 + 1, 5, none⟩ u5).cell? ⟨w.heap.size, 0, none⟩ = some (.bool n1) ∧ ((((((w0.setCell ⟨w.heap.size + 1 + 1 + 1, 0, none⟩ u0).setCell ⟨w.heap.size + 1 + 1 + 1, 1, none⟩ u1).setCell ⟨w.heap.size + 1 + 1 + 1, 2, none⟩ u2).setCell ⟨w.heap.size + 1 + 1 + 1, 3, none⟩ u3).setCell ⟨w.heap.size + 1 + 1 + 1, 4, none⟩ u4).setCell ⟨w.heap.size + 1 + 1 + 1, 5, none⟩ u5).cell? ⟨w.heap.size, 1, none⟩ = some (.slice A k c) ∧ ((((((w0.setCell ⟨w.heap.size + 1 + 1 + 1, 0, none⟩ u0).setCell ⟨w.heap.size + 1 + 1 + 1, 1, none⟩ u1).setCell ⟨w.heap.size + 1 + 1 + 1, 2, none⟩ u2).setCell ⟨w.heap.size + 1 + 1 + 1, 3, none⟩ u3).setCell ⟨w.heap.size + 1 + 1 + 1, 4, none⟩ u4).setCell ⟨w.heap.size + 1 + 1 + 1, 5, none⟩ u5).cell? ⟨w.heap.size, 2, none⟩ = some (I d1) ∧ ((((((w0.setCell ⟨w.heap.size + 1 + 1 + 1, 0, none⟩ u0).setCell ⟨w.heap.size + 1 + 1 + 1, 1, none⟩ u1).setCell ⟨w.heap.size + 1 + 1 + 1, 2, none⟩ u2).setCell ⟨w.heap.size + 1 + 1 + 1, 3, none⟩ u3).setCell ⟨w.heap.size + 1 + 1 + 1, 4, none⟩ u4).setCell ⟨w.heap.size + 1 + 1 + 1, 5, none⟩ u5).cell? ⟨w.heap.size, 3, none⟩ = some (.bool n2) ∧ ((((((w0.setCell ⟨w.heap.size + 1 + 1 + 1, 0, none⟩ u0).setCell ⟨w.heap.size + 1 + 1 + 1, 1, none⟩ u1).setCell ⟨w.heap.size + 1 + 1 + 1, 2, none⟩ u2).setCell ⟨w.heap.size + 1 + 1 + 1, 3, none⟩ u3).setCell ⟨w.heap.size + 1 + 1 + 1, 4, none⟩ u4).setCell ⟨w.heap.size + 1 + 1 + 1, 5, none⟩ u5).cell? ⟨w.heap.size, 4, none⟩ = some (.slice B m e) ∧ ((((((w0.setCell ⟨w.heap.size + 1 + 1 + 1, 0, none⟩ u0).setCell ⟨w.heap.size + 1 + 1 + 1, 1, none⟩ u1).setCell ⟨w.heap.size + 1 + 1 + 1, 2, none⟩ u2).setCell ⟨w.heap.size + 1 + 1 + 1, 3, none⟩ u3).setCell ⟨w.heap.size + 1 + 1 + 1, 4, none⟩ u4).setCell ⟨w.heap.size + 1 + 1 + 1, 5, none⟩ u5).cell? ⟨w.heap.size, 5, none⟩ = some (I d2) ∧ ((((((w0.setCell ⟨w.heap.size + 1 + 1 + 1, 0, none⟩ u0).setCell ⟨w.heap.size + 1 + 1 + 1, 1, none⟩ u1).setCell ⟨w.heap.size + 1 + 1 + 1, 2, none⟩ u2).setCell ⟨w.heap.size + 1 + 1 + 1, 3, none⟩ u3).setCell ⟨w.heap.size + 1 + 1 + 1, 4, none⟩ u4).setCell ⟨w.heap.size + 1 + 1 + 1, 5, none⟩ u5).cell? ⟨w.heap.size + 1, 0, none⟩ = some (.bool n3) ∧ ((((((w0.setCell ⟨w.heap.size + 1 + 1 + 1, 0, none⟩ u0).setCell ⟨w.heap.size + 1 + 1 + 1, 1, none⟩ u1).setCell ⟨w.heap.size + 1 + 1 + 1, 2, none⟩ u2).setCell ⟨w.heap.size + 1 + 1 + 1, 3, none⟩ u3).setCell ⟨w.heap.size + 1 + 1 + 1, 4, none⟩ u4).setCell ⟨w.heap.size + 1 + 1 + 1, 5, none⟩ u5).cell? ⟨w.heap.size + 1, 1, none⟩ = some (.slice X p q) ∧ ((((((w0.setCell ⟨w.heap.size + 1 + 1 + 1, 0, none⟩ u0).setCell ⟨w.heap.size + 1 + 1 + 1, 1, none⟩ u1).setCell ⟨w.heap.size + 1 + 1 + 1, 2, none⟩ u2).setCell ⟨w.heap.size + 1 + 1 + 1, 3, none⟩ u3).setCell ⟨w.heap.size + 1 + 1 + 1, 4, none⟩ u4).setCell ⟨w.heap.size + 1 + 1 + 1, 5, none⟩ u5).cell? ⟨w.heap.size + 1, 2, none⟩ = some (I d3) ∧ ((((((w0.setCell ⟨w.heap.size + 1 + 1 + 1, 0, none⟩ u0).setCell ⟨w.heap.size + 1 + 1 + 1, 1, none⟩ u1).setCell ⟨w.heap.size + 1 + 1 + 1, 2, none⟩ u2).setCell ⟨w.heap.size + 1 + 1 + 1, 3, none⟩ u3).setCell ⟨w.heap.size + 1 + 1 + 1, 4, none⟩ u4).setCell ⟨w.heap.size + 1 + 1 + 1, 5, none⟩ u5).cell? ⟨w.heap.size + 1 + 1, 0, none⟩ = some (.bool n4) ∧ ((((((w0.setCell ⟨w.heap.size + 1 + 1 + 1, 0, none⟩ u0).setCell ⟨w.heap.size + 1 + 1 + 1, 1, none⟩ u1).setCell ⟨w.heap.size + 1 + 1 + 1, 2, none⟩ u2).setCell ⟨w.heap.size + 1 + 1 + 1, 3, none⟩ u3).setCell ⟨w.heap.size + 1 + 1 + 1, 4, none⟩ u4).setCell ⟨w.heap.size + 1 + 1 + 1, 5, none⟩ u5).cell? ⟨w.heap.size + 1 + 1, 1, none⟩ = some (.slice Y r s) ∧ ((((((w0.setCell ⟨w.heap.size + 1 + 1 + 1, 0, none⟩ u0).setCell ⟨w.heap.size + 1 + 1 + 1, 1, none⟩ u1).setCell ⟨w.heap.size + 1 + 1 + 1, 2, none⟩ u2).setCell ⟨w.heap.size + 1 + 1 + 1, 3, none⟩ u3).setCell ⟨w.heap.size + 1 + 1 + 1, 4, none⟩ u4).setCell ⟨w.heap.size + 1 + 1 + 1, 5, none⟩ u5).cell? ⟨w.heap.size + 1 + 1, 2, none⟩ = some (I d4)) := fun w0 u0 u1 u2 u3 u4 u5 e => by
    obtain ⟨⟨i0, i1, i2, i3, i4, i5⟩, iz⟩ := HXA.out.ext e
    obtain ⟨j0, j1, j2⟩ := HXL.out.ext e
    obtain ⟨l0, l1, l2⟩ := HXH.out.ext e
    exact ⟨cell_far6 i0 (by omega) _ _ _ _ _ _, cell_far6 i1 (by omega) _ _ _ _ _ _, cell_far6 i2 (by omega) _ _ _ _ _ _, cell_far6 i3 (by omega) _ _ _ _ _ _, cell_far6 i4 (by omega) _ _ _ _ _ _, cell_far6 i5 (by omega) _ _ _ _ _ _, cell_far6 j0 (by omega) _ _ _ _ _ _, cell_far6 j1 (by omega) _ _ _ _ _ _, cell_far6 j2 (by omega) _ _ _ _ _ _, cell_far6 l0 (by omega) _ _ _ _ _ _, cell_far6 l1 (by omega) _ _ _ _ _ _, cell_far6 l2 (by omega) _ _ _ _ _ _⟩
  go_wp2_with fail
  go_region_held3 (fun w' => w'.cell? ⟨w.heap.size, 0, none⟩ = some (.bool n1) ∧ w'.cell? ⟨w.heap.size, 1, none⟩ = some (.slice A k c) ∧ w'.cell? ⟨w.heap.size, 2, none⟩ = some (I d1) ∧ w'.cell? ⟨w.heap.size, 3, none⟩ = some (.bool n2) ∧ w'.cell? ⟨w.heap.size, 4, none⟩ = some (.slice B m e) ∧ w'.cell? ⟨w.heap.size, 5, none⟩ = some (I d2) ∧ w'.cell? ⟨w.heap.size + 1, 0, none⟩ = some (.bool n3) ∧ w'.cell? ⟨w.heap.size + 1, 1, none⟩ = some (.slice X p q) ∧ w'.cell? ⟨w.heap.size + 1, 2, none⟩ = some (I d3) ∧ w'.cell? ⟨w.heap.size + 1 + 1, 0, none⟩ = some (.bool n4) ∧ w'.cell? ⟨w.heap.size + 1 + 1, 1, none⟩ = some (.slice Y r s) ∧ w'.cell? ⟨w.heap.size + 1 + 1, 2, none⟩ = some (I d4)) (first | with_reducible assumption | exact HS.out _ (by (with_reducible (repeat (first | exact Ext.refl _ | assumption | (refine Ext.toSet ?_ (by omega)) | refine Ext.toAlloc ?_ | refine Ext.toDrew ?_ | refine Ext.toDrewN ?_ | refine Ext.trans ?_ (by assumption)))); (first | done | fail "no")) | exact HS2.out _ _ _ _ _ _ _ (by (with_reducible (repeat (first | exact Ext.refl _ | assumption | (refine Ext.toSet ?_ (by omega)) | refine Ext.toAlloc ?_ | refine Ext.toDrew ?_ | refine Ext.toDrewN ?_ | refine Ext.trans ?_ (by assumption)))); (first | done | fail "no")))
    (first
      | (have hg := hx3; clear hg; go_at_call 73; (with_reducible refine (imin_any (NI.out.ext (by (with_reducible (repeat (first | exact Ext.refl _ | assumption | (refine Ext.toSet ?_ (by omega)) | refine Ext.toAlloc ?_ | refine Ext.toDrew ?_ | refine Ext.toDrewN ?_ | refine Ext.trans ?_ (by assumption)))); (first | done | fail "no"))) (PU.out.ext (by (with_reducible (repeat (first | exact Ext.refl _ | assumption | (refine Ext.toSet ?_ (by omega)) | refine Ext.toAlloc ?_ | refine Ext.toDrew ?_ | refine Ext.toDrewN ?_ | refine Ext.trans ?_ (by assumption)))); (first | done | fail "no"))) (HT.out.ext (HE1.out.trans (by (with_reducible (repeat (first | exact Ext.refl _ | assumption | (refine Ext.toSet ?_ (by omega)) | refine Ext.toAlloc ?_ | refine Ext.toDrew ?_ | refine Ext.toDrewN ?_ | refine Ext.trans ?_ (by assumption)))); (first | done | fail "no"))))).mono ?_); rw [C2.out.1, C2.out.2]; rintro e1 w5 ⟨P5, f5, Q5, g5, rfl, hfa, hfb, hx4⟩; have FA := Lib.hid hfa; have FB := Lib.hid hfb; clear hfa hfb; obtain ⟨⟨r0, r1, r2, r3, r4, r5⟩, rz⟩ := HXZ1.out.ext (w' := w5) (by (with_reducible (repeat (first | exact Ext.refl _ | assumption | (refine Ext.toSet ?_ (by omega)) | refine Ext.toAlloc ?_ | refine Ext.toDrew ?_ | refine Ext.toDrewN ?_ | refine Ext.trans ?_ (by assumption)))); (first | done | fail "no")))
      | (have hg := hx2; clear hg; go_at_call 75; (with_reducible refine (ipoint_any (HU.out.ext (HE1.out.trans (by (with_reducible (repeat (first | exact Ext.refl _ | assumption | (refine Ext.toSet ?_ (by omega)) | refine Ext.toAlloc ?_ | refine Ext.toDrew ?_ | refine Ext.toDrewN ?_ | refine Ext.trans ?_ (by assumption)))); (first | done | fail "no")))) (HT.out.ext (HE1.out.trans (by (with_reducible (repeat (first | exact Ext.refl _ | assumption | (refine Ext.toSet ?_ (by omega)) | refine Ext.toAlloc ?_ | refine Ext.toDrew ?_ | refine Ext.toDrewN ?_ | refine Ext.trans ?_ (by assumption)))); (first | done | fail "no"))))).mono ?_); rintro e1 w4 ⟨P4, f4, Q4, g4, rfl, hfa, hfb, hx3⟩; have PU := Lib.hid (I2.out _ _ _ _ _ _ EU.out (hfa.mono (Nat.zero_le _)) (hfb.mono (Nat.zero_le _))); clear hfa hfb)
      | (have hg := hx1; clear hg; go_at_call 74; (with_reducible refine (imax_any (HA.out.ext (HE1.out.trans (by (with_reducible (repeat (first | exact Ext.refl _ | assumption | (refine Ext.toSet ?_ (by omega)) | refine Ext.toAlloc ?_ | refine Ext.toDrew ?_ | refine Ext.toDrewN ?_ | refine Ext.trans ?_ (by assumption)))); (first | done | fail "no")))) (PZ.out.ext (by (with_reducible (repeat (first | exact Ext.refl _ | assumption | (refine Ext.toSet ?_ (by omega)) | refine Ext.toAlloc ?_ | refine Ext.toDrew ?_ | refine Ext.toDrewN ?_ | refine Ext.trans ?_ (by assumption)))); (first | done | fail "no"))) (HT.out.ext (HE1.out.trans (by (with_reducible (repeat (first | exact Ext.refl _ | assumption | (refine Ext.toSet ?_ (by omega)) | refine Ext.toAlloc ?_ | refine Ext.toDrew ?_ | refine Ext.toDrewN ?_ | refine Ext.trans ?_ (by assumption)))); (first | done | fail "no"))))).mono ?_); rw [C1.out.1, C1.out.2]; rintro e1 w3 ⟨P3, f3, Q3, g3, rfl, hfa, hfb, hx2⟩; have NI := Lib.hid (I1.out _ _ _ _ _ (hfa.mono (Nat.zero_le _)) (hfb.mono (Nat.zero_le _))); clear hfa hfb)
      | (go_at_call 75; (with_reducible refine (ipoint_any (HZ.out.ext (HE1.out.trans (by (with_reducible (repeat (first | exact Ext.refl _ | assumption | (refine Ext.toSet ?_ (by omega)) | refine Ext.toAlloc ?_ | refine Ext.toDrew ?_ | refine Ext.toDrewN ?_ | refine Ext.trans ?_ (by assumption)))); (first | done | fail "no")))) (HT.out.ext (HE1.out.trans (by (with_reducible (repeat (first | exact Ext.refl _ | assumption | (refine Ext.toSet ?_ (by omega)) | refine Ext.toAlloc ?_ | refine Ext.toDrew ?_ | refine Ext.toDrewN ?_ | refine Ext.trans ?_ (by assumption)))); (first | done | fail "no"))))).mono ?_); rintro e1 w2 ⟨P2, f2, Q2, g2, rfl, hfa, hfb, hx1⟩; have PZ := Lib.hid (I2.out _ _ _ _ _ _ EZ.out (hfa.mono (Nat.zero_le _)) (hfb.mono (Nat.zero_le _))); clear hfa hfb))
  all_goals
    have HF := Lib.hid (HE1.out.trans (show Ext w1 w5 from (by (with_reducible (repeat (first | exact Ext.refl _ | assumption | (refine Ext.toSet ?_ (by omega)) | refine Ext.toAlloc ?_ | refine Ext.toDrew ?_ | refine Ext.toDrewN ?_ | refine Ext.trans ?_ (by assumption)))); (first | done | fail "no"))))
    have hz2 := Ext.size (show Ext w1 w4 from (by (with_reducible (repeat (first | exact Ext.refl _ | assumption | (refine Ext.toSet ?_ (by omega)) | refine Ext.toAlloc ?_ | refine Ext.toDrew ?_ | refine Ext.toDrewN ?_ | refine Ext.trans ?_ (by assumption)))); (first | done | fail "no")))
    have fa := FA.out; have fb := FB.out
    (try simp only [World.size_drew] at fa fb hz2)
    go_wp2_with fail
    exact bodyPost_ret (v := .tuple #[ivd L P5 f5 H Q5 g5, .nilIface]) (by simp [results, Tryz.results16, go_sem, r0, r1, r2, r3, r4, r5]) rfl (IvOk.end6 rfl fa fb HF.out (by omega) (by (try simp); omega) (by (try simp); omega))


set_option maxRecDepth 100000 in
set_option maxHeartbeats 4000000 in
theorem riclip_err {w : World} {n1 n2 : Bool} {A B : Option Addr} {k c m e : Nat} {d1 d2 : Int} {n3 n4 : Bool} {X Y X' Y' : Option Addr} {p q r s q' s' : Nat} {d3 d4 : Int} {z u : DV}  (hz : Dy w n3 X p q d3 z X' q') (hu : Dy w n4 Y r s d4 u Y' s') (ez : End z) (eu : End u) (hc : 0 < cmpD z u) :
    Calls Tryz.prog 20 #[iv n1 A k c d1 n2 B m e d2, dv n3 X p q d3, dv n4 Y r s d4] w (RvErr 3 w) := by
  obtain ⟨v, hv⟩ : ∃ v, cmpD z u = v := ⟨_, rfl⟩
  rw [hv] at hc
  have EV := Lib.hid hv; clear hv
  have SB := Lib.hid (bd_sub (bd_end ez) (bd_end eu))
  have HZ := Lib.hid hz; have HU := Lib.hid hu; clear hz hu ez eu
  obtain ⟨X0, X1, X2, XZ, XE⟩ := clip_boxes w n1 n2 n3 n4 A B X Y k c m e p q r s d1 d2 d3 d4
  have HX0 := Lib.hid X0; have HX1 := Lib.hid X1; have HX2 := Lib.hid X2; have HXZ := Lib.hid XZ; have HE := Lib.hid XE
  obtain ⟨a0, a1, a2⟩ := X1
  obtain ⟨b0, b1, b2⟩ := X2
  clear X0 XZ XE
  generalize hWc : (((w.alloc (.cells #[.bool n1, .slice A k c, I d1, .bool n2, .slice B m e, I d2] 26)).alloc (.cells #[.bool n3, .slice X p q, I d3] 24)).alloc (.cells #[.bool n4, .slice Y r s, I d4] 24)).alloc (.cells #[.bool false, .slice none 0 0, I 0, .bool false, .slice none 0 0, I 0] 26) = wc at *
  go_enter Tryz.func20, Tryz.ntmps20
  go_upto_region 1 with fail
  (try rw [hWc])
  clear hWc
  go_wp2_with (go_at_call 81; (with_reducible refine (rdcmp_any (HZ.out.ext HE.out) (HU.out.ext HE.out) SB.out.1 SB.out.2).mono ?_); rw [EV.out]; rintro e1 w1 ⟨rfl, hx⟩; have HY := Lib.hid (HE.out.trans hx); obtain ⟨⟨r0, r1, r2, r3, r4, r5⟩, rz⟩ := HXZ.out.ext hx; have lr := (HXZ.out.ext hx).lt; clear hx a0 a1 a2 b0 b1 b2)
  exact bodyPost_ret (v := .tuple #[iv false none 0 0 0 false none 0 0 0, I 3]) (by simp [results, Tryz.results20, go_sem, r0, r1, r2, r3, r4, r5]) rfl ⟨rfl, ext_set6 HY.out (by omega) _ _ _ _ _ _⟩

set_option maxRecDepth 100000 in
set_option maxHeartbeats 4000000 in
theorem riclip_ok {w : World} {n1 n2 : Bool} {A B A' B' : Option Addr} {k c m e c' e' : Nat} {d1 d2 : Int} {a b : DV} {n3 n4 : Bool} {X Y X' Y' : Option Addr} {p q r s q' s' : Nat} {d3 d4 : Int} {z u : DV} (ha : Iw w n1 A k c d1 n2 B m e d2 a b A' c' B' e') (hz : Dy w n3 X p q d3 z X' q') (hu : Dy w n4 Y r s d4 u Y' s') (ez : End z) (eu : End u) (hc : ¬ 0 < cmpD z u) :
    Calls Tryz.prog 20 #[iv n1 A k c d1 n2 B m e d2, dv n3 X p q d3, dv n4 Y r s d4] w (RvOk (clD a z u) (clD b z u) w) := by
  obtain ⟨v, hv⟩ : ∃ v, cmpD z u = v := ⟨_, rfl⟩
  rw [hv] at hc
  have EV := Lib.hid hv; clear hv
  have SB := Lib.hid (bd_sub (bd_end ez) (bd_end eu))
  have C1 : Hid (maxD z (minD u a) = clD a z u ∧ maxD z (minD u b) = clD b z u) := ⟨cl_ref ha.wa.1 ez.1 eu.1 (by rw [EV.out]; exact hc), cl_ref ha.wb.1 ez.1 eu.1 (by rw [EV.out]; exact hc)⟩
  have I1 : Hid (∀ w' A c B e, Fr w' 0 A (len (minD u a).m) c (dg (minD u a).m) → Fr w' 0 B (len (minD u b).m) e (dg (minD u b).m) → Iw w' (minD u a).neg A (len (minD u a).m) c (minD u a).den (minD u b).neg B (len (minD u b).m) e (minD u b).den (minD u a) (minD u b) A c B e) := fun w' A c B e fa fb => iv_ok fa.rd fa.ok (sz_min (P := End) eu ha.wa) fb.rd fb.ok (sz_min (P := End) eu ha.wb) (min_mono eu.1 eu.1 ha.wa.1 ha.wb.1 (by grind) ha.le)
  have PZ : Hid (∀ w', Ext w w' → Iw w' z.neg X' (len z.m) q' z.den z.neg X' (len z.m) q' z.den z z X' q' X' q') := fun w' e => iv_ok (hz.rd.ext e) hz.sl ez (hz.rd.ext e) hz.sl ez (by grind)
  have PU : Hid (∀ w', Ext w w' → Iw w' u.neg Y' (len u.m) s' u.den u.neg Y' (len u.m) s' u.den u u Y' s' Y' s') := fun w' e => iv_ok (hu.rd.ext e) hu.sl eu (hu.rd.ext e) hu.sl eu (by grind)
  obtain ⟨L, hL⟩ : ∃ L, clD a z u = L := ⟨_, rfl⟩; obtain ⟨H, hH⟩ : ∃ H, clD b z u = H := ⟨_, rfl⟩
  rw [hL, hH] at C1 ⊢
  clear hL hH
  have HZ := Lib.hid hz; have HU := Lib.hid hu; have HA := Lib.hid ha; clear hz hu ha ez eu
  obtain ⟨X0, X1, X2, XZ, XE⟩ := clip_boxes w n1 n2 n3 n4 A B X Y k c m e p q r s d1 d2 d3 d4
  have HX0 := Lib.hid X0; have HX1 := Lib.hid X1; have HX2 := Lib.hid X2; have HXZ := Lib.hid XZ; have HE := Lib.hid XE
  obtain ⟨a0, a1, a2⟩ := X1
  obtain ⟨b0, b1, b2⟩ := X2
  clear X0 XZ XE
  generalize hWc : (((w.alloc (.cells #[.bool n1, .slice A k c, I d1, .bool n2, .slice B m e, I d2] 26)).alloc (.cells #[.bool n3, .slice X p q, I d3] 24)).alloc (.cells #[.bool n4, .slice Y r s, I d4] 24)).alloc (.cells #[.bool false, .slice none 0 0, I 0, .bool false, .slice none 0 0, I 0] 26) = wc at *
  go_enter Tryz.func20, Tryz.ntmps20
  go_upto_region 1 with fail
  (try rw [hWc])
  clear hWc
  go_wp2_with (go_at_call 81; (with_reducible refine (rdcmp_any (HZ.out.ext HE.out) (HU.out.ext HE.out) SB.out.1 SB.out.2).mono ?_); rw [EV.out]; rintro e1 w1 ⟨rfl, hx⟩; have HE1 := Lib.hid (HE.out.trans hx); have HXZ1 := Lib.hid (HXZ.out.ext hx); have HXA := Lib.hid (HX0.out.ext hx); have HXL := Lib.hid (HX1.out.ext hx); have HXH := Lib.hid (HX2.out.ext hx); clear hx a0 a1 a2 b0 b1 b2)
  clear HX0 HX1 HX2 HXZ HE
  have lr := HXZ1.out.lt
  have HS : Hid (∀ w', Ext w1 w' → w'.cell? ⟨w.heap.size, 0, none⟩ = some (.bool n1) ∧ w'.cell? ⟨w.heap.size, 1, none⟩ = some (.slice A k c) ∧ w'.cell? ⟨w.heap.size, 2, none⟩ = some (I d1) ∧ w'.cell? ⟨w.heap.size, 3, none⟩ = some (.bool n2) ∧ w'.cell? ⟨w.heap.size, 4, none⟩ = some (.slice B m e) ∧ w'.cell? ⟨w.heap.size, 5, none⟩ = some (I d2) ∧ w'.cell? ⟨w.heap.size + 1, 0, none⟩ = some (.bool n3) ∧ w'.cell? ⟨w.heap.size + 1, 1, none⟩ = some (.slice X p q) ∧ w'.cell? ⟨w.heap.size + 1, 2, none⟩ = some (I d3) ∧ w'.cell? ⟨w.heap.size + 1 + 1, 0, none⟩ = some (.bool n4) ∧ w'.cell? ⟨w.heap.size + 1 + 1, 1, none⟩ = some (.slice Y r s) ∧ w'.cell? ⟨w.heap.size + 1 + 1, 2, none⟩ = some (I d4)) := fun w' e => by
    obtain ⟨⟨i0, i1, i2, i3, i4, i5⟩, iz⟩ := HXA.out.ext e
    obtain ⟨j0, j1, j2⟩ := HXL.out.ext e
    obtain ⟨l0, l1, l2⟩ := HXH.out.ext e
    exact ⟨i0, i1, i2, i3, i4, i5, j0, j1, j2, l0, l1, l2⟩
  have HS2 : Hid (∀ w0 u0 u1 u2 u3 u4 u5, Ext w1 w0 → ((((((w0.setCell ⟨w.heap.size + 1 + 1 + 1, 0, none⟩ u0).setCell ⟨w.heap.size + 1 + 1 + 1, 1, none⟩ u1).setCell ⟨w.heap.size + 1 + 1 + 1, 2, none⟩ u2).setCell ⟨w.heap.size + 1 + 1 + 1, 3, none⟩ u3).setCell ⟨w.heap.size + 1 + 1 + 1, 4, none⟩ u4).setCell ⟨w.heap.size + 1 + 1 + 1, 5, none⟩ u5).cell? ⟨w.heap.size, 0, none⟩ = some (.bool n1) ∧ ((((((w0.setCell ⟨w.heap.size + 1 + 1 + 1, 0, none⟩ u0).setCell ⟨w.heap.size + 1 + 1 + 1, 1, none⟩ u1).setCell ⟨w.heap.size + 1 + 1 + 1, 2, none⟩ u2).setCell ⟨w.heap.size + 1 + 1 + 1, 3, none⟩ u3).setCell ⟨w.heap.size + 1 + 1 + 1, 4, none⟩ u4).setCell ⟨w.heap.size + 1 + 1 + 1, 5, none⟩ u5).cell? ⟨w.heap.size, 1, none⟩ = some (.slice A k c) ∧ ((((((w0.setCell ⟨w.heap.size + 1 + 1 + 1, 0, none⟩ u0).setCell ⟨w.heap.size + 1 + 1 + 1, 1, none⟩ u1).setCell ⟨w.heap.size + 1 + 1 + 1, 2, none⟩ u2).setCell ⟨w.heap.size + 1 + 1 + 1, 3, none⟩ u3).setCell ⟨w.heap.size + 1 + 1 + 1, 4, none⟩ u4).setCell ⟨w.heap.size + 1 + 1 + 1, 5, none⟩ u5).cell? ⟨w.heap.size, 2, none⟩ = some (I d1) ∧ ((((((w0.setCell ⟨w.heap.size + 1 + 1 + 1, 0, none⟩ u0).setCell ⟨w.heap.size + 1 + 1 + 1, 1, none⟩ u1).setCell ⟨w.heap.size + 1 + 1 + 1, 2, none⟩ u2).setCell ⟨w.heap.size + 1 + 1 + 1, 3, none⟩ u3).setCell ⟨w.heap.size + 1 + 1 + 1, 4, none⟩ u4).setCell ⟨w.heap.size + 1 + 1 + 1, 5, none⟩ u5).cell? ⟨w.heap.size, 3, none⟩ = some (.bool n2) ∧ ((((((w0.setCell ⟨w.heap.size + 1 + 1 + 1, 0, none⟩ u0).setCell ⟨w.heap.size + 1 + 1 + 1, 1, none⟩ u1).setCell ⟨w.heap.size + 1 + 1 + 1, 2, none⟩ u2).setCell ⟨w.heap.size + 1 + 1 + 1, 3, none⟩ u3).setCell ⟨w.heap.size + 1 + 1 + 1, 4, none⟩ u4).setCell ⟨w.heap.size + 1 + 1 + 1, 5, none⟩ u5).cell? ⟨w.heap.size, 4, none⟩ = some (.slice B m e) ∧ ((((((w0.setCell ⟨w.heap.size + 1 + 1 + 1, 0, none⟩ u0).setCell ⟨w.heap.size + 1 + 1 + 1, 1, none⟩ u1).setCell ⟨w.heap.size + 1 + 1 + 1, 2, none⟩ u2).setCell ⟨w.heap.size + 1 + 1 + 1, 3, none⟩ u3).setCell ⟨w.heap.size + 1 + 1 + 1, 4, none⟩ u4).setCell ⟨w.heap.size + 1 + 1 + 1, 5, none⟩ u5).cell? ⟨w.heap.size, 5, none⟩ = some (I d2) ∧ ((((((w0.setCell ⟨w.heap.size + 1 + 1 + 1, 0, none⟩ u0).setCell ⟨w.heap.size + 1 + 1 + 1, 1, none⟩ u1).setCell ⟨w.heap.size + 1 + 1 + 1, 2, none⟩ u2).setCell ⟨w.heap.size + 1 + 1 + 1, 3, none⟩ u3).setCell ⟨w.heap.size + 1 + 1 + 1, 4, none⟩ u4).setCell ⟨w.heap.size + 1 + 1 + 1, 5, none⟩ u5).cell? ⟨w.heap.size + 1, 0, none⟩ = some (.bool n3) ∧ ((((((w0.setCell ⟨w.heap.size + 1 + 1 + 1, 0, none⟩ u0).setCell ⟨w.heap.size + 1 + 1 + 1, 1, none⟩ u1).setCell ⟨w.heap.size + 1 + 1 + 1, 2, none⟩ u2).setCell ⟨w.heap.size + 1 + 1 + 1, 3, none⟩ u3).setCell ⟨w.heap.size + 1 + 1 + 1, 4, none⟩ u4).setCell ⟨w.heap.size + 1 + 1 + 1, 5, none⟩ u5).cell? ⟨w.heap.size + 1, 1, none⟩ = some (.slice X p q) ∧ ((((((w0.setCell ⟨w.heap.size + 1 + 1 + 1, 0, none⟩ u0).setCell ⟨w.heap.size + 1 + 1 + 1, 1, none⟩ u1).setCell ⟨w.heap.size + 1 + 1 + 1, 2, none⟩ u2).setCell ⟨w.heap.size + 1 + 1 + 1, 3, none⟩ u3).setCell ⟨w.heap.size + 1 + 1 + 1, 4, none⟩ u4).setCell ⟨w.heap.size + 1 + 1 + 1, 5, none⟩ u5).cell? ⟨w.heap.size + 1, 2, none⟩ = some (I d3) ∧ ((((((w0.setCell ⟨w.heap.size + 1 + 1 + 1, 0, none⟩ u0).setCell ⟨w.heap.size + 1 + 1 + 1, 1, none⟩ u1).setCell ⟨w.heap.size + 1 + 1 + 1, 2, none⟩ u2).setCell ⟨w.heap.size + 1 + 1 + 1, 3, none⟩ u3).setCell ⟨w.heap.size + 1 + 1 + 1, 4, none⟩ u4).setCell ⟨w.heap.size + 1 + 1 + 1, 5, none⟩ u5).cell? ⟨w.heap.size + 1 + 1, 0, none⟩ = some (.bool n4) ∧ ((((((w0.setCell ⟨w.heap.size + 1 + 1 + 1, 0, none⟩ u0).setCell ⟨w.heap.size + 1 + 1 + 1, 1, none⟩ u1).setCell ⟨w.heap.size + 1 + 1 + 1, 2, none⟩ u2).setCell ⟨w.heap.size + 1 + 1 + 1, 3, none⟩ u3).setCell ⟨w.heap.size + 1 + 1 + 1, 4, none⟩ u4).setCell ⟨w.heap.size + 1 + 1 + 1, 5, none⟩ u5).cell? ⟨w.heap.size + 1 + 1, 1, none⟩ = some (.slice Y r s) ∧ ((((((w0.setCell ⟨w.heap.size + 1 + 1 + 1, 0, none⟩ u0).setCell ⟨w.heap.size + 1 + 1 + 1, 1, none⟩ u1).setCell ⟨w.heap.size + 1 + 1 + 1, 2, none⟩ u2).setCell ⟨w.heap.size + 1 + 1 + 1, 3, none⟩ u3).setCell ⟨w.heap.size + 1 + 1 + 1, 4, none⟩ u4).setCell ⟨w.heap.size + 1 + 1 + 1, 5, none⟩ u5).cell? ⟨w.heap.size + 1 + 1, 2, none⟩ = some (I d4)) := fun w0 u0 u1 u2 u3 u4 u5 e => by
    obtain ⟨⟨i0, i1, i2, i3, i4, i5⟩, iz⟩ := HXA.out.ext e
    obtain ⟨j0, j1, j2⟩ := HXL.out.ext e
    obtain ⟨l0, l1, l2⟩ := HXH.out.ext e
    exact ⟨cell_far6 i0 (by omega) _ _ _ _ _ _, cell_far6 i1 (by omega) _ _ _ _ _ _, cell_far6 i2 (by omega) _ _ _ _ _ _, cell_far6 i3 (by omega) _ _ _ _ _ _, cell_far6 i4 (by omega) _ _ _ _ _ _, cell_far6 i5 (by omega) _ _ _ _ _ _, cell_far6 j0 (by omega) _ _ _ _ _ _, cell_far6 j1 (by omega) _ _ _ _ _ _, cell_far6 j2 (by omega) _ _ _ _ _ _, cell_far6 l0 (by omega) _ _ _ _ _ _, cell_far6 l1 (by omega) _ _ _ _ _ _, cell_far6 l2 (by omega) _ _ _ _ _ _⟩
  go_wp2_with fail
  go_region_held3 (fun w' => w'.cell? ⟨w.heap.size, 0, none⟩ = some (.bool n1) ∧ w'.cell? ⟨w.heap.size, 1, none⟩ = some (.slice A k c) ∧ w'.cell? ⟨w.heap.size, 2, none⟩ = some (I d1) ∧ w'.cell? ⟨w.heap.size, 3, none⟩ = some (.bool n2) ∧ w'.cell? ⟨w.heap.size, 4, none⟩ = some (.slice B m e) ∧ w'.cell? ⟨w.heap.size, 5, none⟩ = some (I d2) ∧ w'.cell? ⟨w.heap.size + 1, 0, none⟩ = some (.bool n3) ∧ w'.cell? ⟨w.heap.size + 1, 1, none⟩ = some (.slice X p q) ∧ w'.cell? ⟨w.heap.size + 1, 2, none⟩ = some (I d3) ∧ w'.cell? ⟨w.heap.size + 1 + 1, 0, none⟩ = some (.bool n4) ∧ w'.cell? ⟨w.heap.size + 1 + 1, 1, none⟩ = some (.slice Y r s) ∧ w'.cell? ⟨w.heap.size + 1 + 1, 2, none⟩ = some (I d4)) (first | with_reducible assumption | exact HS.out _ (by (with_reducible (repeat (first | exact Ext.refl _ | assumption | (refine Ext.toSet ?_ (by omega)) | refine Ext.toAlloc ?_ | refine Ext.toDrew ?_ | refine Ext.toDrewN ?_ | refine Ext.trans ?_ (by assumption)))); (first | done | fail "no")) | exact HS2.out _ _ _ _ _ _ _ (by (with_reducible (repeat (first | exact Ext.refl _ | assumption | (refine Ext.toSet ?_ (by omega)) | refine Ext.toAlloc ?_ | refine Ext.toDrew ?_ | refine Ext.toDrewN ?_ | refine Ext.trans ?_ (by assumption)))); (first | done | fail "no")))
    (first
      | (have hg := hx3; clear hg; go_at_call 86; (with_reducible refine (rimax_any (PZ.out _ (HE1.out.trans (by (with_reducible (repeat (first | exact Ext.refl _ | assumption | (refine Ext.toSet ?_ (by omega)) | refine Ext.toAlloc ?_ | refine Ext.toDrew ?_ | refine Ext.toDrewN ?_ | refine Ext.trans ?_ (by assumption)))); (first | done | fail "no")))) (NI.out.ext (by (with_reducible (repeat (first | exact Ext.refl _ | assumption | (refine Ext.toSet ?_ (by omega)) | refine Ext.toAlloc ?_ | refine Ext.toDrew ?_ | refine Ext.toDrewN ?_ | refine Ext.trans ?_ (by assumption)))); (first | done | fail "no")))).mono ?_); rw [C1.out.1, C1.out.2]; rintro e1 w5 ⟨P5, f5, Q5, g5, rfl, hfa, hfb, hx4⟩; have FA := Lib.hid hfa; have FB := Lib.hid hfb; clear hfa hfb; obtain ⟨⟨r0, r1, r2, r3, r4, r5⟩, rz⟩ := HXZ1.out.ext (w' := w5) (by (with_reducible (repeat (first | exact Ext.refl _ | assumption | (refine Ext.toSet ?_ (by omega)) | refine Ext.toAlloc ?_ | refine Ext.toDrew ?_ | refine Ext.toDrewN ?_ | refine Ext.trans ?_ (by assumption)))); (first | done | fail "no")))
      | (have hg := hx2; clear hg; go_at_call 88; (with_reducible refine (rimin_any (PU.out _ (HE1.out.trans (by (with_reducible (repeat (first | exact Ext.refl _ | assumption | (refine Ext.toSet ?_ (by omega)) | refine Ext.toAlloc ?_ | refine Ext.toDrew ?_ | refine Ext.toDrewN ?_ | refine Ext.trans ?_ (by assumption)))); (first | done | fail "no")))) (HA.out.ext (HE1.out.trans (by (with_reducible (repeat (first | exact Ext.refl _ | assumption | (refine Ext.toSet ?_ (by omega)) | refine Ext.toAlloc ?_ | refine Ext.toDrew ?_ | refine Ext.toDrewN ?_ | refine Ext.trans ?_ (by assumption)))); (first | done | fail "no"))))).mono ?_); rintro e1 w4 ⟨P4, f4, Q4, g4, rfl, hfa, hfb, hx3⟩; have NI := Lib.hid (I1.out _ _ _ _ _ (hfa.mono (Nat.zero_le _)) (hfb.mono (Nat.zero_le _))); clear hfa hfb)
      | (have hg := hx1; clear hg; go_at_call 87; (with_reducible refine (rpoint_any (HU.out.ext (HE1.out.trans (by (with_reducible (repeat (first | exact Ext.refl _ | assumption | (refine Ext.toSet ?_ (by omega)) | refine Ext.toAlloc ?_ | refine Ext.toDrew ?_ | refine Ext.toDrewN ?_ | refine Ext.trans ?_ (by assumption)))); (first | done | fail "no"))))).mono ?_); rintro e1 w3 ⟨rfl, hx2⟩)
      | (go_at_call 87; (with_reducible refine (rpoint_any (HZ.out.ext (HE1.out.trans (by (with_reducible (repeat (first | exact Ext.refl _ | assumption | (refine Ext.toSet ?_ (by omega)) | refine Ext.toAlloc ?_ | refine Ext.toDrew ?_ | refine Ext.toDrewN ?_ | refine Ext.trans ?_ (by assumption)))); (first | done | fail "no"))))).mono ?_); rintro e1 w2 ⟨rfl, hx1⟩))
  all_goals
    have HF := Lib.hid (HE1.out.trans (show Ext w1 w5 from (by (with_reducible (repeat (first | exact Ext.refl _ | assumption | (refine Ext.toSet ?_ (by omega)) | refine Ext.toAlloc ?_ | refine Ext.toDrew ?_ | refine Ext.toDrewN ?_ | refine Ext.trans ?_ (by assumption)))); (first | done | fail "no"))))
    have hz2 := Ext.size (show Ext w1 w4 from (by (with_reducible (repeat (first | exact Ext.refl _ | assumption | (refine Ext.toSet ?_ (by omega)) | refine Ext.toAlloc ?_ | refine Ext.toDrew ?_ | refine Ext.toDrewN ?_ | refine Ext.trans ?_ (by assumption)))); (first | done | fail "no")))
    have fa := FA.out; have fb := FB.out
    (try simp only [World.size_drew] at fa fb hz2)
    go_wp2_with fail
    exact bodyPost_ret (v := .tuple #[ivd L P5 f5 H Q5 g5, I 0]) (by simp [results, Tryz.results20, go_sem, r0, r1, r2, r3, r4, r5]) rfl (RvOk.end6 rfl fa fb HF.out (by omega) (by (try simp); omega) (by (try simp); omega))
end

/-! ### Ilwi -/
section
open Go.RowKit
attribute [local go_sem ↓] Go.wp_at_zero Go.wp_at_succ

theorem sign_pos {z : DV} (h : ¬ signD z < 0) : 0 ≤ z.q := sgn_nlt (by rw [← signD_sgn]; exact h)


set_option maxRecDepth 100000 in
set_option maxHeartbeats 4000000 in
theorem riwiden_err {w : World} {n1 n2 : Bool} {A B : Option Addr} {k c m e : Nat} {d1 d2 : Int} {n3 : Bool} {X X' : Option Addr} {p q q' : Nat} {d3 : Int} {z : DV} (hz : Dy w n3 X p q d3 z X' q') (hc : signD z < 0) :
    Calls Tryz.prog 19 #[iv n1 A k c d1 n2 B m e d2, dv n3 X p q d3] w (RvErr 3 w) := by
  obtain ⟨v, hv⟩ : ∃ v, signD z = v := ⟨_, rfl⟩
  rw [hv] at hc
  have EV := Lib.hid hv; have HZ := Lib.hid hz; clear hv hz
  obtain ⟨X0, X1, XZ, XE⟩ := boxesNZ w n1 n2 A B k c m e d1 d2 n3 X p q d3
  have HX0 := Lib.hid X0; have HX1 := Lib.hid X1; have HXZ := Lib.hid XZ; have HE := Lib.hid XE
  obtain ⟨⟨a0, a1, a2⟩, a3⟩ := X1
  clear X0 XZ XE
  generalize hWc : ((w.alloc (.cells #[.bool n1, .slice A k c, I d1, .bool n2, .slice B m e, I d2] 26)).alloc (.cells #[.bool n3, .slice X p q, I d3] 24)).alloc (.cells #[.bool false, .slice none 0 0, I 0, .bool false, .slice none 0 0, I 0] 26) = wc at *
  go_enter Tryz.func19, Tryz.ntmps19
  go_upto_region 1 with fail
  (try rw [hWc])
  clear hWc
  go_wp2_with (go_at_call 82; (with_reducible refine (rsign_any (HZ.out.ext HE.out)).mono ?_); rw [EV.out]; rintro e1 w1 ⟨rfl, hx⟩; have HY := Lib.hid (HE.out.trans hx); obtain ⟨⟨r0, r1, r2, r3, r4, r5⟩, rz⟩ := HXZ.out.ext hx; have lr := (HXZ.out.ext hx).lt; clear hx a0 a1 a2 a3)
  exact bodyPost_ret (v := .tuple #[iv false none 0 0 0 false none 0 0 0, I 3]) (by simp [results, Tryz.results19, go_sem, r0, r1, r2, r3, r4, r5]) rfl ⟨rfl, ext_set6 HY.out (by omega) _ _ _ _ _ _⟩

set_option maxRecDepth 100000 in
set_option maxHeartbeats 4000000 in
theorem riwiden_ok {w : World} {n1 n2 : Bool} {A B A' B' : Option Addr} {k c m e c' e' : Nat} {d1 d2 : Int} {a b : DV} {n3 : Bool} {X X' : Option Addr} {p q q' : Nat} {d3 : Int} {z : DV} (ha : Iw w n1 A k c d1 n2 B m e d2 a b A' c' B' e') (hz : Dy w n3 X p q d3 z X' q') (ez : End z) (lz : len z.m ≤ 1048575) (hc : ¬ signD z < 0) :
    Calls Tryz.prog 19 #[iv n1 A k c d1 n2 B m e d2, dv n3 X p q d3] w (RvOk (subD a z) (addD b z) w) := by
  have hq := sign_pos hc
  obtain ⟨v, hv⟩ : ∃ v, signD z = v := ⟨_, rfl⟩
  rw [hv] at hc
  have EV := Lib.hid hv; clear hv
  have nz : End (negD z) := ⟨negD_ok _, by have := lim_neg z; omega⟩
  have qle : (subD a z).q ≤ (addD b z).q := by rw [q_subD ha.wa.1 ez.1, q_addD ha.wb.1 ez.1]; have := ha.le; grind
  have WL : Hid (Bdd (subD a z)) := bd_add ha.wa nz
  have WH : Hid (Bdd (addD b z)) := bd_add ha.wb ez
  have C1 : Hid (lo2 (subD a z) (addD b z) = subD a z ∧ hi2 (subD a z) (addD b z) = addD b z) := ⟨lo2_id WL.out.1 WH.out.1 qle, hi2_id WL.out.1 WH.out.1 qle⟩
  have nq : (negD z).q ≤ z.q := by rw [q_negD ez.1]; grind
  have C2 : Hid (lo2 z (negD z) = negD z ∧ hi2 z (negD z) = z) := by
    constructor
    · refine DV.uniq (lo2_ok ez.1 nz.1) nz.1 ?_
      show (minD z (negD z)).q = _; rw [q_min ez.1 nz.1]; unfold mnQ; grind
    · refine DV.uniq (hi2_ok ez.1 nz.1) ez.1 ?_
      show (maxD z (negD z)).q = _; rw [q_max ez.1 nz.1]; unfold mxQ; grind
  have NQ := Lib.hid nq; have NZ := Lib.hid nz; have EZ := Lib.hid ez
  have C3 : Hid (addD a (negD z) = subD a z) := rfl
  have SI : Hid (∀ w' P f Q g, Fr w' 0 P (len (negD z).m) f (dg (negD z).m) → Fr w' 0 Q (len z.m) g (dg z.m) → Iw w' (negD z).neg P (len (negD z).m) f (negD z).den z.neg Q (len z.m) g z.den (negD z) z P f Q g) := fun w' P f Q g fa fb => iv_ok fa.rd fa.ok NZ.out fb.rd fb.ok EZ.out NQ.out
  obtain ⟨L, hL⟩ : ∃ L, subD a z = L := ⟨_, rfl⟩; obtain ⟨H, hH⟩ : ∃ H, addD b z = H := ⟨_, rfl⟩
  rw [hL] at C3
  rw [hL, hH] at C1 ⊢
  rw [hL] at WL; rw [hH] at WH
  have EL := Lib.hid hL; have EH := Lib.hid hH
  have HZ := Lib.hid hz; have HA := Lib.hid ha; clear hz ha ez lz hL hH hq nz qle nq
  obtain ⟨X0, X1, XZ, XE⟩ := boxesNZ w n1 n2 A B k c m e d1 d2 n3 X p q d3
  have HX0 := Lib.hid X0; have HX1 := Lib.hid X1; have HXZ := Lib.hid XZ; have HE := Lib.hid XE
  obtain ⟨⟨a0, a1, a2⟩, a3⟩ := X1
  clear X0 XZ XE
  generalize hWc : ((w.alloc (.cells #[.bool n1, .slice A k c, I d1, .bool n2, .slice B m e, I d2] 26)).alloc (.cells #[.bool n3, .slice X p q, I d3] 24)).alloc (.cells #[.bool false, .slice none 0 0, I 0, .bool false, .slice none 0 0, I 0] 26) = wc at *
  go_enter Tryz.func19, Tryz.ntmps19
  go_upto_region 1 with fail
  (try rw [hWc])
  clear hWc
  go_wp2_with (go_at_call 82; (with_reducible refine (rsign_any (HZ.out.ext HE.out)).mono ?_); rw [EV.out]; rintro e1 w1 ⟨rfl, hx⟩; have HE1 := Lib.hid (HE.out.trans hx); have HX0' := Lib.hid (HX0.out.ext hx); have HX1' := Lib.hid (HX1.out.ext hx); have HXZ' := Lib.hid (HXZ.out.ext hx); clear hx a0 a1 a2 a3)
  clear HX0 HX1 HXZ HE
  have HX0 := Lib.hid HX0'.out; have HX1 := Lib.hid HX1'.out; have HXZ := Lib.hid HXZ'.out
  clear HX0' HX1' HXZ'
  have hlx := HXZ.out.lt
  have HS : Hid (∀ w', Ext w1 w' → w'.cell? ⟨w.heap.size, 0, none⟩ = some (.bool n1) ∧ w'.cell? ⟨w.heap.size, 1, none⟩ = some (.slice A k c) ∧ w'.cell? ⟨w.heap.size, 2, none⟩ = some (I d1) ∧ w'.cell? ⟨w.heap.size, 3, none⟩ = some (.bool n2) ∧ w'.cell? ⟨w.heap.size, 4, none⟩ = some (.slice B m e) ∧ w'.cell? ⟨w.heap.size, 5, none⟩ = some (I d2) ∧ w'.cell? ⟨w.heap.size + 1, 0, none⟩ = some (.bool n3) ∧ w'.cell? ⟨w.heap.size + 1, 1, none⟩ = some (.slice X p q) ∧ w'.cell? ⟨w.heap.size + 1, 2, none⟩ = some (I d3)) := fun w' e => by
    obtain ⟨⟨i0, i1, i2, i3, i4, i5⟩, iz⟩ := HX0.out.ext e
    obtain ⟨⟨j0, j1, j2⟩, jz⟩ := HX1.out.ext e
    exact ⟨i0, i1, i2, i3, i4, i5, j0, j1, j2⟩
  have HS2 : Hid (∀ w0 u0 u1 u2 u3 u4 u5, Ext w1 w0 → ((((((w0.setCell ⟨w.heap.size + 1 + 1, 0, none⟩ u0).setCell ⟨w.heap.size + 1 + 1, 1, none⟩ u1).setCell ⟨w.heap.size + 1 + 1, 2, none⟩ u2).setCell ⟨w.heap.size + 1 + 1, 3, none⟩ u3).setCell ⟨w.heap.size + 1 + 1, 4, none⟩ u4).setCell ⟨w.heap.size + 1 + 1, 5, none⟩ u5).cell? ⟨w.heap.size, 0, none⟩ = some (.bool n1) ∧ ((((((w0.setCell ⟨w.heap.size + 1 + 1, 0, none⟩ u0).setCell ⟨w.heap.size + 1 + 1, 1, none⟩ u1).setCell ⟨w.heap.size + 1 + 1, 2, none⟩ u2).setCell ⟨w.heap.size + 1 + 1, 3, none⟩ u3).setCell ⟨w.heap.size + 1 + 1, 4, none⟩ u4).setCell ⟨w.heap.size + 1 + 1, 5, none⟩ u5).cell? ⟨w.heap.size, 1, none⟩ = some (.slice A k c) ∧ ((((((w0.setCell ⟨w.heap.size + 1 + 1, 0, none⟩ u0).setCell ⟨w.heap.size + 1 + 1, 1, none⟩ u1).setCell ⟨w.heap.size + 1 + 1, 2, none⟩ u2).setCell ⟨w.heap.size + 1 + 1, 3, none⟩ u3).setCell ⟨w.heap.size + 1 + 1, 4, none⟩ u4).setCell ⟨w.heap.size + 1 + 1, 5, none⟩ u5).cell? ⟨w.heap.size, 2, none⟩ = some (I d1) ∧ ((((((w0.setCell ⟨w.heap.size + 1 + 1, 0, none⟩ u0).setCell ⟨w.heap.size + 1 + 1, 1, none⟩ u1).setCell ⟨w.heap.size + 1 + 1, 2, none⟩ u2).setCell ⟨w.heap.size + 1 + 1, 3, none⟩ u3).setCell ⟨w.heap.size + 1 + 1, 4, none⟩ u4).setCell ⟨w.heap.size + 1 + 1, 5, none⟩ u5).cell? ⟨w.heap.size, 3, none⟩ = some (.bool n2) ∧ ((((((w0.setCell ⟨w.heap.size + 1 + 1, 0, none⟩ u0).setCell ⟨w.heap.size + 1 + 1, 1, none⟩ u1).setCell ⟨w.heap.size + 1 + 1, 2, none⟩ u2).setCell ⟨w.heap.size + 1 + 1, 3, none⟩ u3).setCell ⟨w.heap.size + 1 + 1, 4, none⟩ u4).setCell ⟨w.heap.size + 1 + 1, 5, none⟩ u5).cell? ⟨w.heap.size, 4, none⟩ = some (.slice B m e) ∧ ((((((w0.setCell ⟨w.heap.size + 1 + 1, 0, none⟩ u0).setCell ⟨w.heap.size + 1 + 1, 1, none⟩ u1).setCell ⟨w.heap.size + 1 + 1, 2, none⟩ u2).setCell ⟨w.heap.size + 1 + 1, 3, none⟩ u3).setCell ⟨w.heap.size + 1 + 1, 4, none⟩ u4).setCell ⟨w.heap.size + 1 + 1, 5, none⟩ u5).cell? ⟨w.heap.size, 5, none⟩ = some (I d2) ∧ ((((((w0.setCell ⟨w.heap.size + 1 + 1, 0, none⟩ u0).setCell ⟨w.heap.size + 1 + 1, 1, none⟩ u1).setCell ⟨w.heap.size + 1 + 1, 2, none⟩ u2).setCell ⟨w.heap.size + 1 + 1, 3, none⟩ u3).setCell ⟨w.heap.size + 1 + 1, 4, none⟩ u4).setCell ⟨w.heap.size + 1 + 1, 5, none⟩ u5).cell? ⟨w.heap.size + 1, 0, none⟩ = some (.bool n3) ∧ ((((((w0.setCell ⟨w.heap.size + 1 + 1, 0, none⟩ u0).setCell ⟨w.heap.size + 1 + 1, 1, none⟩ u1).setCell ⟨w.heap.size + 1 + 1, 2, none⟩ u2).setCell ⟨w.heap.size + 1 + 1, 3, none⟩ u3).setCell ⟨w.heap.size + 1 + 1, 4, none⟩ u4).setCell ⟨w.heap.size + 1 + 1, 5, none⟩ u5).cell? ⟨w.heap.size + 1, 1, none⟩ = some (.slice X p q) ∧ ((((((w0.setCell ⟨w.heap.size + 1 + 1, 0, none⟩ u0).setCell ⟨w.heap.size + 1 + 1, 1, none⟩ u1).setCell ⟨w.heap.size + 1 + 1, 2, none⟩ u2).setCell ⟨w.heap.size + 1 + 1, 3, none⟩ u3).setCell ⟨w.heap.size + 1 + 1, 4, none⟩ u4).setCell ⟨w.heap.size + 1 + 1, 5, none⟩ u5).cell? ⟨w.heap.size + 1, 2, none⟩ = some (I d3)) := fun w0 u0 u1 u2 u3 u4 u5 e => by
    obtain ⟨⟨i0, i1, i2, i3, i4, i5⟩, iz⟩ := (HX0.out.ext e).far6 (g' := w.heap.size + 1 + 1) (by omega) u0 u1 u2 u3 u4 u5
    obtain ⟨⟨j0, j1, j2⟩, jz⟩ := (HX1.out.ext e).far6 (g' := w.heap.size + 1 + 1) (by omega) u0 u1 u2 u3 u4 u5
    exact ⟨i0, i1, i2, i3, i4, i5, j0, j1, j2⟩
  go_region_held3 (fun w' => w'.cell? ⟨w.heap.size, 0, none⟩ = some (.bool n1) ∧ w'.cell? ⟨w.heap.size, 1, none⟩ = some (.slice A k c) ∧ w'.cell? ⟨w.heap.size, 2, none⟩ = some (I d1) ∧ w'.cell? ⟨w.heap.size, 3, none⟩ = some (.bool n2) ∧ w'.cell? ⟨w.heap.size, 4, none⟩ = some (.slice B m e) ∧ w'.cell? ⟨w.heap.size, 5, none⟩ = some (I d2) ∧ w'.cell? ⟨w.heap.size + 1, 0, none⟩ = some (.bool n3) ∧ w'.cell? ⟨w.heap.size + 1, 1, none⟩ = some (.slice X p q) ∧ w'.cell? ⟨w.heap.size + 1, 2, none⟩ = some (I d3)) (first | with_reducible assumption | exact HS.out _ (by (with_reducible (repeat (first | exact Ext.refl _ | assumption | (refine Ext.toSet ?_ (by omega)) | refine Ext.toAlloc ?_ | refine Ext.toDrew ?_ | refine Ext.toDrewN ?_ | refine Ext.trans ?_ (by assumption)))); (first | done | fail "no")) | exact HS2.out _ _ _ _ _ _ _ (by (with_reducible (repeat (first | exact Ext.refl _ | assumption | (refine Ext.toSet ?_ (by omega)) | refine Ext.toAlloc ?_ | refine Ext.toDrew ?_ | refine Ext.toDrewN ?_ | refine Ext.trans ?_ (by assumption)))); (first | done | fail "no")))
    (first
      | (have hg := hx2; clear hg; go_at_call 83; (with_reducible refine (riadd_any (HA.out.ext (HE1.out.trans (by (with_reducible (repeat (first | exact Ext.refl _ | assumption | (refine Ext.toSet ?_ (by omega)) | refine Ext.toAlloc ?_ | refine Ext.toDrew ?_ | refine Ext.toDrewN ?_ | refine Ext.trans ?_ (by assumption)))); (first | done | fail "no")))) (NI.out.ext (by (with_reducible (repeat (first | exact Ext.refl _ | assumption | (refine Ext.toSet ?_ (by omega)) | refine Ext.toAlloc ?_ | refine Ext.toDrew ?_ | refine Ext.toDrewN ?_ | refine Ext.trans ?_ (by assumption)))); (first | done | fail "no")))).mono ?_); rw [C3.out, EH.out, C1.out.1, C1.out.2]; rintro e1 w4 ⟨P4, f4, Q4, g4, rfl, hfa, hfb, hx3⟩; have FA := Lib.hid hfa; have FB := Lib.hid hfb; clear hfa hfb; obtain ⟨⟨r0, r1, r2, r3, r4, r5⟩, rz⟩ := HXZ.out.ext (w' := w4) (by (with_reducible (repeat (first | exact Ext.refl _ | assumption | (refine Ext.toSet ?_ (by omega)) | refine Ext.toAlloc ?_ | refine Ext.toDrew ?_ | refine Ext.toDrewN ?_ | refine Ext.trans ?_ (by assumption)))); (first | done | fail "no")))
      | (have hg := hx1; clear hg; go_at_call 84; (with_reducible refine (span2 (HZ.out.ext (HE1.out.trans (by (with_reducible (repeat (first | exact Ext.refl _ | assumption | (refine Ext.toSet ?_ (by omega)) | refine Ext.toAlloc ?_ | refine Ext.toDrew ?_ | refine Ext.toDrewN ?_ | refine Ext.trans ?_ (by assumption)))); (first | done | fail "no")))) (D1.out.ext (by (with_reducible (repeat (first | exact Ext.refl _ | assumption | (refine Ext.toSet ?_ (by omega)) | refine Ext.toAlloc ?_ | refine Ext.toDrew ?_ | refine Ext.toDrewN ?_ | refine Ext.trans ?_ (by assumption)))); (first | done | fail "no"))) (bd_end EZ.out) (bd_end NZ.out) (S6.new _ _ _ _ _ _ _ _)).mono ?_); rw [C2.out.1, C2.out.2]; rintro e1 w3 ⟨P3, f3, Q3, g3, rfl, hfa, hfb, hx2⟩; have NI := Lib.hid (SI.out _ _ _ _ _ (hfa.mono (Nat.zero_le _)) (hfb.mono (Nat.zero_le _))); clear hfa hfb)
      | (go_at_call 85; (with_reducible refine (rneg_any (HZ.out.ext (HE1.out.trans (by (with_reducible (repeat (first | exact Ext.refl _ | assumption | (refine Ext.toSet ?_ (by omega)) | refine Ext.toAlloc ?_ | refine Ext.toDrew ?_ | refine Ext.toDrewN ?_ | refine Ext.trans ?_ (by assumption)))); (first | done | fail "no"))))).mono ?_); rintro e1 w2 ⟨P2, f2, rfl, hon, hx1⟩; have D1 := Lib.hid (Dy.of_on hon (negD_ok _) (bd_end NZ.out).lim (Ext.refl _)); clear hon))
  all_goals
    have HF := Lib.hid (HE1.out.trans (show Ext w1 w4 from (by (with_reducible (repeat (first | exact Ext.refl _ | assumption | (refine Ext.toSet ?_ (by omega)) | refine Ext.toAlloc ?_ | refine Ext.toDrew ?_ | refine Ext.toDrewN ?_ | refine Ext.trans ?_ (by assumption)))); (first | done | fail "no"))))
    have hz2 := Ext.size (show Ext w1 w3 from (by (with_reducible (repeat (first | exact Ext.refl _ | assumption | (refine Ext.toSet ?_ (by omega)) | refine Ext.toAlloc ?_ | refine Ext.toDrew ?_ | refine Ext.toDrewN ?_ | refine Ext.trans ?_ (by assumption)))); (first | done | fail "no")))
    have fa := FA.out; have fb := FB.out
    (try simp only [World.size_drew] at fa fb hz2)
    go_wp2_with fail
    exact bodyPost_ret (v := .tuple #[ivd L P4 f4 H Q4 g4, I 0]) (by simp [results, Tryz.results19, go_sem, r0, r1, r2, r3, r4, r5]) rfl (RvOk.end6 rfl fa fb HF.out (by omega) (by (try simp); omega) (by (try simp); omega))


set_option maxRecDepth 100000 in
set_option maxHeartbeats 4000000 in
theorem iwiden_err {w : World} {n1 n2 : Bool} {A B : Option Addr} {k c m e : Nat} {d1 d2 : Int} {n3 : Bool} {X X' : Option Addr} {p q q' : Nat} {d3 : Int} {z : DV} (hz : Dy w n3 X p q d3 z X' q') (hc : signD z < 0) :
    Calls Tryz.prog 15 #[iv n1 A k c d1 n2 B m e d2, dv n3 X p q d3] w (IvErr 3 w) := by
  obtain ⟨v, hv⟩ : ∃ v, signD z = v := ⟨_, rfl⟩
  rw [hv] at hc
  have EV := Lib.hid hv; have HZ := Lib.hid hz; clear hv hz
  obtain ⟨X0, X1, XZ, XE⟩ := boxesNZ w n1 n2 A B k c m e d1 d2 n3 X p q d3
  have HX0 := Lib.hid X0; have HX1 := Lib.hid X1; have HXZ := Lib.hid XZ; have HE := Lib.hid XE
  obtain ⟨⟨a0, a1, a2⟩, a3⟩ := X1
  clear X0 XZ XE
  generalize hWc : ((w.alloc (.cells #[.bool n1, .slice A k c, I d1, .bool n2, .slice B m e, I d2] 26)).alloc (.cells #[.bool n3, .slice X p q, I d3] 24)).alloc (.cells #[.bool false, .slice none 0 0, I 0, .bool false, .slice none 0 0, I 0] 26) = wc at *
  go_enter Tryz.func15, Tryz.ntmps15
  go_upto_region 1 with fail
  (try rw [hWc])
  clear hWc
  go_wp2_with (go_at_call 70; (with_reducible refine (sign_any (HZ.out.ext HE.out)).mono ?_); rw [EV.out]; rintro e1 w1 ⟨rfl, hx⟩; have HY := Lib.hid (HE.out.trans hx); obtain ⟨⟨r0, r1, r2, r3, r4, r5⟩, rz⟩ := HXZ.out.ext hx; have lr := (HXZ.out.ext hx).lt; clear hx a0 a1 a2 a3)
  exact bodyPost_ret (v := .tuple #[iv false none 0 0 0 false none 0 0 0, .iface 61 (I 3)]) (by simp [results, Tryz.results15, go_sem, r0, r1, r2, r3, r4, r5]) rfl ⟨rfl, ext_set6 HY.out (by omega) _ _ _ _ _ _⟩

set_option maxRecDepth 100000 in
set_option maxHeartbeats 4000000 in
theorem iwiden_ok {w : World} {n1 n2 : Bool} {A B A' B' : Option Addr} {k c m e c' e' : Nat} {d1 d2 : Int} {a b : DV} {n3 : Bool} {X X' : Option Addr} {p q q' : Nat} {d3 : Int} {z : DV} (ha : Iw w n1 A k c d1 n2 B m e d2 a b A' c' B' e') (hz : Dy w n3 X p q d3 z X' q') (ez : End z) (lz : len z.m ≤ 1048575) (hT : Tabs w) (hc : ¬ signD z < 0) :
    Calls Tryz.prog 15 #[iv n1 A k c d1 n2 B m e d2, dv n3 X p q d3] w (IvOk (subD a z) (addD b z) w) := by
  have hq := sign_pos hc
  obtain ⟨v, hv⟩ : ∃ v, signD z = v := ⟨_, rfl⟩
  rw [hv] at hc
  have EV := Lib.hid hv; clear hv
  have nz : End (negD z) := ⟨negD_ok _, by have := lim_neg z; omega⟩
  have qle : (subD a z).q ≤ (addD b z).q := by rw [q_subD ha.wa.1 ez.1, q_addD ha.wb.1 ez.1]; have := ha.le; grind
  have WL : Hid (Bdd (subD a z)) := bd_add ha.wa nz
  have WH : Hid (Bdd (addD b z)) := bd_add ha.wb ez
  have C1 : Hid (lo2 (subD a z) (addD b z) = subD a z ∧ hi2 (subD a z) (addD b z) = addD b z) := ⟨lo2_id WL.out.1 WH.out.1 qle, hi2_id WL.out.1 WH.out.1 qle⟩
  obtain ⟨L, hL⟩ : ∃ L, subD a z = L := ⟨_, rfl⟩; obtain ⟨H, hH⟩ : ∃ H, addD b z = H := ⟨_, rfl⟩
  skip
  rw [hL, hH] at C1 ⊢
  rw [hL] at WL; rw [hH] at WH
  have EL := Lib.hid hL; have EH := Lib.hid hH
  have HZ := Lib.hid hz; have HA := Lib.hid ha; have HT := Lib.hid hT; clear hz ha ez lz hL hH hq nz qle hT
  obtain ⟨X0, X1, XZ, XE⟩ := boxesNZ w n1 n2 A B k c m e d1 d2 n3 X p q d3
  have HX0 := Lib.hid X0; have HX1 := Lib.hid X1; have HXZ := Lib.hid XZ; have HE := Lib.hid XE
  obtain ⟨⟨a0, a1, a2⟩, a3⟩ := X1
  clear X0 XZ XE
  generalize hWc : ((w.alloc (.cells #[.bool n1, .slice A k c, I d1, .bool n2, .slice B m e, I d2] 26)).alloc (.cells #[.bool n3, .slice X p q, I d3] 24)).alloc (.cells #[.bool false, .slice none 0 0, I 0, .bool false, .slice none 0 0, I 0] 26) = wc at *
  go_enter Tryz.func15, Tryz.ntmps15
  go_upto_region 1 with fail
  (try rw [hWc])
  clear hWc
  go_upto_region 3 with (go_at_call 70; (with_reducible refine (sign_any (HZ.out.ext HE.out)).mono ?_); rw [EV.out]; rintro e1 w1 ⟨rfl, hx⟩; have HE1 := Lib.hid (HE.out.trans hx); have HX0' := Lib.hid (HX0.out.ext hx); have HX1' := Lib.hid (HX1.out.ext hx); have HXZ' := Lib.hid (HXZ.out.ext hx); clear hx a0 a1 a2 a3)
  clear HX0 HX1 HXZ
  go_cut [] (fun wx => NumZ w a b A' c' B' e' n3 X p q d3 wx)
  case first =>
    obtain ⟨⟨k0, k1, k2, k3, k4, k5⟩, kz⟩ := HX0'.out
    go_wp2_with (go_at_call 66; (with_reducible refine (HA.out.itv _ HE1.out).mono ?_); rintro e1 w2 ⟨rfl, hx⟩; clear k0 k1 k2 k3 k4 k5 kz; obtain ⟨⟨k0, k1, k2, k3, k4, k5⟩, kz⟩ := HX0'.out.ext hx; have HX := Lib.hid hx; clear hx)
    go_meet
    exact numZ_of HX0'.out HX1'.out HXZ'.out HE1.out HX.out
  case rest =>
  clear HX0' HX1' HXZ' HE1 HE
  obtain ⟨hE, hX0, hX1, hXZ⟩ := hcut
  have HE := Lib.hid hE; have HX0 := Lib.hid hX0; have HX1 := Lib.hid hX1; have HXZ := Lib.hid hXZ
  clear hE hX0 hX1 hXZ
  have hlx := HXZ.out.lt
  have HS : Hid (∀ w', Ext wc w' → w'.cell? ⟨w.heap.size, 0, none⟩ = some (.bool a.neg) ∧ w'.cell? ⟨w.heap.size, 1, none⟩ = some (.slice A' (len a.m) c') ∧ w'.cell? ⟨w.heap.size, 2, none⟩ = some (I a.den) ∧ w'.cell? ⟨w.heap.size, 3, none⟩ = some (.bool b.neg) ∧ w'.cell? ⟨w.heap.size, 4, none⟩ = some (.slice B' (len b.m) e') ∧ w'.cell? ⟨w.heap.size, 5, none⟩ = some (I b.den) ∧ w'.cell? ⟨w.heap.size + 1, 0, none⟩ = some (.bool n3) ∧ w'.cell? ⟨w.heap.size + 1, 1, none⟩ = some (.slice X p q) ∧ w'.cell? ⟨w.heap.size + 1, 2, none⟩ = some (I d3)) := fun w' e => by
    obtain ⟨⟨i0, i1, i2, i3, i4, i5⟩, iz⟩ := HX0.out.ext e
    obtain ⟨⟨j0, j1, j2⟩, jz⟩ := HX1.out.ext e
    exact ⟨i0, i1, i2, i3, i4, i5, j0, j1, j2⟩
  have HS2 : Hid (∀ w0 u0 u1 u2 u3 u4 u5, Ext wc w0 → ((((((w0.setCell ⟨w.heap.size + 1 + 1, 0, none⟩ u0).setCell ⟨w.heap.size + 1 + 1, 1, none⟩ u1).setCell ⟨w.heap.size + 1 + 1, 2, none⟩ u2).setCell ⟨w.heap.size + 1 + 1, 3, none⟩ u3).setCell ⟨w.heap.size + 1 + 1, 4, none⟩ u4).setCell ⟨w.heap.size + 1 + 1, 5, none⟩ u5).cell? ⟨w.heap.size, 0, none⟩ = some (.bool a.neg) ∧ ((((((w0.setCell ⟨w.heap.size + 1 + 1, 0, none⟩ u0).setCell ⟨w.heap.size + 1 + 1, 1, none⟩ u1).setCell ⟨w.heap.size + 1 + 1, 2, none⟩ u2).setCell ⟨w.heap.size + 1 + 1, 3, none⟩ u3).setCell ⟨w.heap.size + 1 + 1, 4, none⟩ u4).setCell ⟨w.heap.size + 1 + 1, 5, none⟩ u5).cell? ⟨w.heap.size, 1, none⟩ = some (.slice A' (len a.m) c') ∧ ((((((w0.setCell ⟨w.heap.size + 1 + 1, 0, none⟩ u0).setCell ⟨w.heap.size + 1 + 1, 1, none⟩ u1).setCell ⟨w.heap.size + 1 + 1, 2, none⟩ u2).setCell ⟨w.heap.size + 1 + 1, 3, none⟩ u3).setCell ⟨w.heap.size + 1 + 1, 4, none⟩ u4).setCell ⟨w.heap.size + 1 + 1, 5, none⟩ u5).cell? ⟨w.heap.size, 2, none⟩ = some (I a.den) ∧ ((((((w0.setCell ⟨w.heap.size + 1 + 1, 0, none⟩ u0).setCell ⟨w.heap.size + 1 + 1, 1, none⟩ u1).setCell ⟨w.heap.size + 1 + 1, 2, none⟩ u2).setCell ⟨w.heap.size + 1 + 1, 3, none⟩ u3).setCell ⟨w.heap.size + 1 + 1, 4, none⟩ u4).setCell ⟨w.heap.size + 1 + 1, 5, none⟩ u5).cell? ⟨w.heap.size, 3, none⟩ = some (.bool b.neg) ∧ ((((((w0.setCell ⟨w.heap.size + 1 + 1, 0, none⟩ u0).setCell ⟨w.heap.size + 1 + 1, 1, none⟩ u1).setCell ⟨w.heap.size + 1 + 1, 2, none⟩ u2).setCell ⟨w.heap.size + 1 + 1, 3, none⟩ u3).setCell ⟨w.heap.size + 1 + 1, 4, none⟩ u4).setCell ⟨w.heap.size + 1 + 1, 5, none⟩ u5).cell? ⟨w.heap.size, 4, none⟩ = some (.slice B' (len b.m) e') ∧ ((((((w0.setCell ⟨w.heap.size + 1 + 1, 0, none⟩ u0).setCell ⟨w.heap.size + 1 + 1, 1, none⟩ u1).setCell ⟨w.heap.size + 1 + 1, 2, none⟩ u2).setCell ⟨w.heap.size + 1 + 1, 3, none⟩ u3).setCell ⟨w.heap.size + 1 + 1, 4, none⟩ u4).setCell ⟨w.heap.size + 1 + 1, 5, none⟩ u5).cell? ⟨w.heap.size, 5, none⟩ = some (I b.den) ∧ ((((((w0.setCell ⟨w.heap.size + 1 + 1, 0, none⟩ u0).setCell ⟨w.heap.size + 1 + 1, 1, none⟩ u1).setCell ⟨w.heap.size + 1 + 1, 2, none⟩ u2).setCell ⟨w.heap.size + 1 + 1, 3, none⟩ u3).setCell ⟨w.heap.size + 1 + 1, 4, none⟩ u4).setCell ⟨w.heap.size + 1 + 1, 5, none⟩ u5).cell? ⟨w.heap.size + 1, 0, none⟩ = some (.bool n3) ∧ ((((((w0.setCell ⟨w.heap.size + 1 + 1, 0, none⟩ u0).setCell ⟨w.heap.size + 1 + 1, 1, none⟩ u1).setCell ⟨w.heap.size + 1 + 1, 2, none⟩ u2).setCell ⟨w.heap.size + 1 + 1, 3, none⟩ u3).setCell ⟨w.heap.size + 1 + 1, 4, none⟩ u4).setCell ⟨w.heap.size + 1 + 1, 5, none⟩ u5).cell? ⟨w.heap.size + 1, 1, none⟩ = some (.slice X p q) ∧ ((((((w0.setCell ⟨w.heap.size + 1 + 1, 0, none⟩ u0).setCell ⟨w.heap.size + 1 + 1, 1, none⟩ u1).setCell ⟨w.heap.size + 1 + 1, 2, none⟩ u2).setCell ⟨w.heap.size + 1 + 1, 3, none⟩ u3).setCell ⟨w.heap.size + 1 + 1, 4, none⟩ u4).setCell ⟨w.heap.size + 1 + 1, 5, none⟩ u5).cell? ⟨w.heap.size + 1, 2, none⟩ = some (I d3)) := fun w0 u0 u1 u2 u3 u4 u5 e => by
    obtain ⟨⟨i0, i1, i2, i3, i4, i5⟩, iz⟩ := (HX0.out.ext e).far6 (g' := w.heap.size + 1 + 1) (by omega) u0 u1 u2 u3 u4 u5
    obtain ⟨⟨j0, j1, j2⟩, jz⟩ := (HX1.out.ext e).far6 (g' := w.heap.size + 1 + 1) (by omega) u0 u1 u2 u3 u4 u5
    exact ⟨i0, i1, i2, i3, i4, i5, j0, j1, j2⟩
  go_wp2_with fail
  go_region_held3 (fun w' => w'.cell? ⟨w.heap.size, 0, none⟩ = some (.bool a.neg) ∧ w'.cell? ⟨w.heap.size, 1, none⟩ = some (.slice A' (len a.m) c') ∧ w'.cell? ⟨w.heap.size, 2, none⟩ = some (I a.den) ∧ w'.cell? ⟨w.heap.size, 3, none⟩ = some (.bool b.neg) ∧ w'.cell? ⟨w.heap.size, 4, none⟩ = some (.slice B' (len b.m) e') ∧ w'.cell? ⟨w.heap.size, 5, none⟩ = some (I b.den) ∧ w'.cell? ⟨w.heap.size + 1, 0, none⟩ = some (.bool n3) ∧ w'.cell? ⟨w.heap.size + 1, 1, none⟩ = some (.slice X p q) ∧ w'.cell? ⟨w.heap.size + 1, 2, none⟩ = some (I d3)) (first | with_reducible assumption | exact HS.out _ (by (with_reducible (repeat (first | exact Ext.refl _ | assumption | (refine Ext.toSet ?_ (by omega)) | refine Ext.toAlloc ?_ | refine Ext.toDrew ?_ | refine Ext.toDrewN ?_ | refine Ext.trans ?_ (by assumption)))); (first | done | fail "no")) | exact HS2.out _ _ _ _ _ _ _ (by (with_reducible (repeat (first | exact Ext.refl _ | assumption | (refine Ext.toSet ?_ (by omega)) | refine Ext.toAlloc ?_ | refine Ext.toDrew ?_ | refine Ext.toDrewN ?_ | refine Ext.trans ?_ (by assumption)))); (first | done | fail "no")))
    (first
      | (have hg := hx2; clear hg; go_at_call 71; (with_reducible refine (least1 (D1.out.ext (by (with_reducible (repeat (first | exact Ext.refl _ | assumption | (refine Ext.toSet ?_ (by omega)) | refine Ext.toAlloc ?_ | refine Ext.toDrew ?_ | refine Ext.toDrewN ?_ | refine Ext.trans ?_ (by assumption)))); (first | done | fail "no"))) (D2.out.ext (by (with_reducible (repeat (first | exact Ext.refl _ | assumption | (refine Ext.toSet ?_ (by omega)) | refine Ext.toAlloc ?_ | refine Ext.toDrew ?_ | refine Ext.toDrewN ?_ | refine Ext.trans ?_ (by assumption)))); (first | done | fail "no"))) (HT.out.ext (HE.out.trans (by (with_reducible (repeat (first | exact Ext.refl _ | assumption | (refine Ext.toSet ?_ (by omega)) | refine Ext.toAlloc ?_ | refine Ext.toDrew ?_ | refine Ext.toDrewN ?_ | refine Ext.trans ?_ (by assumption)))); (first | done | fail "no")))) (St.new _ _ _ _ _)).mono ?_); rw [C1.out.1, C1.out.2]; rintro e1 w4 ⟨P4, f4, Q4, g4, rfl, hfa, hfb, hx3⟩; have FA := Lib.hid hfa; have FB := Lib.hid hfb; clear hfa hfb; obtain ⟨⟨r0, r1, r2, r3, r4, r5⟩, rz⟩ := HXZ.out.ext (w' := w4) (by (with_reducible (repeat (first | exact Ext.refl _ | assumption | (refine Ext.toSet ?_ (by omega)) | refine Ext.toAlloc ?_ | refine Ext.toDrew ?_ | refine Ext.toDrewN ?_ | refine Ext.trans ?_ (by assumption)))); (first | done | fail "no")))
      | (have hg := hx1; clear hg; go_at_call 72; (with_reducible refine (add_any (HA.out.dyb.ext (HE.out.trans (by (with_reducible (repeat (first | exact Ext.refl _ | assumption | (refine Ext.toSet ?_ (by omega)) | refine Ext.toAlloc ?_ | refine Ext.toDrew ?_ | refine Ext.toDrewN ?_ | refine Ext.trans ?_ (by assumption)))); (first | done | fail "no")))) (HZ.out.ext (HE.out.trans (by (with_reducible (repeat (first | exact Ext.refl _ | assumption | (refine Ext.toSet ?_ (by omega)) | refine Ext.toAlloc ?_ | refine Ext.toDrew ?_ | refine Ext.toDrewN ?_ | refine Ext.trans ?_ (by assumption)))); (first | done | fail "no")))) (HT.out.ext (HE.out.trans (by (with_reducible (repeat (first | exact Ext.refl _ | assumption | (refine Ext.toSet ?_ (by omega)) | refine Ext.toAlloc ?_ | refine Ext.toDrew ?_ | refine Ext.toDrewN ?_ | refine Ext.trans ?_ (by assumption)))); (first | done | fail "no"))))).mono ?_); rw [EH.out]; rintro e1 w3 ⟨P3, f3, rfl, hon, hx2⟩; have D2 := Lib.hid (Dy.of_on hon WH.out.1 WH.out.lim (Ext.refl _)); clear hon)
      | (go_at_call 32; (with_reducible refine (sub_any (HA.out.dya.ext (HE.out.trans (by (with_reducible (repeat (first | exact Ext.refl _ | assumption | (refine Ext.toSet ?_ (by omega)) | refine Ext.toAlloc ?_ | refine Ext.toDrew ?_ | refine Ext.toDrewN ?_ | refine Ext.trans ?_ (by assumption)))); (first | done | fail "no")))) (HZ.out.ext (HE.out.trans (by (with_reducible (repeat (first | exact Ext.refl _ | assumption | (refine Ext.toSet ?_ (by omega)) | refine Ext.toAlloc ?_ | refine Ext.toDrew ?_ | refine Ext.toDrewN ?_ | refine Ext.trans ?_ (by assumption)))); (first | done | fail "no")))) (HT.out.ext (HE.out.trans (by (with_reducible (repeat (first | exact Ext.refl _ | assumption | (refine Ext.toSet ?_ (by omega)) | refine Ext.toAlloc ?_ | refine Ext.toDrew ?_ | refine Ext.toDrewN ?_ | refine Ext.trans ?_ (by assumption)))); (first | done | fail "no"))))).mono ?_); rw [EL.out]; rintro e1 w2' ⟨P2, f2, rfl, hon, hx1⟩; have D1 := Lib.hid (Dy.of_on hon WL.out.1 WL.out.lim (Ext.refl _)); clear hon))
  all_goals
    have HF := Lib.hid (HE.out.trans (show Ext wc w4 from (by (with_reducible (repeat (first | exact Ext.refl _ | assumption | (refine Ext.toSet ?_ (by omega)) | refine Ext.toAlloc ?_ | refine Ext.toDrew ?_ | refine Ext.toDrewN ?_ | refine Ext.trans ?_ (by assumption)))); (first | done | fail "no"))))
    have hz2 := Ext.size (show Ext wc w3 from (by (with_reducible (repeat (first | exact Ext.refl _ | assumption | (refine Ext.toSet ?_ (by omega)) | refine Ext.toAlloc ?_ | refine Ext.toDrew ?_ | refine Ext.toDrewN ?_ | refine Ext.trans ?_ (by assumption)))); (first | done | fail "no")))
    have fa := FA.out; have fb := FB.out
    (try simp only [World.size_drew] at fa fb hz2)
    go_wp2_with fail
    exact bodyPost_ret (v := .tuple #[ivd L P4 f4 H Q4 g4, .nilIface]) (by simp [results, Tryz.results15, go_sem, r0, r1, r2, r3, r4, r5]) rfl (IvOk.end6 rfl fa fb HF.out (by omega) (by (try simp); omega) (by (try simp); omega))
end

/-! ### Flr -/
section
open Go.RowKit

/-- A zero, and an error. -/
def ZErr (k : Int) (w : World) (e : Ending) (w' : World) : Prop := ∃ A c, e = .returned (.tuple #[dv false A 0 c 0, .iface 61 (I k)]) ∧ Ext w w'

set_option maxRecDepth 100000 in
set_option maxHeartbeats 1000000 in
theorem floor_err {w : World} {neg : Bool} {A : Option Addr} {n c : Nat} {den : Int} (s : Int) (hs : s < 0 ∨ 65536 < s) : Calls Tryz.prog 76 #[dv neg A n c den, I s] w (DyErr 3 w) := by
  go_enter Tryz.func76, Tryz.ntmps76
  go_wp2_with (go_at_call 157; refine (isGrid_f _ _ hs).mono ?_; rintro e w' ⟨rfl, rfl⟩)
  exact bodyPost_ret (v := .tuple #[dv false none 0 0 0, .iface 61 (I 3)]) (by simp [results, Tryz.results76, go_sem]) rfl ⟨rfl, by repeat (first | exact (Ext.alloc _ _).trans (Ext.alloc _ _) | refine Ext.set ?_ (by omega) _)⟩

/-- One box more. -/
theorem bx_new2 {w w1 : World} {o : Obj} {v0 v1 v2 : Value} {t : TypeId} (hx : Ext ((w.alloc o).alloc (.cells #[v0, v1, v2] t)) w1) : Bx w1 (w.heap.size + 1) v0 v1 v2 := by
  have s2 := Bx.new (w.alloc o) v0 v1 v2 t
  rw [show (w.alloc o).heap.size = w.heap.size + 1 by simp] at s2
  exact s2.ext hx

set_option maxRecDepth 100000 in
set_option maxHeartbeats 1000000 in
theorem ceil_any {w : World} {neg : Bool} {A A' : Option Addr} {n c c' : Nat} {den : Int} {d : DV} (k : Nat) (h : Dy w neg A n c den d A' c') (hT : Tabs w) (hk : k ≤ 65536) (hs : len d.m ≤ 1048576) : Calls Tryz.prog 77 #[dv neg A n c den, I k] w (DyOk (ceilD d k) w) := by
  have H := Lib.hid h; have HT := Lib.hid hT; clear h hT
  have hl1 := H.out.lim
  obtain ⟨X0, X1, XE⟩ : Bx ((w.alloc (.cells #[.bool neg, .slice A n c, I den] 24)).alloc (.cells #[.bool false, .slice none 0 0, I 0] 24)) w.heap.size (.bool neg) (.slice A n c) (I den) ∧
      Bx ((w.alloc (.cells #[.bool neg, .slice A n c, I den] 24)).alloc (.cells #[.bool false, .slice none 0 0, I 0] 24)) (w.heap.size + 1) (.bool false) (.slice none 0 0) (I 0) ∧
      Ext w ((w.alloc (.cells #[.bool neg, .slice A n c, I den] 24)).alloc (.cells #[.bool false, .slice none 0 0, I 0] 24)) := two_bx (Ext.refl _)
  have HX1 := Lib.hid X1; have HXE := Lib.hid XE
  clear X0 X1 XE
  obtain ⟨x, hx⟩ : ∃ x, negD d = x := ⟨_, rfl⟩
  obtain ⟨y, hy⟩ : ∃ y, floorD x k = y := ⟨_, rfl⟩
  obtain ⟨z, hz⟩ : ∃ z, negD y = z := ⟨_, rfl⟩
  have HZ : Hid (ceilD d k = z) := by show _ = _; unfold ceilD; rw [hx, hy, hz]
  rw [HZ.out]
  have hlx : len x.m ≤ len d.m := by rw [← hx]; exact len_mono (mkD_m_le _ _ _)
  have hly : len y.m ≤ len x.m + 1 := by
    have hq : ∀ j, len (x.m / 2 ^ j) ≤ len x.m := fun j => len_mono (Nat.div_le_self _ _)
    rw [← hy]; unfold floorD
    split
    · omega
    · refine Nat.le_trans (len_mono (mkD_m_le _ _ _)) ?_
      split
      · exact Nat.le_trans (len_succ _) (by have := hq (x.den - k); omega)
      · exact Nat.le_succ_of_le (hq _)
  have Wx : Hid (x.ok ∧ len x.m ≤ 16777216) := ⟨hx ▸ negD_ok _, by omega⟩
  have Wy : Hid (y.ok ∧ len y.m ≤ 16777216) := ⟨hy ▸ floorD_ok Wx.out.1 _, by omega⟩
  have Ex : Hid (negD d = x) := hx
  have Ey : Hid (floorD x k = y) := hy
  have Ez : Hid (negD y = z) := hz
  clear hx hy hz hlx hly
  go_enter Tryz.func77, Tryz.ntmps77
  go_wp2_with (first
    | (have hg := X3; clear hg; go_at_call 110; refine (neg_any (D3.out _ (Ext.alloc _ _)) (HT.out.ext (X3.out.trans (Ext.alloc _ _)))).mono ?_; rw [Ez.out]; rintro e w4 ⟨A4, c4, rfl, hon, hx⟩; obtain ⟨⟨r0, r1, r2⟩, rz⟩ := B3.out.ext ((Ext.alloc _ _).trans hx); have HO := Lib.hid hon; have X4 := Lib.hid ((X3.out.trans (Ext.alloc _ _)).trans hx); clear hon hx)
    | (go_at_call 76; refine (floor_any k (D2.out _ (Ext.refl _)) (HT.out.ext X2.out) hk).mono ?_; rw [Ey.out]; rintro e w3 ⟨A3, c3, rfl, hon, hx⟩; have D3 := Lib.hid (Dy.at_ hon Wy.out.1 Wy.out.2); have X3 := Lib.hid (X2.out.trans hx); have B3 := Lib.hid (B2.out.ext hx); clear hon hx)
    | (go_at_call 110; refine (neg_any (H.out.ext HXE.out) (HT.out.ext HXE.out)).mono ?_; rw [Ex.out]; rintro e w2 ⟨A2, c2, rfl, hon, hx⟩; have D2 := Lib.hid (Dy.at_ hon Wx.out.1 Wx.out.2); have X2 := Lib.hid (HXE.out.trans hx); have B2 := Lib.hid (HX1.out.ext hx); clear hon hx))
  all_goals
    have hsz := X3.out.size
    have hlt := B3.out.lt
    exact bodyPost_ret (v := .tuple #[dv z.neg A4 (len z.m) c4 z.den, .nilIface]) (by simp [results, Tryz.results77, go_sem, r0, r1, r2]) rfl (DyOk.end3 rfl HO.out X4.out (by simp; omega) (by omega) (by simp; omega))

set_option maxRecDepth 100000 in
set_option maxHeartbeats 1000000 in
theorem ceil_err {w : World} {neg : Bool} {A A' : Option Addr} {n c c' : Nat} {den : Int} {d : DV} (s : Int) (h : Dy w neg A n c den d A' c') (hT : Tabs w) (hs : s < 0 ∨ 65536 < s) : Calls Tryz.prog 77 #[dv neg A n c den, I s] w (ZErr 3 w) := by
  have H := Lib.hid h; have HT := Lib.hid hT; clear h hT
  obtain ⟨X0, X1, XE⟩ : Bx ((w.alloc (.cells #[.bool neg, .slice A n c, I den] 24)).alloc (.cells #[.bool false, .slice none 0 0, I 0] 24)) w.heap.size (.bool neg) (.slice A n c) (I den) ∧
      Bx ((w.alloc (.cells #[.bool neg, .slice A n c, I den] 24)).alloc (.cells #[.bool false, .slice none 0 0, I 0] 24)) (w.heap.size + 1) (.bool false) (.slice none 0 0) (I 0) ∧
      Ext w ((w.alloc (.cells #[.bool neg, .slice A n c, I den] 24)).alloc (.cells #[.bool false, .slice none 0 0, I 0] 24)) := two_bx (Ext.refl _)
  have HX1 := Lib.hid X1; have HXE := Lib.hid XE
  clear X0 X1 XE
  have HS := Lib.hid hs
  have Ez : Hid (negD DV.zero = DV.zero) := by show _ = _; unfold negD DV.zero mkD; rw [if_pos (by decide), nrm_zero]; rfl
  clear hs
  go_enter Tryz.func77, Tryz.ntmps77
  go_wp2_with (first
    | (have hg := X3; clear hg; go_at_call 110; refine (neg_any (Dy.zero _) (HT.out.ext (X3.out.trans (Ext.alloc _ _)))).mono ?_; rw [Ez.out]; rintro e w4 ⟨A4, c4, rfl, hon, hx⟩; obtain ⟨⟨r0, r1, r2⟩, rz⟩ := B3.out.ext ((Ext.alloc _ _).trans hx); have HO := Lib.hid hon; have X4 := Lib.hid ((X3.out.trans (Ext.alloc _ _)).trans hx); clear hon hx)
    | (go_at_call 76; refine (floor_err _ HS.out).mono ?_; rintro e w3 ⟨rfl, hx⟩; have X3 := Lib.hid (X2.out.trans hx); have B3 := Lib.hid (B2.out.ext hx); clear hx)
    | (go_at_call 110; refine (neg_any (H.out.ext HXE.out) (HT.out.ext HXE.out)).mono ?_; rintro e w2 ⟨A2, c2, rfl, hon, hx⟩; have X2 := Lib.hid (HXE.out.trans hx); have B2 := Lib.hid (HX1.out.ext hx); clear hon hx))
  all_goals
    exact bodyPost_ret (v := .tuple #[dv DV.zero.neg A4 (len DV.zero.m) c4 DV.zero.den, .iface 61 (I 3)]) (by simp [results, Tryz.results77, go_sem, r0, r1, r2]) rfl ⟨A4, c4, by rw [zero_len]; rfl, ext_set3 X4.out (by omega) _ _ _⟩

/-- What the reference's functions with a number of an error return. -/
def DyNum (d : DV) (w : World) (e : Ending) (w' : World) : Prop := ∃ A c, e = .returned (.tuple #[dv d.neg A (len d.m) c d.den, I 0]) ∧ On w' w.heap.size A (len d.m) c (dg d.m) ∧ Ext w w'
theorem DyNum.end3 {d : DV} {w W w2 : World} {A : Option Addr} {c g : Nat} {e : Ending} {u0 u1 u2 : Value} (he : e = .returned (.tuple #[dv d.neg A (len d.m) c d.den, I 0])) (hon : On w2 W.heap.size A (len d.m) c (dg d.m)) (hx : Ext w w2) (hW : w.heap.size ≤ W.heap.size) (hg : w.heap.size ≤ g) (hg2 : g < W.heap.size) :
    DyNum d w e (((w2.setCell ⟨g, 0, none⟩ u0).setCell ⟨g, 1, none⟩ u1).setCell ⟨g, 2, none⟩ u2) :=
  ⟨A, c, he, (hon.set3 hg2 _ _ _).mono hW, ext_set3 hx hg _ _ _⟩
theorem mkD_self {d : DV} (h : d.ok) : mkD d.neg d.m d.den = d := DV.uniq (mkD_ok _ _ _) h (by rw [q_mkD _ _ h.2.1]; rfl)
theorem plus_one (A : Option Addr) (m ca g cb : Nat) (w : World) (ha : Rd w A (len m) (dg m)) (hg : g < w.heap.size) (hc : w.cell? ⟨g, 0, none⟩ = some (U4 1)) (hL : len m ≤ 1073741824) :
    Calls Tryz.prog 123 #[.slice A (len m) ca, .slice (some ⟨g, 0, none⟩) 1 cb] w (NatRes (m + 1) w) := by
  have h := rplus_any A (some ⟨g, 0, none⟩) m 1 ca cb w ha (by
    rw [len_one]
    intro _
    refine ⟨g, 0, rfl, hg, fun i hi => ?_⟩
    obtain rfl : i = 0 := by omega
    rw [show dg 1 0 = 1 by rw [dg_zero]]
    exact hc) hL (by rw [len_one]; decide)
  rw [len_one] at h
  exact h
theorem cut_odd {m j : Nat} (h : m % 2 = 1) (hj : 0 < j) : decide (m % 2 ^ j ≠ 0) = true := by
  refine decide_eq_true fun e => ?_
  have : 2 ∣ 2 ^ j := ⟨2 ^ (j - 1), by rw [← Nat.pow_succ']; congr 1; omega⟩
  have h2 := Nat.mod_mod_of_dvd m this
  rw [e] at h2
  omega

set_option maxRecDepth 100000 in
set_option maxHeartbeats 2000000 in
theorem rfloor_any {w : World} {neg : Bool} {A A' : Option Addr} {n c c' : Nat} {den : Int} {d : DV} (k : Nat) (h : Dy w neg A n c den d A' c') (hk : k ≤ 65536) : Calls Tryz.prog 89 #[dv neg A n c den, I k] w (DyNum (floorD d k) w) := by
  have H := Lib.hid h; clear h
  have hd1 := H.out.wf.2.1
  have hl1 := H.out.lim
  by_cases hdk : d.den ≤ k
  · rw [floor_small hdk]
    have HS := Lib.hid (mkD_self H.out.wf)
    go_enter Tryz.func89, Tryz.ntmps89
    go_wp2_with (go_at_call 119; refine (H.out.norm _ ((Ext.alloc _ _).trans (Ext.alloc _ _))).mono ?_; rintro e w1 ⟨rfl, hx⟩; obtain ⟨⟨k0, k1, k2⟩, s1, hz, hx1⟩ := two_boxes hx; have S1 := Lib.hid s1; have HX := Lib.hid hx1; obtain ⟨hc, hf⟩ := hx.old; clear hx hx1 s1)
    have HW := Lib.hid (ext_set3 HX.out (Nat.le_refl _))
    (with_reducible refine (rnumber_at d.neg A' c' d.den d.m _ (H.out.rd.ext (HW.out _ _ _)) H.out.sl (by omega) (by omega)).mono ?_)
    rw [HS.out]
    rintro e w2 ⟨A2, c2, rfl, hon, hx⟩
    obtain ⟨r0, r1, r2⟩ := (S1.out.far3 (by omega) _ _ _).ext hx
    obtain ⟨hc2, hf2⟩ := hx.old
    have HX2 := Lib.hid ((HW.out _ _ _).trans hx)
    have HO := Lib.hid hon
    clear hon hx
    go_wp2_with fail
    exact bodyPost_ret (v := .tuple #[dv d.neg A2 (len d.m) c2 d.den, I 0]) (by simp [results, Tryz.results89, go_sem, r0, r1, r2]) rfl (DyNum.end3 rfl HO.out HX2.out (by simp; omega) (by omega) (by simp; omega))
  · have hdk' : k < d.den := by omega
    obtain ⟨j, hj⟩ : ∃ j, d.den - k = j := ⟨_, rfl⟩
    have ej : (d.den : Int) - (k : Int) = (j : Int) := by omega
    have hjl : j ≤ 65536 := by omega
    have hcut := cut_odd (H.out.wf.2.2 (by omega)) (show 0 < j by omega)
    rw [floor_big hdk', hj]
    clear hj
    have hl2 : len (d.m / 2 ^ j) ≤ 16777216 := Nat.le_trans (len_mono (Nat.div_le_self _ _)) hl1
    have hl3 := len_succ (d.m / 2 ^ j)
    have HCUT := Lib.hid hcut
    obtain ⟨x, hx⟩ : ∃ x, d.m / 2 ^ j = x := ⟨_, rfl⟩
    rw [hx] at hl2 hl3
    rw [hx]
    have HX := Lib.hid hx
    clear hx hcut
    cases hn : d.neg with
    | false =>
      have HD' : Hid (mkD false x k = mkD false (x + if false = true then 1 else 0) k) := by
        show _ = _; rfl
      generalize mkD false (x + if false = true then 1 else 0) k = d' at *
      clear hl3
      go_enter Tryz.func89, Tryz.ntmps89
      go_upto_region 3 with fail
      go_cut [] (fun wx => One w d A' c' wx)
      case first =>
        go_wp2_with (go_at_call 119; refine (H.out.norm _ ((Ext.alloc _ _).trans (Ext.alloc _ _))).mono ?_; rintro e w1 ⟨rfl, hx⟩; obtain ⟨hc, hf⟩ := hx.old; have HO := Lib.hid (one_of (a := d) (A := A') (ca := c') hx); clear hx)
        go_meet
        have := HO.out
        rw [hn] at this
        exact this
      case rest =>
        have HO := Lib.hid hcut
        obtain ⟨hE, ⟨⟨k0, k1, k2⟩, g0⟩, ⟨⟨r0, r1, r2⟩, g1⟩⟩ := hcut
        rw [hn] at k0
        have HE := Lib.hid hE
        clear hE
        go_wp2_with (first
          | (go_at_call 159; (with_reducible refine (rright_any A' d.m j c' _ (H.out.rd.ext HE.out) (by omega) (by omega)).mono ?_); rintro e w2 ⟨A2, c2, rfl, hon, hx⟩; rw [HX.out] at hon; rw [HX.out]; obtain ⟨hE2, ⟨⟨k0, k1, k2⟩, g0⟩, ⟨⟨r0, r1, r2⟩, g1⟩⟩ := keepO HO.out hx; rw [hn] at k0; have HE2 := Lib.hid hE2; have HON := Lib.hid hon; have HX2 := Lib.hid hx; clear hE2 hon hx)
          | (go_at_call 120; (with_reducible refine (rnumber_at false A2 c2 k x _ HON.out.rd HON.out.ok (by omega) (by omega)).mono ?_); rw [HD'.out]; rintro e w3 ⟨A3, c3, rfl, hon, hx⟩; obtain ⟨hE3, ⟨⟨k0, k1, k2⟩, g0⟩, ⟨⟨r0, r1, r2⟩, g1⟩⟩ := keepO HO.out (HX2.out.trans hx); have HE3 := Lib.hid hE3; have HON3 := Lib.hid hon; clear hE3 hon; have hsz := HX2.out.size; clear hx))
        have hlt := (keepO HO.out HX2.out).2.2.lt
        exact bodyPost_ret (v := .tuple #[dv d'.neg A3 (len d'.m) c3 d'.den, I 0]) (by simp [results, Tryz.results89, go_sem, r0, r1, r2]) rfl (DyNum.end3 rfl HON3.out HE3.out (by omega) (by omega) hlt)
    | true =>
      have HD' : Hid (mkD true (x + 1) k = mkD true (x + if true = true then 1 else 0) k) := by
        show _ = _; rfl
      generalize mkD true (x + if true = true then 1 else 0) k = d' at *
      go_enter Tryz.func89, Tryz.ntmps89
      go_upto_region 3 with fail
      go_cut [] (fun wx => One w d A' c' wx)
      case first =>
        go_wp2_with (go_at_call 119; refine (H.out.norm _ ((Ext.alloc _ _).trans (Ext.alloc _ _))).mono ?_; rintro e w1 ⟨rfl, hx⟩; obtain ⟨hc, hf⟩ := hx.old; have HO := Lib.hid (one_of (a := d) (A := A') (ca := c') hx); clear hx)
        go_meet
        have := HO.out
        rw [hn] at this
        exact this
      case rest =>
        have HO := Lib.hid hcut
        obtain ⟨hE, ⟨⟨k0, k1, k2⟩, g0⟩, ⟨⟨r0, r1, r2⟩, g1⟩⟩ := hcut
        rw [hn] at k0
        have HE := Lib.hid hE
        clear hE
        go_wp2_with (first
          | (go_at_call 159; (with_reducible refine (rright_any A' d.m j c' _ (H.out.rd.ext HE.out) (by omega) (by omega)).mono ?_); rintro e w2 ⟨A2, c2, rfl, hon, hx⟩; rw [HX.out] at hon; rw [HX.out, HCUT.out]; obtain ⟨hE2, ⟨⟨k0, k1, k2⟩, g0⟩, ⟨⟨r0, r1, r2⟩, g1⟩⟩ := keepO HO.out hx; rw [hn] at k0; have HE2 := Lib.hid hE2; have HON := Lib.hid hon; have HX2 := Lib.hid hx; clear hE2 hon hx)
          | (go_at_call 123; refine (plus_one A2 x c2 w2.heap.size 1 _ (HON.out.rd.ext (Ext.alloc _ _)) (by simp) (by go_simp) (by omega)).mono ?_; rintro e w4 ⟨A4, c4, rfl, hon, hx⟩; obtain ⟨hE4, ⟨⟨k0, k1, k2⟩, g0⟩, ⟨⟨r0, r1, r2⟩, g1⟩⟩ := keepO HO.out ((HX2.out.trans (Ext.alloc _ _)).trans hx); rw [hn] at k0; have HE4 := Lib.hid hE4; have HON4 := Lib.hid hon; have HX4 := Lib.hid ((HX2.out.trans (Ext.alloc _ _)).trans hx); clear hE4 hon hx)
          | (go_at_call 120; (with_reducible refine (rnumber_at true A4 c4 k (x + 1) _ HON4.out.rd HON4.out.ok (by omega) (by omega)).mono ?_); rw [HD'.out]; rintro e w5 ⟨A5, c5, rfl, hon, hx⟩; obtain ⟨hE5, ⟨⟨k0, k1, k2⟩, g0⟩, ⟨⟨r0, r1, r2⟩, g1⟩⟩ := keepO HO.out (HX4.out.trans hx); have HE5 := Lib.hid hE5; have HON5 := Lib.hid hon; clear hE5 hon hx))
        have hlt := (keepO HO.out HX4.out).2.2.lt
        exact bodyPost_ret (v := .tuple #[dv d'.neg A5 (len d'.m) c5 d'.den, I 0]) (by simp [results, Tryz.results89, go_sem, r0, r1, r2]) rfl (DyNum.end3 rfl HON5.out HE5.out (by omega) (by omega) hlt)
end

/-! ### Flm -/
section
open Go.RowKit

theorem sgn_le {r : Rat} (h : sgn r ≤ 0) : r ≤ 0 := by
  unfold sgn at h
  split at h
  · grind
  · split at h
    · exact absurd h (by decide)
    · grind
theorem sgn_lt {r : Rat} (h : sgn r < 0) : r < 0 := by
  unfold sgn at h
  split at h
  · assumption
  · split at h
    · exact absurd h (by decide)
    · exact absurd h (by decide)
theorem le_sgn {r : Rat} (h : r ≤ 0) : sgn r ≤ 0 := by
  unfold sgn
  split
  · decide
  · split
    · exfalso; grind
    · decide
theorem lt_sgn {r : Rat} (h : r < 0) : sgn r < 0 := by
  unfold sgn; rw [if_pos h]; decide
theorem ge_sgn {r : Rat} (h : 0 ≤ r) : 0 ≤ sgn r := by
  unfold sgn
  split
  · exfalso; grind
  · split <;> decide
theorem cmpF_le {x y : Nat} (h : x ≤ y) : cmpF x y ≤ 0 := by unfold cmpF; split; decide; split; omega; decide
theorem cmpF_lt {x y : Nat} (h : x < y) : cmpF x y < 0 := by unfold cmpF; rw [if_pos h]; decide

theorem floor_q {a : DV} (h : a.ok) (k : Nat) (hk : k ≤ 65536) : (floorD a k).q ≤ a.q ∧ a.q < (floorD a k).q + qOf false 1 k := by
  have hu : (0 : Rat) < qOf false 1 k := by
    have := q_pos_of (neg := false) (m := 1) (k := k) (by decide)
    simpa using this
  by_cases hd : a.den ≤ k
  · rw [floor_small hd]
    constructor <;> grind
  · have hd' : k < a.den := by omega
    obtain ⟨j, hj⟩ : ∃ j, a.den - k = j := ⟨_, rfl⟩
    have hkj : a.den = k + j := by omega
    have hj0 : 0 < j := by omega
    have hodd := h.2.2 (by omega)
    have hc := of_decide_eq_true (cut_odd hodd hj0)
    have hdm := Nat.div_add_mod a.m (2 ^ j)
    have hml := Nat.mod_lt a.m (Nat.pow_pos (n := j) (show 0 < 2 by decide))
    rw [floor_big hd', q_mkD _ _ hk, hj]
    obtain ⟨x, hx⟩ : ∃ x, a.m / 2 ^ j = x := ⟨_, rfl⟩
    rw [hx] at hdm ⊢
    have e1 : x * 2 ^ j < a.m := by rw [Nat.mul_comm]; omega
    have e2 : a.m < (x + 1) * 2 ^ j := by rw [Nat.add_mul, Nat.mul_comm x]; omega
    have aq : a.q = qOf a.neg a.m (k + j) := by unfold DV.q; rw [hkj]
    cases hn : a.neg with
    | false =>
      rw [hn] at aq
      have s1 := qOf_sgn_sub false (x * 2 ^ j) a.m (k + j)
      have s2 := qOf_sgn_sub false a.m ((x + 1) * 2 ^ j) (k + j)
      rw [qOf_shift, ← aq] at s1
      rw [qOf_shift, ← aq, qOf_add] at s2
      have t1 := sgn_lt (r := qOf false x k - a.q) (by rw [s1]; exact cmpF_lt e1)
      have t2 := sgn_lt (r := a.q - (qOf false x k + qOf false 1 k)) (by rw [s2]; exact cmpF_lt e2)
      show qOf false (x + 0) k ≤ a.q ∧ a.q < qOf false (x + 0) k + qOf false 1 k
      rw [Nat.add_zero]
      constructor <;> grind
    | true =>
      rw [hn] at aq
      have s1 := qOf_sgn_sub true ((x + 1) * 2 ^ j) a.m (k + j)
      have s2 := qOf_sgn_sub true a.m (x * 2 ^ j) (k + j)
      rw [qOf_shift, ← aq] at s1
      rw [qOf_shift, ← aq] at s2
      have t1 := sgn_lt (r := qOf true (x + 1) k - a.q) (by rw [s1]; exact cmpF_lt e2)
      have t2 := sgn_lt (r := a.q - qOf true x k) (by rw [s2]; exact cmpF_lt e1)
      have e3 := qOf_add true x 1 k
      have e4 := qOf_not false 1 k
      show qOf true (x + 1) k ≤ a.q ∧ a.q < qOf true (x + 1) k + qOf false 1 k
      have e5 : qOf true 1 k = -(qOf false 1 k) := e4
      constructor <;> grind
theorem grid_q (k : Nat) (hk : k ≤ 65536) : (ofI 1 k).q = qOf false 1 k := by unfold ofI; rw [q_mkD _ _ hk]; rfl
theorem neg_neg_D {a : DV} (h : a.ok) : negD (negD a) = a := DV.uniq (negD_ok _) h (by rw [q_negD (negD_ok a), q_negD h]; grind)
theorem floor_cmp {a : DV} (h : a.ok) (k : Nat) (hk : k ≤ 65536) : cmpD (floorD a k) a ≤ 0 ∧ cmpD a (addD (floorD a k) (ofI 1 k)) < 0 := by
  obtain ⟨h1, h2⟩ := floor_q h k hk
  rw [cmpD_sgn (floorD_ok h k) h, cmpD_sgn h (addD_ok _ _), q_addD (floorD_ok h k) (ofI_ok _ _), grid_q k hk]
  exact ⟨le_sgn (by grind), lt_sgn (by grind)⟩
theorem ceil_cmp {a : DV} (h : a.ok) (k : Nat) (hk : k ≤ 65536) : 0 ≤ cmpD (ceilD a k) a ∧ cmpD (subD (ceilD a k) (ofI 1 k)) a < 0 := by
  obtain ⟨h1, h2⟩ := floor_q (negD_ok a) k hk
  have hc : (ceilD a k).q = -(floorD (negD a) k).q := by unfold ceilD; rw [q_negD (floorD_ok (negD_ok a) k)]
  have hco : (ceilD a k).ok := negD_ok _
  rw [q_negD h] at h1 h2
  rw [cmpD_sgn hco h, cmpD_sgn (subD_ok _ _) h, q_subD hco (ofI_ok _ _), grid_q k hk, hc]
  exact ⟨ge_sgn (by grind), lt_sgn (by grind)⟩
theorem back_floor {a : DV} (h : a.ok) (k : Nat) : negD (ceilD (negD a) k) = floorD a k := by
  unfold ceilD
  rw [neg_neg_D h, neg_neg_D (floorD_ok h k)]
theorem floor_den {a : DV} (k : Nat) (hk : k ≤ 65536) : (floorD a k).den ≤ k := by
  unfold floorD; split
  · assumption
  · exact den_le _ _ _ hk
theorem ceil_den {a : DV} (k : Nat) (hk : k ≤ 65536) : (ceilD a k).den ≤ k := by
  unfold ceilD
  have h1 := floor_den (a := negD a) k hk
  exact Nat.le_trans (den_neg (by omega)) h1
theorem lim_floor (a : DV) (k : Nat) : len (floorD a k).m ≤ len a.m + 1 := by
  have hq : ∀ j, len (a.m / 2 ^ j) ≤ len a.m := fun j => len_mono (Nat.div_le_self _ _)
  unfold floorD
  split
  · omega
  · refine Nat.le_trans (len_mono (mkD_m_le _ _ _)) ?_
    split
    · exact Nat.le_trans (len_succ _) (by have := hq (a.den - k); omega)
    · exact Nat.le_succ_of_le (hq _)
theorem lim_ceil (a : DV) (k : Nat) : len (ceilD a k).m ≤ len a.m + 1 := by
  unfold ceilD
  have h1 := lim_floor (negD a) k
  have h2 := lim_neg a
  have h3 := lim_neg (floorD (negD a) k)
  omega
end

/-! ### Ilro -/
section
open Go.RowKit
attribute [local go_sem ↓] Go.wp_at_zero Go.wp_at_succ

set_option maxHeartbeats 400000 in
theorem rfloor_err {w : World} {neg : Bool} {A : Option Addr} {n c : Nat} {den : Int} (s : Int) (hs : s < 0 ∨ 65536 < s) : Calls Tryz.prog 89 #[dv neg A n c den, I s] w fun e w' => e = .returned (.tuple #[dv false none 0 0 0, I 3]) ∧ Ext w w' := by
  rcases hs with hs | hs
  · go_enter Tryz.func89, Tryz.ntmps89
    go_wp2
    exact bodyPost_ret (v := .tuple #[dv false none 0 0 0, I 3]) (by simp [results, Tryz.results89, go_sem]) rfl ⟨rfl, by repeat (first | exact (Ext.alloc _ _).trans (Ext.alloc _ _) | refine Ext.set ?_ (by omega) _)⟩
  · have h2 : ¬ s < 0 := by omega
    go_enter Tryz.func89, Tryz.ntmps89
    go_wp2
    exact bodyPost_ret (v := .tuple #[dv false none 0 0 0, I 3]) (by simp [results, Tryz.results89, go_sem]) rfl ⟨rfl, by repeat (first | exact (Ext.alloc _ _).trans (Ext.alloc _ _) | refine Ext.set ?_ (by omega) _)⟩
theorem RvOk.more {a b : DV} {w w' w2 : World} {e : Ending} (h : RvOk a b w e w') (hx : Ext w' w2) : RvOk a b w e w2 := by
  obtain ⟨A, c, B, k, he, h1, h2, h3⟩ := h
  exact ⟨A, c, B, k, he, h1.ext hx, h2.ext hx, h3.trans hx⟩
theorem two_b3 (w : World) (u0 u1 u2 v0 v1 v2 : Value) (t t' : TypeId) : Bx ((w.alloc (.cells #[u0, u1, u2] t)).alloc (.cells #[v0, v1, v2] t')) w.heap.size u0 u1 u2 ∧ Bx ((w.alloc (.cells #[u0, u1, u2] t)).alloc (.cells #[v0, v1, v2] t')) (w.heap.size + 1) v0 v1 v2 ∧ Ext w ((w.alloc (.cells #[u0, u1, u2] t)).alloc (.cells #[v0, v1, v2] t')) :=
  ⟨(Bx.new w u0 u1 u2 t).ext (Ext.alloc _ _), bx_new2 (Ext.refl _), (Ext.alloc _ _).trans (Ext.alloc _ _)⟩


set_option maxRecDepth 100000 in
set_option maxHeartbeats 2000000 in
theorem rceil_ok {w : World} {neg : Bool} {A A' : Option Addr} {n c c' : Nat} {den : Int} {d : DV} (k : Nat) (h : Dy w neg A n c den d A' c') (hk : k ≤ 65536) (hl : len d.m ≤ 1048576) : Calls Tryz.prog 90 #[dv neg A n c den, I k] w (DyNum (ceilD d k) w) := by
  obtain ⟨t, ht⟩ : ∃ t, negD d = t := ⟨_, rfl⟩
  have ot : t.ok := ht ▸ negD_ok _
  have lt : len t.m ≤ 16777216 := by rw [← ht]; have := lim_neg d; have := h.lim; omega
  obtain ⟨f, hf⟩ : ∃ f, floorD t k = f := ⟨_, rfl⟩
  have of : f.ok := hf ▸ floorD_ok ot _
  have lf : len f.m ≤ 16777216 := by rw [← hf]; have := lim_floor t k; rw [← ht] at this ⊢; have := lim_neg d; omega
  have EC : Hid (negD f = ceilD d k) := by show _ = _; rw [← hf, ← ht]; rfl
  obtain ⟨o, ho⟩ : ∃ o, ceilD d k = o := ⟨_, rfl⟩
  rw [ho] at EC ⊢
  have ET := Lib.hid ht; have EF := Lib.hid hf; have HH := Lib.hid h; have HK := Lib.hid hk; have OT := Lib.hid ot; have LT := Lib.hid lt; have OF := Lib.hid of; have LF := Lib.hid lf
  clear ht hf h hk ho hl ot lt of lf
  obtain ⟨X0, X1, XE⟩ := two_b3 w (.bool neg) (.slice A n c) (I den) (.bool false) (.slice none 0 0) (I 0) 24 24
  have HX1 := Lib.hid X1; have HE := Lib.hid XE
  obtain ⟨⟨a0, a1, a2⟩, a3⟩ := X0
  clear X1 XE
  generalize hWc : (w.alloc (.cells #[.bool neg, .slice A n c, I den] 24)).alloc (.cells #[.bool false, .slice none 0 0, I 0] 24) = wc at *
  go_enter Tryz.func90, Tryz.ntmps90
  go_upto_region 1 with fail
  (try rw [hWc])
  clear hWc
  go_wp2_with (first
    | (have hg := hx2; clear hg; go_at_call 85; (with_reducible refine (rneg_any (D2.out.ext (Ext.alloc _ _))).mono ?_); rw [EC.out]; rintro e w3 ⟨A3, c3, rfl, hon, hx3⟩; have HO := Lib.hid hon; clear hon; have HF := Lib.hid (HE.out.trans (hx1.trans (hx2.trans ((Ext.alloc _ _).trans hx3)))); obtain ⟨⟨r0, r1, r2⟩, rz⟩ := HX1.out.ext (hx1.trans (hx2.trans ((Ext.alloc _ _).trans hx3))); have lr := (HX1.out.ext hx1).lt; have z2 := hx2.size)
    | (have hg := hx1; clear hg; go_at_call 89; (with_reducible refine (rfloor_any k D1.out HK.out).mono ?_); rw [EF.out]; rintro e w2 ⟨A2, c2, rfl, hon, hx2⟩; have D2 := Lib.hid (Dy.of_on hon OF.out LF.out (Ext.refl _)); clear hon)
    | (go_at_call 85; (with_reducible refine (rneg_any (HH.out.ext HE.out)).mono ?_); rw [ET.out]; rintro e w1 ⟨A1, c1, rfl, hon, hx1⟩; have D1 := Lib.hid (Dy.of_on hon OT.out LT.out (Ext.refl _)); clear hon a0 a1 a2 a3))
  have ho := HO.out
  simp only [World.size_alloc] at ho
  exact bodyPost_ret (v := .tuple #[dv o.neg A3 (len o.m) c3 o.den, I 0]) (by simp [results, Tryz.results90, go_sem, r0, r1, r2]) rfl ⟨A3, c3, rfl, (ho.set3 (g := w.heap.size + 1) (by omega) _ _ _).mono (by omega), ext_set3 HF.out (by omega) _ _ _⟩


set_option maxRecDepth 100000 in
set_option maxHeartbeats 2000000 in
theorem rceil_err {w : World} {neg : Bool} {A A' : Option Addr} {n c c' : Nat} {den : Int} {d : DV} (k : Int) (h : Dy w neg A n c den d A' c') (hk : k < 0 ∨ 65536 < k) : Calls Tryz.prog 90 #[dv neg A n c den, I k] w (fun e w' => ∃ n0 A0 l0 c0 d0, e = .returned (.tuple #[dv n0 A0 l0 c0 d0, I 3]) ∧ Ext w w') := by
  obtain ⟨t, ht⟩ : ∃ t, negD d = t := ⟨_, rfl⟩
  have ot : t.ok := ht ▸ negD_ok _
  have lt : len t.m ≤ 16777216 := by rw [← ht]; have := lim_neg d; have := h.lim; omega
  have ET := Lib.hid ht; have HH := Lib.hid h; have HK := Lib.hid hk; have OT := Lib.hid ot; have LT := Lib.hid lt
  clear ht h hk ot lt
  obtain ⟨X0, X1, XE⟩ := two_b3 w (.bool neg) (.slice A n c) (I den) (.bool false) (.slice none 0 0) (I 0) 24 24
  have HX1 := Lib.hid X1; have HE := Lib.hid XE
  obtain ⟨⟨a0, a1, a2⟩, a3⟩ := X0
  clear X1 XE
  generalize hWc : (w.alloc (.cells #[.bool neg, .slice A n c, I den] 24)).alloc (.cells #[.bool false, .slice none 0 0, I 0] 24) = wc at *
  go_enter Tryz.func90, Tryz.ntmps90
  go_upto_region 1 with fail
  (try rw [hWc])
  clear hWc
  go_wp2_with (first
    | (have hg := hx2; clear hg; go_at_call 85; (with_reducible refine (rneg_any (Dy.zero _)).mono ?_); rintro e w3 ⟨A3, c3, rfl, hon, hx3⟩; have HO := Lib.hid hon; clear hon; have HF := Lib.hid (HE.out.trans (hx1.trans (hx2.trans ((Ext.alloc _ _).trans hx3)))); obtain ⟨⟨r0, r1, r2⟩, rz⟩ := HX1.out.ext (hx1.trans (hx2.trans ((Ext.alloc _ _).trans hx3))); have lr := (HX1.out.ext hx1).lt; have z2 := hx2.size)
    | (have hg := hx1; clear hg; go_at_call 89; (with_reducible refine (rfloor_err k HK.out).mono ?_); rintro e w2 ⟨rfl, hx2⟩)
    | (go_at_call 85; (with_reducible refine (rneg_any (HH.out.ext HE.out)).mono ?_); rw [ET.out]; rintro e w1 ⟨A1, c1, rfl, hon, hx1⟩; have D1 := Lib.hid (Dy.of_on hon OT.out LT.out (Ext.refl _)); clear hon a0 a1 a2 a3))
  exact bodyPost_ret (v := .tuple #[dv (negD DV.zero).neg A3 (len (negD DV.zero).m) c3 (negD DV.zero).den, I 3]) (by simp [results, Tryz.results90, go_sem, r0, r1, r2]) rfl ⟨_, _, _, _, _, rfl, ext_set3 HF.out (by omega) _ _ _⟩

set_option maxRecDepth 100000 in
set_option maxHeartbeats 4000000 in
theorem riround_err {w : World} {n1 n2 : Bool} {A B A' B' : Option Addr} {k c m e c' e' : Nat} {d1 d2 : Int} {a b : DV} (ha : Iw w n1 A k c d1 n2 B m e d2 a b A' c' B' e') (j : Int) (hj : j < 0 ∨ 65536 < j) :
    Calls Tryz.prog 21 #[iv n1 A k c d1 n2 B m e d2, I j] w (RvErr 3 w) := by
  have HJ := Lib.hid hj; have HA := Lib.hid ha; clear hj ha
  obtain ⟨X0, XZ, XE⟩ := boxes2 w n1 n2 A B k c m e d1 d2
  have HX0 := Lib.hid X0; have HXZ := Lib.hid XZ; have HXE := Lib.hid XE
  clear X0 XZ XE
  go_enter Tryz.func21, Tryz.ntmps21
  go_upto_region 1 with fail
  go_cut [] (fun wx => OneI w a b A' c' B' e' wx)
  case first =>
    obtain ⟨⟨k0, k1, k2, k3, k4, k5⟩, kz⟩ := HX0.out
    go_wp2_with (go_at_call 78; (with_reducible refine (HA.out.nrm _ HXE.out).mono ?_); rintro e1 w1 ⟨rfl, hx⟩; clear k0 k1 k2 k3 k4 k5 kz; obtain ⟨⟨k0, k1, k2, k3, k4, k5⟩, kz⟩ := HX0.out.ext hx; have HX := Lib.hid hx; clear hx)
    go_meet
    exact oneI_of HX0.out HXZ.out HXE.out HX.out
  case rest =>
  clear HX0 HXZ HXE
  obtain ⟨hE, hX0, hXZ⟩ := hcut
  have HE := Lib.hid hE; have HX0 := Lib.hid hX0; have HXZ := Lib.hid hXZ
  clear hE hX0 hXZ
  have lz := HXZ.out.lt
  have hew := HE.out.size
  obtain ⟨⟨k0, k1, k2, k3, k4, k5⟩, kz⟩ := HX0.out
  go_wp2_with (first
    | (have hg := hx1; clear hg; go_at_call 90; (with_reducible refine (rceil_err j (HA.out.dyb.ext (HE.out.trans (hx1.trans (Ext.alloc _ _)))) HJ.out).mono ?_); rintro e1 w2 ⟨n0, P2, l0, f2, e0, rfl, hx2⟩; obtain ⟨⟨r0, r1, r2, r3, r4, r5⟩, rz⟩ := HXZ.out.ext (hx1.trans ((Ext.alloc _ _).trans hx2)); have lr := (HXZ.out.ext (hx1.trans ((Ext.alloc _ _).trans hx2))).lt; have HF := Lib.hid (HE.out.trans (hx1.trans ((Ext.alloc _ _).trans hx2))); clear k0 k1 k2 k3 k4 k5 kz)
    | (go_at_call 89; (with_reducible refine (rfloor_err j HJ.out).mono ?_); rintro e1 w1 ⟨rfl, hx1⟩; clear k0 k1 k2 k3 k4 k5 kz; obtain ⟨⟨k0, k1, k2, k3, k4, k5⟩, kz⟩ := HX0.out.ext (hx1.trans (Ext.alloc w1 (.cells #[.bool false, .slice none 0 0, I 0] 24)))))
  have ln : ¬ (w.heap.size + 1 = w2.heap.size) := by omega
  exact bodyPost_ret (v := .tuple #[iv false none 0 0 0 false none 0 0 0, I 3]) (by simp [results, Tryz.results21, go_sem, World.cell?_alloc_old, ln, r0, r1, r2, r3, r4, r5]) rfl ⟨rfl, (ext_set6 HF.out (by omega) _ _ _ _ _ _).trans (Ext.alloc _ _)⟩

set_option maxRecDepth 100000 in
set_option maxHeartbeats 4000000 in
theorem riround_ok {w : World} {n1 n2 : Bool} {A B A' B' : Option Addr} {k c m e c' e' : Nat} {d1 d2 : Int} {a b : DV} (ha : Iw w n1 A k c d1 n2 B m e d2 a b A' c' B' e') (j : Nat) (hj : j ≤ 65536) :
    Calls Tryz.prog 21 #[iv n1 A k c d1 n2 B m e d2, I j] w (RvOk (floorD a j) (ceilD b j) w) := by
  have of : (floorD a j).ok := floorD_ok ha.wa.1 _
  have oc : (ceilD b j).ok := negD_ok _
  have lf : len (floorD a j).m ≤ 16777216 := by have := lim_floor a j; have := ha.wa.2; omega
  have lc : len (ceilD b j).m ≤ 16777216 := by have := lim_ceil b j; have := ha.wb.2; omega
  have LB : Hid (len b.m ≤ 1048576) := ha.wb.2
  obtain ⟨f, hf⟩ : ∃ f, floorD a j = f := ⟨_, rfl⟩; obtain ⟨g, hg⟩ : ∃ g, ceilD b j = g := ⟨_, rfl⟩
  rw [hf, hg] 
  rw [hf] at of lf; rw [hg] at oc lc
  have EF := Lib.hid hf; have EG := Lib.hid hg; have OF := Lib.hid of; have OC := Lib.hid oc; have LF := Lib.hid lf; have LC := Lib.hid lc
  have HJ := Lib.hid hj; have HA := Lib.hid ha; clear hf hg of oc lf lc hj ha
  obtain ⟨X0, XZ, XE⟩ := boxes2 w n1 n2 A B k c m e d1 d2
  have HX0 := Lib.hid X0; have HXZ := Lib.hid XZ; have HXE := Lib.hid XE
  clear X0 XZ XE
  go_enter Tryz.func21, Tryz.ntmps21
  go_upto_region 1 with fail
  go_cut [] (fun wx => OneI w a b A' c' B' e' wx)
  case first =>
    obtain ⟨⟨k0, k1, k2, k3, k4, k5⟩, kz⟩ := HX0.out
    go_wp2_with (go_at_call 78; (with_reducible refine (HA.out.nrm _ HXE.out).mono ?_); rintro e1 w1 ⟨rfl, hx⟩; clear k0 k1 k2 k3 k4 k5 kz; obtain ⟨⟨k0, k1, k2, k3, k4, k5⟩, kz⟩ := HX0.out.ext hx; have HX := Lib.hid hx; clear hx)
    go_meet
    exact oneI_of HX0.out HXZ.out HXE.out HX.out
  case rest =>
  clear HX0 HXZ HXE
  obtain ⟨hE, hX0, hXZ⟩ := hcut
  have HE := Lib.hid hE; have HX0 := Lib.hid hX0; have HXZ := Lib.hid hXZ
  clear hE hX0 hXZ
  have lz := HXZ.out.lt
  have hew := HE.out.size
  obtain ⟨⟨k0, k1, k2, k3, k4, k5⟩, kz⟩ := HX0.out
  go_wp2_with (first
    | (have hg := hx1; clear hg; go_at_call 90; (with_reducible refine (rceil_ok j (HA.out.dyb.ext (HE.out.trans (hx1.trans (Ext.alloc _ _)))) HJ.out LB.out).mono ?_); rw [EG.out]; rintro e1 w2 ⟨P2, f2, rfl, hon, hx2⟩; have O2 := Lib.hid hon; clear hon; obtain ⟨⟨i0, i1, i2⟩, iz⟩ := (Bx.new w1 (.bool f.neg) (.slice P1 (len f.m) f1) (I f.den) 24).ext hx2; have li := ((Bx.new w1 (.bool f.neg) (.slice P1 (len f.m) f1) (I f.den) 24).ext hx2).lt; obtain ⟨⟨r0, r1, r2, r3, r4, r5⟩, rz⟩ := HXZ.out.ext (hx1.trans ((Ext.alloc _ _).trans hx2)); have lr := (HXZ.out.ext (hx1.trans ((Ext.alloc _ _).trans hx2))).lt; have z1 := hx1.size; have z2 := hx2.size; clear k0 k1 k2 k3 k4 k5 kz)
    | (go_at_call 89; (with_reducible refine (rfloor_any j (HA.out.dya.ext HE.out) HJ.out).mono ?_); rw [EF.out]; rintro e1 w1 ⟨P1, f1, rfl, hon, hx1⟩; have O1 := Lib.hid hon; clear hon k0 k1 k2 k3 k4 k5 kz; obtain ⟨⟨k0, k1, k2, k3, k4, k5⟩, kz⟩ := HX0.out.ext (hx1.trans (Ext.alloc w1 (.cells #[.bool f.neg, .slice P1 (len f.m) f1, I f.den] 24)))))
  have F1 := Lib.hid ((O1.out.fr).ext ((Ext.alloc _ _).trans hx2))
  have F2 := Lib.hid O2.out.fr
  have HF := Lib.hid (HE.out.trans (hx1.trans ((Ext.alloc _ _).trans hx2)))
  have fa := F1.out; have fb := F2.out
  simp only [World.size_alloc] at fb
  have ln : ¬ (w.heap.size + 1 = w2.heap.size) := by omega
  exact bodyPost_ret (v := .tuple #[ivd f P1 f1 g P2 f2, I 0]) (by simp [results, Tryz.results21, go_sem, World.cell?_alloc_old, ln, r0, r1, r2, r3, r4, r5]) rfl ((RvOk.end6 rfl fa fb HF.out (by omega) (by omega) (by omega)).more (Ext.alloc _ _))

set_option maxRecDepth 100000 in
set_option maxHeartbeats 4000000 in
theorem iround_err {w : World} {n1 n2 : Bool} {A B A' B' : Option Addr} {k c m e c' e' : Nat} {d1 d2 : Int} {a b : DV} (ha : Iw w n1 A k c d1 n2 B m e d2 a b A' c' B' e') (hT : Tabs w) (j : Int) (hj : j < 0 ∨ 65536 < j) :
    Calls Tryz.prog 17 #[iv n1 A k c d1 n2 B m e d2, I j] w (IvErr 3 w) := by
  have HJ := Lib.hid hj; have HA := Lib.hid ha; have HT := Lib.hid hT; clear hj ha hT
  obtain ⟨X0, XZ, XE⟩ := boxes2 w n1 n2 A B k c m e d1 d2
  have HX0 := Lib.hid X0; have HXZ := Lib.hid XZ; have HXE := Lib.hid XE
  clear X0 XZ XE
  go_enter Tryz.func17, Tryz.ntmps17
  go_upto_region 1 with fail
  go_cut [] (fun wx => OneI w a b A' c' B' e' wx)
  case first =>
    obtain ⟨⟨k0, k1, k2, k3, k4, k5⟩, kz⟩ := HX0.out
    go_wp2_with (go_at_call 66; (with_reducible refine (HA.out.itv _ HXE.out).mono ?_); rintro e1 w1 ⟨rfl, hx⟩; clear k0 k1 k2 k3 k4 k5 kz; obtain ⟨⟨k0, k1, k2, k3, k4, k5⟩, kz⟩ := HX0.out.ext hx; have HX := Lib.hid hx; clear hx)
    go_meet
    exact oneI_of HX0.out HXZ.out HXE.out HX.out
  case rest =>
  clear HX0 HXZ HXE
  obtain ⟨hE, hX0, hXZ⟩ := hcut
  have HE := Lib.hid hE; have HX0 := Lib.hid hX0; have HXZ := Lib.hid hXZ
  clear hE hX0 hXZ
  have lz := HXZ.out.lt
  have hew := HE.out.size
  obtain ⟨⟨k0, k1, k2, k3, k4, k5⟩, kz⟩ := HX0.out
  go_wp2_with (first
    | (have hg := hx1; clear hg; go_at_call 77; (with_reducible refine (ceil_err j (HA.out.dyb.ext (HE.out.trans (hx1.trans (Ext.alloc _ _)))) (HT.out.ext (HE.out.trans (hx1.trans (Ext.alloc _ _)))) HJ.out).mono ?_); rintro e1 w2 ⟨P2, f2, rfl, hx2⟩; obtain ⟨⟨r0, r1, r2, r3, r4, r5⟩, rz⟩ := HXZ.out.ext (hx1.trans ((Ext.alloc _ _).trans hx2)); have lr := (HXZ.out.ext (hx1.trans ((Ext.alloc _ _).trans hx2))).lt; have HF := Lib.hid (HE.out.trans (hx1.trans ((Ext.alloc _ _).trans hx2))); clear k0 k1 k2 k3 k4 k5 kz)
    | (go_at_call 76; (with_reducible refine (floor_err j HJ.out).mono ?_); rintro e1 w1 ⟨rfl, hx1⟩; clear k0 k1 k2 k3 k4 k5 kz; obtain ⟨⟨k0, k1, k2, k3, k4, k5⟩, kz⟩ := HX0.out.ext (hx1.trans (Ext.alloc w1 (.cells #[.bool false, .slice none 0 0, I 0] 24)))))
  have ln : ¬ (w.heap.size + 1 = w2.heap.size) := by omega
  exact bodyPost_ret (v := .tuple #[iv false none 0 0 0 false none 0 0 0, .iface 61 (I 3)]) (by simp [results, Tryz.results17, go_sem, World.cell?_alloc_old, ln, r0, r1, r2, r3, r4, r5]) rfl ⟨rfl, (ext_set6 HF.out (by omega) _ _ _ _ _ _).trans (Ext.alloc _ _)⟩
end

/-! ### Ilrd -/
section
open Go.RowKit
attribute [local go_sem ↓] Go.wp_at_zero Go.wp_at_succ

set_option maxRecDepth 100000 in
set_option maxHeartbeats 4000000 in
theorem iround_ok {w : World} {n1 n2 : Bool} {A B A' B' : Option Addr} {k c m e c' e' : Nat} {d1 d2 : Int} {a b : DV} (ha : Iw w n1 A k c d1 n2 B m e d2 a b A' c' B' e') (hT : Tabs w) (j : Nat) (hj : j ≤ 65536) :
    Calls Tryz.prog 17 #[iv n1 A k c d1 n2 B m e d2, I j] w (IvOk (floorD a j) (ceilD b j) w) := by
  have of : (floorD a j).ok := floorD_ok ha.wa.1 _
  have oc : (ceilD b j).ok := negD_ok _
  have lf : len (floorD a j).m ≤ 16777216 := by have := lim_floor a j; have := ha.wa.2; omega
  have lc : len (ceilD b j).m ≤ 16777216 := by have := lim_ceil b j; have := ha.wb.2; omega
  have qle : (floorD a j).q ≤ (ceilD b j).q := by
    have h1 := (floor_q ha.wa.1 j hj).1
    have h2 := (ceil_cmp ha.wb.1 j hj).1
    rw [cmpD_sgn oc ha.wb.1] at h2
    have h3 := sgn_nlt (by omega : ¬ sgn ((ceilD b j).q - b.q) < 0)
    have := ha.le; grind
  have C1 : Hid (lo2 (floorD a j) (ceilD b j) = floorD a j ∧ hi2 (floorD a j) (ceilD b j) = ceilD b j) := ⟨lo2_id of oc qle, hi2_id of oc qle⟩
  have LB : Hid (len b.m ≤ 1048576) := ha.wb.2
  obtain ⟨f, hf⟩ : ∃ f, floorD a j = f := ⟨_, rfl⟩; obtain ⟨g, hg⟩ : ∃ g, ceilD b j = g := ⟨_, rfl⟩
  rw [hf, hg] at C1 ⊢
  rw [hf] at of lf; rw [hg] at oc lc
  have EF := Lib.hid hf; have EG := Lib.hid hg; have OF := Lib.hid of; have OC := Lib.hid oc; have LF := Lib.hid lf; have LC := Lib.hid lc
  have HJ := Lib.hid hj; have HA := Lib.hid ha; have HT := Lib.hid hT; clear hf hg of oc lf lc hj ha qle hT
  obtain ⟨X0, XZ, XE⟩ := boxes2 w n1 n2 A B k c m e d1 d2
  have HX0 := Lib.hid X0; have HXZ := Lib.hid XZ; have HXE := Lib.hid XE
  clear X0 XZ XE
  go_enter Tryz.func17, Tryz.ntmps17
  go_upto_region 1 with fail
  go_cut [] (fun wx => OneI w a b A' c' B' e' wx)
  case first =>
    obtain ⟨⟨k0, k1, k2, k3, k4, k5⟩, kz⟩ := HX0.out
    go_wp2_with (go_at_call 66; (with_reducible refine (HA.out.itv _ HXE.out).mono ?_); rintro e1 w1 ⟨rfl, hx⟩; clear k0 k1 k2 k3 k4 k5 kz; obtain ⟨⟨k0, k1, k2, k3, k4, k5⟩, kz⟩ := HX0.out.ext hx; have HX := Lib.hid hx; clear hx)
    go_meet
    exact oneI_of HX0.out HXZ.out HXE.out HX.out
  case rest =>
  clear HX0 HXZ HXE
  obtain ⟨hE, hX0, hXZ⟩ := hcut
  have HE := Lib.hid hE; have HX0 := Lib.hid hX0; have HXZ := Lib.hid hXZ
  clear hE hX0 hXZ
  have lz := HXZ.out.lt
  have hew := HE.out.size
  obtain ⟨⟨k0, k1, k2, k3, k4, k5⟩, kz⟩ := HX0.out
  have H1 : Hid (∀ w', Ext wc w' → Calls Tryz.prog 76 #[dv a.neg A' (len a.m) c' a.den, I j] w' (fun e w'' => ∃ P f1, e = .returned (.tuple #[dv f.neg P (len f.m) f1 f.den, .nilIface]) ∧ Fr w'' w'.heap.size P (len f.m) f1 (dg f.m) ∧ Ext w' w'')) := fun w' x => (floor_any j (HA.out.dya.ext (HE.out.trans x)) (HT.out.ext (HE.out.trans x)) HJ.out).mono fun e1 w'' h => by
    rw [EF.out] at h
    obtain ⟨P, f1, h1, hon, h2⟩ := h
    exact ⟨P, f1, h1, hon.fr, h2⟩
  have H2 : Hid (∀ w', Ext wc w' → Calls Tryz.prog 77 #[dv b.neg B' (len b.m) e' b.den, I j] w' (fun e w'' => ∃ P f1, e = .returned (.tuple #[dv g.neg P (len g.m) f1 g.den, .nilIface]) ∧ Fr w'' w'.heap.size P (len g.m) f1 (dg g.m) ∧ Ext w' w'')) := fun w' x => (ceil_any j (HA.out.dyb.ext (HE.out.trans x)) (HT.out.ext (HE.out.trans x)) HJ.out LB.out).mono fun e1 w'' h => by
    rw [EG.out] at h
    obtain ⟨P, f1, h1, hon, h2⟩ := h
    exact ⟨P, f1, h1, hon.fr, h2⟩
  clear EF EG HJ LB
  go_upto_region 3 with (go_at_call 76; (with_reducible refine (H1.out _ (Ext.refl _)).mono ?_); rintro e1 w1 ⟨P1, f1, rfl, hfr, hx1⟩; have O1 := Lib.hid hfr; have HX1 := Lib.hid hx1; clear hfr hx1 k0 k1 k2 k3 k4 k5 kz)
  obtain ⟨wa, hwa⟩ : ∃ wa, wa = w1.alloc (.cells #[.bool f.neg, .slice P1 (len f.m) f1, I f.den] 24) := ⟨_, rfl⟩
  have hea : Ext w1 wa := by rw [hwa]; exact Ext.alloc _ _
  have hba : Bx wa w1.heap.size (.bool f.neg) (.slice P1 (len f.m) f1) (I f.den) := by rw [hwa]; exact Bx.new _ _ _ _ _
  have hxa := HX1.out.trans hea
  have HBA := Lib.hid hba; have HXA := Lib.hid hxa; have OA := Lib.hid (O1.out.ext hea)
  have hs1 := HX1.out.size
  have hsa : wa.heap.size = w1.heap.size + 1 := by rw [hwa]; simp
  rw [← hwa]
  obtain ⟨⟨k0, k1, k2, k3, k4, k5⟩, _⟩ := HX0.out.ext hxa
  clear hwa hea hba hxa
  go_upto_region 4 with (go_at_call 77; (with_reducible refine (H2.out _ HXA.out).mono ?_); rintro e1 w2 ⟨P2, f2, rfl, hfr, hx2⟩; have O2 := Lib.hid hfr; have HX2 := Lib.hid hx2; clear hfr hx2 k0 k1 k2 k3 k4 k5)
  obtain ⟨wb, hwb⟩ : ∃ wb, wb = w2.alloc (.cells #[.bool g.neg, .slice P2 (len g.m) f2, I g.den] 24) := ⟨_, rfl⟩
  have heb : Ext w2 wb := by rw [hwb]; exact Ext.alloc _ _
  have hbb : Bx wb w2.heap.size (.bool g.neg) (.slice P2 (len g.m) f2) (I g.den) := by rw [hwb]; exact Bx.new _ _ _ _ _
  have hxb : Ext wc wb := (HXA.out.trans HX2.out).trans heb
  have hs2 := HX2.out.size
  have hbb1 := HBA.out.ext (HX2.out.trans heb)
  have HXB := Lib.hid hxb
  have HDA : Hid (Dy wb f.neg P1 (len f.m) f1 f.den f P1 f1) := Dy.valid (OA.out.rd.ext (HX2.out.trans heb)) OA.out.ok OF.out LF.out
  have HDB : Hid (Dy wb g.neg P2 (len g.m) f2 g.den g P2 f2) := Dy.valid (O2.out.rd.ext heb) O2.out.ok OC.out LC.out
  have HLE : Hid (∀ w' gg cap, Ext wb w' → St w' gg (.bool g.neg) (.slice P2 (len g.m) f2) (I g.den) → Calls Tryz.prog 71 #[dv f.neg P1 (len f.m) f1 f.den, .slice (some ⟨gg, 0, none⟩) 1 cap] w' (IvRes f g w')) := fun w' gg cap x hst => by
    have := least1 (cap := cap) (HDA.out.ext x) (HDB.out.ext x) (HT.out.ext ((HE.out.trans HXB.out).trans x)) hst
    rw [C1.out.1, C1.out.2] at this; exact this
  obtain ⟨⟨a0, a1, a2⟩, _⟩ := hbb1
  obtain ⟨⟨b0, b1, b2⟩, _⟩ := hbb
  rw [← hwb]
  clear hwb heb hxb
  go_wp2_with (go_at_call 71; (with_reducible refine (HLE.out _ _ _ (Ext.alloc _ _) (St.mk' (World.cell?_alloc_new _ _ _ 0) (World.cell?_alloc_new _ _ _ 1) (World.cell?_alloc_new _ _ _ 2))).mono ?_); rintro e1 w4 ⟨A4, c4, B4, e4, rfl, hfa, hfb, hx⟩; have FA := Lib.hid hfa; have FB := Lib.hid hfb; have HF := Lib.hid (HXB.out.trans ((Ext.alloc _ _).trans hx)); obtain ⟨⟨r0, r1, r2, r3, r4, r5⟩, rz⟩ := HXZ.out.ext HF.out; clear hfa hfb hx)
  have hs3 := HXB.out.size
  exact bodyPost_ret (v := .tuple #[ivd f A4 c4 g B4 e4, .nilIface]) (by simp [results, Tryz.results17, go_sem, r0, r1, r2, r3, r4, r5]) rfl (IvOk.end6 rfl FA.out FB.out (HE.out.trans HF.out) (by omega) (by (try simp); omega) (by (try simp); omega))
end

/-! ### Ilme -/
section
open Go.RowKit
attribute [local go_sem ↓] Go.wp_at_zero Go.wp_at_succ


set_option maxRecDepth 100000 in
set_option maxHeartbeats 1000000 in
theorem rimeet_err {w : World} {n1 n2 : Bool} {A B A' B' : Option Addr} {k c m e c' e' : Nat} {d1 d2 : Int} {a b : DV} {n3 n4 : Bool} {X Y X' Y' : Option Addr} {p q r s q' s' : Nat} {d3 d4 : Int} {x y : DV} (ha : Iw w n1 A k c d1 n2 B m e d2 a b A' c' B' e') (hb : Iw w n3 X p q d3 n4 Y r s d4 x y X' q' Y' s') (hc : 0 < cmpD (maxD a x) (minD b y)) :
    Calls Tryz.prog 18 #[iv n1 A k c d1 n2 B m e d2, iv n3 X p q d3 n4 Y r s d4] w (RvErr 23 w) := by
  have SA := Lib.hid (bd_sub (bd_end ha.wa) (bd_end hb.wa)); have SB := Lib.hid (bd_sub (bd_end ha.wb) (bd_end hb.wb))
  have SC := Lib.hid (bd_sub (bd_max ha.wa hb.wa) (bd_min ha.wb hb.wb))
  have BU : Hid (Bdd (maxD a x)) := bd_max ha.wa hb.wa; have BV : Hid (Bdd (minD b y)) := bd_min ha.wb hb.wb
  obtain ⟨u, hu⟩ : ∃ u, maxD a x = u := ⟨_, rfl⟩; obtain ⟨v, hv⟩ : ∃ v, minD b y = v := ⟨_, rfl⟩
  rw [hu, hv] at hc SC; rw [hu] at BU; rw [hv] at BV
  obtain ⟨t, ht⟩ : ∃ t, cmpD u v = t := ⟨_, rfl⟩
  rw [ht] at hc
  have ET := Lib.hid ht; have Eu := Lib.hid hu; have Ev := Lib.hid hv; clear ht hu hv
  have HA := Lib.hid ha; have HB := Lib.hid hb; clear ha hb
  obtain ⟨X0, X1, XZ, XE⟩ := boxes3 w n1 n2 A B k c m e d1 d2 n3 n4 X Y p q r s d3 d4
  have HX0 := Lib.hid X0; have HX1 := Lib.hid X1; have HXZ := Lib.hid XZ; have HXE := Lib.hid XE
  clear X0 X1 XZ XE
  go_enter Tryz.func18, Tryz.ntmps18
  go_upto_region 1 with fail
  go_cut [] (fun wx => TwoI w a b A' c' B' e' x y X' q' Y' s' wx)
  case first =>
    go_region_with (first
      | (go_at_call 78; (with_reducible refine (HA.out.nrm _ (HXE.out.trans (by (with_reducible (repeat (first | exact Ext.refl _ | assumption | (refine Ext.toSet ?_ (by omega)) | refine Ext.toAlloc ?_ | refine Ext.toDrew ?_ | refine Ext.toDrewN ?_ | refine Ext.trans ?_ (by assumption)))); (first | done | fail "no")))).mono ?_); rintro e1 wa ⟨rfl, hxwa⟩; obtain ⟨⟨ak0, ak1, ak2, ak3, ak4, ak5⟩, akz⟩ := HX0.out.ext (w' := wa) (by (with_reducible (repeat (first | exact Ext.refl _ | assumption | (refine Ext.toSet ?_ (by omega)) | refine Ext.toAlloc ?_ | refine Ext.toDrew ?_ | refine Ext.toDrewN ?_ | refine Ext.trans ?_ (by assumption)))); (first | done | fail "no")); obtain ⟨⟨al0, al1, al2, al3, al4, al5⟩, alz⟩ := HX1.out.ext (w' := wa) (by (with_reducible (repeat (first | exact Ext.refl _ | assumption | (refine Ext.toSet ?_ (by omega)) | refine Ext.toAlloc ?_ | refine Ext.toDrew ?_ | refine Ext.toDrewN ?_ | refine Ext.trans ?_ (by assumption)))); (first | done | fail "no")))
      | (go_at_call 78; (with_reducible refine (HB.out.nrm _ (HXE.out.trans (by (with_reducible (repeat (first | exact Ext.refl _ | assumption | (refine Ext.toSet ?_ (by omega)) | refine Ext.toAlloc ?_ | refine Ext.toDrew ?_ | refine Ext.toDrewN ?_ | refine Ext.trans ?_ (by assumption)))); (first | done | fail "no")))).mono ?_); rintro e1 wb ⟨rfl, hxwb⟩; obtain ⟨⟨bk0, bk1, bk2, bk3, bk4, bk5⟩, bkz⟩ := HX0.out.ext (w' := wb) (by (with_reducible (repeat (first | exact Ext.refl _ | assumption | (refine Ext.toSet ?_ (by omega)) | refine Ext.toAlloc ?_ | refine Ext.toDrew ?_ | refine Ext.toDrewN ?_ | refine Ext.trans ?_ (by assumption)))); (first | done | fail "no")); obtain ⟨⟨bl0, bl1, bl2, bl3, bl4, bl5⟩, blz⟩ := HX1.out.ext (w' := wb) (by (with_reducible (repeat (first | exact Ext.refl _ | assumption | (refine Ext.toSet ?_ (by omega)) | refine Ext.toAlloc ?_ | refine Ext.toDrew ?_ | refine Ext.toDrewN ?_ | refine Ext.trans ?_ (by assumption)))); (first | done | fail "no"))))
    all_goals
      go_wp2_with fail
      go_meet
      exact twoI_of HX0.out HX1.out HXZ.out HXE.out (by (with_reducible (repeat (first | exact Ext.refl _ | assumption | (refine Ext.toSet ?_ (by omega)) | refine Ext.toAlloc ?_ | refine Ext.toDrew ?_ | refine Ext.toDrewN ?_ | refine Ext.trans ?_ (by assumption)))); (first | done | fail "no"))
  case rest =>
    clear HX0 HX1 HXZ HXE
    obtain ⟨hE, hX0, hX1, hXZ⟩ := hcut
    have HE := Lib.hid hE; have HX0 := Lib.hid hX0; have HX1 := Lib.hid hX1; have HXZ := Lib.hid hXZ
    clear hE hX0 hX1 hXZ
    have HS : Hid (∀ w', Ext wc w' → w'.cell? ⟨w.heap.size, 0, none⟩ = some (.bool a.neg) ∧ w'.cell? ⟨w.heap.size, 1, none⟩ = some (.slice A' (len a.m) c') ∧ w'.cell? ⟨w.heap.size, 2, none⟩ = some (I a.den) ∧ w'.cell? ⟨w.heap.size, 3, none⟩ = some (.bool b.neg) ∧ w'.cell? ⟨w.heap.size, 4, none⟩ = some (.slice B' (len b.m) e') ∧ w'.cell? ⟨w.heap.size, 5, none⟩ = some (I b.den) ∧ w'.cell? ⟨w.heap.size + 1, 0, none⟩ = some (.bool x.neg) ∧ w'.cell? ⟨w.heap.size + 1, 1, none⟩ = some (.slice X' (len x.m) q') ∧ w'.cell? ⟨w.heap.size + 1, 2, none⟩ = some (I x.den) ∧ w'.cell? ⟨w.heap.size + 1, 3, none⟩ = some (.bool y.neg) ∧ w'.cell? ⟨w.heap.size + 1, 4, none⟩ = some (.slice Y' (len y.m) s') ∧ w'.cell? ⟨w.heap.size + 1, 5, none⟩ = some (I y.den)) := fun w' e => by
      obtain ⟨⟨i0, i1, i2, i3, i4, i5⟩, iz⟩ := HX0.out.ext e
      obtain ⟨⟨j0, j1, j2, j3, j4, j5⟩, jz⟩ := HX1.out.ext e
      exact ⟨i0, i1, i2, i3, i4, i5, j0, j1, j2, j3, j4, j5⟩
    go_upto_region 2 with fail
    go_cut [6, 7] (fun s6 s7 wx => ∃ p q A1 c1 A2 c2, s6 = .pointer (some ⟨p, 0, none⟩) ∧ s7 = .pointer (some ⟨q, 0, none⟩) ∧ Hid (AbS wc wx p q u v A1 c1 A2 c2))
    case first =>
      clear HX0 HX1 HXZ
      go_region_held3 (fun w' => w'.cell? ⟨w.heap.size, 0, none⟩ = some (.bool a.neg) ∧ w'.cell? ⟨w.heap.size, 1, none⟩ = some (.slice A' (len a.m) c') ∧ w'.cell? ⟨w.heap.size, 2, none⟩ = some (I a.den) ∧ w'.cell? ⟨w.heap.size, 3, none⟩ = some (.bool b.neg) ∧ w'.cell? ⟨w.heap.size, 4, none⟩ = some (.slice B' (len b.m) e') ∧ w'.cell? ⟨w.heap.size, 5, none⟩ = some (I b.den) ∧ w'.cell? ⟨w.heap.size + 1, 0, none⟩ = some (.bool x.neg) ∧ w'.cell? ⟨w.heap.size + 1, 1, none⟩ = some (.slice X' (len x.m) q') ∧ w'.cell? ⟨w.heap.size + 1, 2, none⟩ = some (I x.den) ∧ w'.cell? ⟨w.heap.size + 1, 3, none⟩ = some (.bool y.neg) ∧ w'.cell? ⟨w.heap.size + 1, 4, none⟩ = some (.slice Y' (len y.m) s') ∧ w'.cell? ⟨w.heap.size + 1, 5, none⟩ = some (I y.den)) (first | with_reducible assumption | exact HS.out _ (by (with_reducible (repeat (first | exact Ext.refl _ | assumption | (refine Ext.toSet ?_ (by omega)) | refine Ext.toAlloc ?_ | refine Ext.toDrew ?_ | refine Ext.toDrewN ?_ | refine Ext.trans ?_ (by assumption)))); (first | done | fail "no")))
        (first
          | (have hg := hx1; clear hg; go_at_call 80; (with_reducible refine (rmin_any (HA.out.dyb.ext (HE.out.trans (by (with_reducible (repeat (first | exact Ext.refl _ | assumption | (refine Ext.toSet ?_ (by omega)) | refine Ext.toAlloc ?_ | refine Ext.toDrew ?_ | refine Ext.toDrewN ?_ | refine Ext.trans ?_ (by assumption)))); (first | done | fail "no")))) (HB.out.dyb.ext (HE.out.trans (by (with_reducible (repeat (first | exact Ext.refl _ | assumption | (refine Ext.toSet ?_ (by omega)) | refine Ext.toAlloc ?_ | refine Ext.toDrew ?_ | refine Ext.toDrewN ?_ | refine Ext.trans ?_ (by assumption)))); (first | done | fail "no")))) SB.out.1 SB.out.2).mono ?_); rw [Ev.out]; rintro e w2 ⟨A2, c2, rfl, hon2, hx2⟩; have O2 := Lib.hid hon2; clear hon2; have g2 := Ext.size hx2; (try simp only [World.size_alloc] at g2); (first
          | (have V1 := Lib.hid (U1.out.ext hx2); have V2 := Lib.hid (U2.out.ext hx2); obtain ⟨⟨v10, v11, v12⟩, v13⟩ := V1.out; obtain ⟨⟨v20, v21, v22⟩, v23⟩ := V2.out; have l1 := V1.out.lt; have m1 := Nat.ne_of_lt l1; have n1 := Nat.ne_of_gt l1; have l2 := V2.out.lt; have m2 := Nat.ne_of_lt l2; have n2 := Nat.ne_of_gt l2)
          | ((with_reducible have u2 := one_new hx2); have V2 := Lib.hid u2; have V1 := Lib.hid (U1.out.ext ((Ext.alloc _ _).trans hx2)); clear u2; obtain ⟨⟨v10, v11, v12⟩, v13⟩ := V1.out; obtain ⟨⟨v20, v21, v22⟩, v23⟩ := V2.out; have l1 := V1.out.lt; have m1 := Nat.ne_of_lt l1; have n1 := Nat.ne_of_gt l1; have l2 := V2.out.lt; have m2 := Nat.ne_of_lt l2; have n2 := Nat.ne_of_gt l2)
          | (have V1 := Lib.hid (U1.out.ext hx2); obtain ⟨⟨v10, v11, v12⟩, v13⟩ := V1.out; have l1 := V1.out.lt; have m1 := Nat.ne_of_lt l1; have n1 := Nat.ne_of_gt l1)
          | ((with_reducible have uu := two_new hx2); obtain ⟨u1, u2⟩ := uu; have V1 := Lib.hid u1; have V2 := Lib.hid u2; clear u1 u2; obtain ⟨⟨v10, v11, v12⟩, v13⟩ := V1.out; obtain ⟨⟨v20, v21, v22⟩, v23⟩ := V2.out; have l1 := V1.out.lt; have m1 := Nat.ne_of_lt l1; have n1 := Nat.ne_of_gt l1; have l2 := V2.out.lt; have m2 := Nat.ne_of_lt l2; have n2 := Nat.ne_of_gt l2)
          | ((with_reducible have u1 := one_new hx2); have V1 := Lib.hid u1; clear u1; obtain ⟨⟨v10, v11, v12⟩, v13⟩ := V1.out; have l1 := V1.out.lt; have m1 := Nat.ne_of_lt l1; have n1 := Nat.ne_of_gt l1)
          | skip))
          | (go_at_call 79; (with_reducible refine (rmax_any (HA.out.dya.ext (HE.out.trans (by (with_reducible (repeat (first | exact Ext.refl _ | assumption | (refine Ext.toSet ?_ (by omega)) | refine Ext.toAlloc ?_ | refine Ext.toDrew ?_ | refine Ext.toDrewN ?_ | refine Ext.trans ?_ (by assumption)))); (first | done | fail "no")))) (HB.out.dya.ext (HE.out.trans (by (with_reducible (repeat (first | exact Ext.refl _ | assumption | (refine Ext.toSet ?_ (by omega)) | refine Ext.toAlloc ?_ | refine Ext.toDrew ?_ | refine Ext.toDrewN ?_ | refine Ext.trans ?_ (by assumption)))); (first | done | fail "no")))) SA.out.1 SA.out.2).mono ?_); rw [Eu.out]; rintro e w1 ⟨A1, c1, rfl, hon1, hx1⟩; have O1 := Lib.hid hon1; clear hon1; have g1 := Ext.size hx1; (try simp only [World.size_drew, World.size_alloc] at g1); (first | ((with_reducible have uu := two_newd hx1); obtain ⟨u1, u2⟩ := uu; have U1 := Lib.hid u1; have U2 := Lib.hid u2; clear u1 u2) | ((with_reducible have u1 := one_newd hx1); have U1 := Lib.hid u1; clear u1) | skip)))
      all_goals
        go_wp2_with fail
        go_meet
        have o1 := O1.out
        have o2 := O2.out
        simp only [World.size_drew, World.size_alloc] at o1 o2
        refine ⟨_, _, A1, c1, A2, c2, rfl, rfl, (by (with_reducible (repeat (first | exact Ext.refl _ | assumption | (refine Ext.toSet ?_ (by omega)) | refine Ext.toAlloc ?_ | refine Ext.toDrew ?_ | refine Ext.toDrewN ?_ | refine Ext.trans ?_ (by assumption)))); (first | done | fail "no")), ⟨by go_simp, by go_simp, by go_simp⟩, ⟨by go_simp, by go_simp, by go_simp⟩, ?_, ?_⟩
        · with_reducible (repeat (first | refine Off.setp ?_ _ _ | refine Off.setq ?_ _ _ | refine Off.toAlloc ?_))
          exact (On.off o1 (by omega) (by omega) (by omega)).ext (by (with_reducible (repeat (first | exact Ext.refl _ | assumption | (refine Ext.toSet ?_ (by omega)) | refine Ext.toAlloc ?_ | refine Ext.toDrew ?_ | refine Ext.toDrewN ?_ | refine Ext.trans ?_ (by assumption)))); (first | done | fail "no"))
        · with_reducible (repeat (first | refine Off.setp ?_ _ _ | refine Off.setq ?_ _ _ | refine Off.toAlloc ?_))
          exact (On.off o2 (by omega) (by omega) (by omega)).ext (by (with_reducible (repeat (first | exact Ext.refl _ | assumption | (refine Ext.toSet ?_ (by omega)) | refine Ext.toAlloc ?_ | refine Ext.toDrew ?_ | refine Ext.toDrewN ?_ | refine Ext.trans ?_ (by assumption)))); (first | done | fail "no"))
    case rest =>
      obtain ⟨p1, p2, A1, c1, A2, c2, rfl, rfl, hcc⟩ := hcut
      obtain ⟨hx, hp, hq, o1, o2⟩ := hcc.out
      have HY := Lib.hid (HE.out.trans hx)
      have HXZ' := Lib.hid (HXZ.out.ext hx)
      have DU := Lib.hid (Dy.valid o1.1.rd o1.1.ok BU.out.1 BU.out.lim); have DV' := Lib.hid (Dy.valid o2.1.rd o2.1.ok BV.out.1 BV.out.lim)
      have SP := Lib.hid hp; have SQ := Lib.hid hq; have OU := Lib.hid o1; have OV := Lib.hid o2
      have hsz := HXZ.out.lt
      have HSZ := Lib.hid hsz
      obtain ⟨k0, k1, k2⟩ := hp
      obtain ⟨l0, l1, l2⟩ := hq
      clear hcc hx o1 o2 HX0 HX1 HXZ HE HS hsz
      go_wp2_with (go_at_call 81; (with_reducible refine (rdcmp_any (DU.out.ext (Ext.refl _)) (DV'.out.ext (Ext.refl _)) SC.out.1 SC.out.2).mono ?_); rw [ET.out]; rintro e1 w3 ⟨rfl, hx⟩; have HY3 := Lib.hid (HY.out.trans hx); obtain ⟨⟨r0, r1, r2, r3, r4, r5⟩, rz⟩ := HXZ'.out.ext hx; have lr := (HXZ'.out.ext hx).lt; have OU3 := Lib.hid (OU.out.ext hx); have OV3 := Lib.hid (OV.out.ext hx); clear k0 k1 k2 l0 l1 l2; obtain ⟨k0, k1, k2⟩ := SP.out.ext hx; obtain ⟨l0, l1, l2⟩ := SQ.out.ext hx; clear hx)
      exact bodyPost_ret (v := .tuple #[iv false none 0 0 0 false none 0 0 0, I 23]) (by simp [results, Tryz.results18, go_sem, r0, r1, r2, r3, r4, r5]) rfl ⟨rfl, ext_set6 HY3.out (by omega) _ _ _ _ _ _⟩

set_option maxRecDepth 100000 in
set_option maxHeartbeats 1000000 in
theorem rimeet_ok {w : World} {n1 n2 : Bool} {A B A' B' : Option Addr} {k c m e c' e' : Nat} {d1 d2 : Int} {a b : DV} {n3 n4 : Bool} {X Y X' Y' : Option Addr} {p q r s q' s' : Nat} {d3 d4 : Int} {x y : DV} (ha : Iw w n1 A k c d1 n2 B m e d2 a b A' c' B' e') (hb : Iw w n3 X p q d3 n4 Y r s d4 x y X' q' Y' s') (hc : ¬ 0 < cmpD (maxD a x) (minD b y)) :
    Calls Tryz.prog 18 #[iv n1 A k c d1 n2 B m e d2, iv n3 X p q d3 n4 Y r s d4] w (RvOk (maxD a x) (minD b y) w) := by
  have SA := Lib.hid (bd_sub (bd_end ha.wa) (bd_end hb.wa)); have SB := Lib.hid (bd_sub (bd_end ha.wb) (bd_end hb.wb))
  have SC := Lib.hid (bd_sub (bd_max ha.wa hb.wa) (bd_min ha.wb hb.wb))
  have BU : Hid (Bdd (maxD a x)) := bd_max ha.wa hb.wa; have BV : Hid (Bdd (minD b y)) := bd_min ha.wb hb.wb
  obtain ⟨u, hu⟩ : ∃ u, maxD a x = u := ⟨_, rfl⟩; obtain ⟨v, hv⟩ : ∃ v, minD b y = v := ⟨_, rfl⟩
  rw [hu, hv] at hc SC; rw [hu] at BU; rw [hv] at BV
  rw [hu, hv]
  obtain ⟨t, ht⟩ : ∃ t, cmpD u v = t := ⟨_, rfl⟩
  rw [ht] at hc
  have ET := Lib.hid ht; have Eu := Lib.hid hu; have Ev := Lib.hid hv; clear ht hu hv
  have HA := Lib.hid ha; have HB := Lib.hid hb; clear ha hb
  obtain ⟨X0, X1, XZ, XE⟩ := boxes3 w n1 n2 A B k c m e d1 d2 n3 n4 X Y p q r s d3 d4
  have HX0 := Lib.hid X0; have HX1 := Lib.hid X1; have HXZ := Lib.hid XZ; have HXE := Lib.hid XE
  clear X0 X1 XZ XE
  go_enter Tryz.func18, Tryz.ntmps18
  go_upto_region 1 with fail
  go_cut [] (fun wx => TwoI w a b A' c' B' e' x y X' q' Y' s' wx)
  case first =>
    go_region_with (first
      | (go_at_call 78; (with_reducible refine (HA.out.nrm _ (HXE.out.trans (by (with_reducible (repeat (first | exact Ext.refl _ | assumption | (refine Ext.toSet ?_ (by omega)) | refine Ext.toAlloc ?_ | refine Ext.toDrew ?_ | refine Ext.toDrewN ?_ | refine Ext.trans ?_ (by assumption)))); (first | done | fail "no")))).mono ?_); rintro e1 wa ⟨rfl, hxwa⟩; obtain ⟨⟨ak0, ak1, ak2, ak3, ak4, ak5⟩, akz⟩ := HX0.out.ext (w' := wa) (by (with_reducible (repeat (first | exact Ext.refl _ | assumption | (refine Ext.toSet ?_ (by omega)) | refine Ext.toAlloc ?_ | refine Ext.toDrew ?_ | refine Ext.toDrewN ?_ | refine Ext.trans ?_ (by assumption)))); (first | done | fail "no")); obtain ⟨⟨al0, al1, al2, al3, al4, al5⟩, alz⟩ := HX1.out.ext (w' := wa) (by (with_reducible (repeat (first | exact Ext.refl _ | assumption | (refine Ext.toSet ?_ (by omega)) | refine Ext.toAlloc ?_ | refine Ext.toDrew ?_ | refine Ext.toDrewN ?_ | refine Ext.trans ?_ (by assumption)))); (first | done | fail "no")))
      | (go_at_call 78; (with_reducible refine (HB.out.nrm _ (HXE.out.trans (by (with_reducible (repeat (first | exact Ext.refl _ | assumption | (refine Ext.toSet ?_ (by omega)) | refine Ext.toAlloc ?_ | refine Ext.toDrew ?_ | refine Ext.toDrewN ?_ | refine Ext.trans ?_ (by assumption)))); (first | done | fail "no")))).mono ?_); rintro e1 wb ⟨rfl, hxwb⟩; obtain ⟨⟨bk0, bk1, bk2, bk3, bk4, bk5⟩, bkz⟩ := HX0.out.ext (w' := wb) (by (with_reducible (repeat (first | exact Ext.refl _ | assumption | (refine Ext.toSet ?_ (by omega)) | refine Ext.toAlloc ?_ | refine Ext.toDrew ?_ | refine Ext.toDrewN ?_ | refine Ext.trans ?_ (by assumption)))); (first | done | fail "no")); obtain ⟨⟨bl0, bl1, bl2, bl3, bl4, bl5⟩, blz⟩ := HX1.out.ext (w' := wb) (by (with_reducible (repeat (first | exact Ext.refl _ | assumption | (refine Ext.toSet ?_ (by omega)) | refine Ext.toAlloc ?_ | refine Ext.toDrew ?_ | refine Ext.toDrewN ?_ | refine Ext.trans ?_ (by assumption)))); (first | done | fail "no"))))
    all_goals
      go_wp2_with fail
      go_meet
      exact twoI_of HX0.out HX1.out HXZ.out HXE.out (by (with_reducible (repeat (first | exact Ext.refl _ | assumption | (refine Ext.toSet ?_ (by omega)) | refine Ext.toAlloc ?_ | refine Ext.toDrew ?_ | refine Ext.toDrewN ?_ | refine Ext.trans ?_ (by assumption)))); (first | done | fail "no"))
  case rest =>
    clear HX0 HX1 HXZ HXE
    obtain ⟨hE, hX0, hX1, hXZ⟩ := hcut
    have HE := Lib.hid hE; have HX0 := Lib.hid hX0; have HX1 := Lib.hid hX1; have HXZ := Lib.hid hXZ
    clear hE hX0 hX1 hXZ
    have HS : Hid (∀ w', Ext wc w' → w'.cell? ⟨w.heap.size, 0, none⟩ = some (.bool a.neg) ∧ w'.cell? ⟨w.heap.size, 1, none⟩ = some (.slice A' (len a.m) c') ∧ w'.cell? ⟨w.heap.size, 2, none⟩ = some (I a.den) ∧ w'.cell? ⟨w.heap.size, 3, none⟩ = some (.bool b.neg) ∧ w'.cell? ⟨w.heap.size, 4, none⟩ = some (.slice B' (len b.m) e') ∧ w'.cell? ⟨w.heap.size, 5, none⟩ = some (I b.den) ∧ w'.cell? ⟨w.heap.size + 1, 0, none⟩ = some (.bool x.neg) ∧ w'.cell? ⟨w.heap.size + 1, 1, none⟩ = some (.slice X' (len x.m) q') ∧ w'.cell? ⟨w.heap.size + 1, 2, none⟩ = some (I x.den) ∧ w'.cell? ⟨w.heap.size + 1, 3, none⟩ = some (.bool y.neg) ∧ w'.cell? ⟨w.heap.size + 1, 4, none⟩ = some (.slice Y' (len y.m) s') ∧ w'.cell? ⟨w.heap.size + 1, 5, none⟩ = some (I y.den)) := fun w' e => by
      obtain ⟨⟨i0, i1, i2, i3, i4, i5⟩, iz⟩ := HX0.out.ext e
      obtain ⟨⟨j0, j1, j2, j3, j4, j5⟩, jz⟩ := HX1.out.ext e
      exact ⟨i0, i1, i2, i3, i4, i5, j0, j1, j2, j3, j4, j5⟩
    go_upto_region 2 with fail
    go_cut [6, 7] (fun s6 s7 wx => ∃ p q A1 c1 A2 c2, s6 = .pointer (some ⟨p, 0, none⟩) ∧ s7 = .pointer (some ⟨q, 0, none⟩) ∧ Hid (AbS wc wx p q u v A1 c1 A2 c2))
    case first =>
      clear HX0 HX1 HXZ
      go_region_held3 (fun w' => w'.cell? ⟨w.heap.size, 0, none⟩ = some (.bool a.neg) ∧ w'.cell? ⟨w.heap.size, 1, none⟩ = some (.slice A' (len a.m) c') ∧ w'.cell? ⟨w.heap.size, 2, none⟩ = some (I a.den) ∧ w'.cell? ⟨w.heap.size, 3, none⟩ = some (.bool b.neg) ∧ w'.cell? ⟨w.heap.size, 4, none⟩ = some (.slice B' (len b.m) e') ∧ w'.cell? ⟨w.heap.size, 5, none⟩ = some (I b.den) ∧ w'.cell? ⟨w.heap.size + 1, 0, none⟩ = some (.bool x.neg) ∧ w'.cell? ⟨w.heap.size + 1, 1, none⟩ = some (.slice X' (len x.m) q') ∧ w'.cell? ⟨w.heap.size + 1, 2, none⟩ = some (I x.den) ∧ w'.cell? ⟨w.heap.size + 1, 3, none⟩ = some (.bool y.neg) ∧ w'.cell? ⟨w.heap.size + 1, 4, none⟩ = some (.slice Y' (len y.m) s') ∧ w'.cell? ⟨w.heap.size + 1, 5, none⟩ = some (I y.den)) (first | with_reducible assumption | exact HS.out _ (by (with_reducible (repeat (first | exact Ext.refl _ | assumption | (refine Ext.toSet ?_ (by omega)) | refine Ext.toAlloc ?_ | refine Ext.toDrew ?_ | refine Ext.toDrewN ?_ | refine Ext.trans ?_ (by assumption)))); (first | done | fail "no")))
        (first
          | (have hg := hx1; clear hg; go_at_call 80; (with_reducible refine (rmin_any (HA.out.dyb.ext (HE.out.trans (by (with_reducible (repeat (first | exact Ext.refl _ | assumption | (refine Ext.toSet ?_ (by omega)) | refine Ext.toAlloc ?_ | refine Ext.toDrew ?_ | refine Ext.toDrewN ?_ | refine Ext.trans ?_ (by assumption)))); (first | done | fail "no")))) (HB.out.dyb.ext (HE.out.trans (by (with_reducible (repeat (first | exact Ext.refl _ | assumption | (refine Ext.toSet ?_ (by omega)) | refine Ext.toAlloc ?_ | refine Ext.toDrew ?_ | refine Ext.toDrewN ?_ | refine Ext.trans ?_ (by assumption)))); (first | done | fail "no")))) SB.out.1 SB.out.2).mono ?_); rw [Ev.out]; rintro e w2 ⟨A2, c2, rfl, hon2, hx2⟩; have O2 := Lib.hid hon2; clear hon2; have g2 := Ext.size hx2; (try simp only [World.size_alloc] at g2); (first
          | (have V1 := Lib.hid (U1.out.ext hx2); have V2 := Lib.hid (U2.out.ext hx2); obtain ⟨⟨v10, v11, v12⟩, v13⟩ := V1.out; obtain ⟨⟨v20, v21, v22⟩, v23⟩ := V2.out; have l1 := V1.out.lt; have m1 := Nat.ne_of_lt l1; have n1 := Nat.ne_of_gt l1; have l2 := V2.out.lt; have m2 := Nat.ne_of_lt l2; have n2 := Nat.ne_of_gt l2)
          | ((with_reducible have u2 := one_new hx2); have V2 := Lib.hid u2; have V1 := Lib.hid (U1.out.ext ((Ext.alloc _ _).trans hx2)); clear u2; obtain ⟨⟨v10, v11, v12⟩, v13⟩ := V1.out; obtain ⟨⟨v20, v21, v22⟩, v23⟩ := V2.out; have l1 := V1.out.lt; have m1 := Nat.ne_of_lt l1; have n1 := Nat.ne_of_gt l1; have l2 := V2.out.lt; have m2 := Nat.ne_of_lt l2; have n2 := Nat.ne_of_gt l2)
          | (have V1 := Lib.hid (U1.out.ext hx2); obtain ⟨⟨v10, v11, v12⟩, v13⟩ := V1.out; have l1 := V1.out.lt; have m1 := Nat.ne_of_lt l1; have n1 := Nat.ne_of_gt l1)
          | ((with_reducible have uu := two_new hx2); obtain ⟨u1, u2⟩ := uu; have V1 := Lib.hid u1; have V2 := Lib.hid u2; clear u1 u2; obtain ⟨⟨v10, v11, v12⟩, v13⟩ := V1.out; obtain ⟨⟨v20, v21, v22⟩, v23⟩ := V2.out; have l1 := V1.out.lt; have m1 := Nat.ne_of_lt l1; have n1 := Nat.ne_of_gt l1; have l2 := V2.out.lt; have m2 := Nat.ne_of_lt l2; have n2 := Nat.ne_of_gt l2)
          | ((with_reducible have u1 := one_new hx2); have V1 := Lib.hid u1; clear u1; obtain ⟨⟨v10, v11, v12⟩, v13⟩ := V1.out; have l1 := V1.out.lt; have m1 := Nat.ne_of_lt l1; have n1 := Nat.ne_of_gt l1)
          | skip))
          | (go_at_call 79; (with_reducible refine (rmax_any (HA.out.dya.ext (HE.out.trans (by (with_reducible (repeat (first | exact Ext.refl _ | assumption | (refine Ext.toSet ?_ (by omega)) | refine Ext.toAlloc ?_ | refine Ext.toDrew ?_ | refine Ext.toDrewN ?_ | refine Ext.trans ?_ (by assumption)))); (first | done | fail "no")))) (HB.out.dya.ext (HE.out.trans (by (with_reducible (repeat (first | exact Ext.refl _ | assumption | (refine Ext.toSet ?_ (by omega)) | refine Ext.toAlloc ?_ | refine Ext.toDrew ?_ | refine Ext.toDrewN ?_ | refine Ext.trans ?_ (by assumption)))); (first | done | fail "no")))) SA.out.1 SA.out.2).mono ?_); rw [Eu.out]; rintro e w1 ⟨A1, c1, rfl, hon1, hx1⟩; have O1 := Lib.hid hon1; clear hon1; have g1 := Ext.size hx1; (try simp only [World.size_drew, World.size_alloc] at g1); (first | ((with_reducible have uu := two_newd hx1); obtain ⟨u1, u2⟩ := uu; have U1 := Lib.hid u1; have U2 := Lib.hid u2; clear u1 u2) | ((with_reducible have u1 := one_newd hx1); have U1 := Lib.hid u1; clear u1) | skip)))
      all_goals
        go_wp2_with fail
        go_meet
        have o1 := O1.out
        have o2 := O2.out
        simp only [World.size_drew, World.size_alloc] at o1 o2
        refine ⟨_, _, A1, c1, A2, c2, rfl, rfl, (by (with_reducible (repeat (first | exact Ext.refl _ | assumption | (refine Ext.toSet ?_ (by omega)) | refine Ext.toAlloc ?_ | refine Ext.toDrew ?_ | refine Ext.toDrewN ?_ | refine Ext.trans ?_ (by assumption)))); (first | done | fail "no")), ⟨by go_simp, by go_simp, by go_simp⟩, ⟨by go_simp, by go_simp, by go_simp⟩, ?_, ?_⟩
        · with_reducible (repeat (first | refine Off.setp ?_ _ _ | refine Off.setq ?_ _ _ | refine Off.toAlloc ?_))
          exact (On.off o1 (by omega) (by omega) (by omega)).ext (by (with_reducible (repeat (first | exact Ext.refl _ | assumption | (refine Ext.toSet ?_ (by omega)) | refine Ext.toAlloc ?_ | refine Ext.toDrew ?_ | refine Ext.toDrewN ?_ | refine Ext.trans ?_ (by assumption)))); (first | done | fail "no"))
        · with_reducible (repeat (first | refine Off.setp ?_ _ _ | refine Off.setq ?_ _ _ | refine Off.toAlloc ?_))
          exact (On.off o2 (by omega) (by omega) (by omega)).ext (by (with_reducible (repeat (first | exact Ext.refl _ | assumption | (refine Ext.toSet ?_ (by omega)) | refine Ext.toAlloc ?_ | refine Ext.toDrew ?_ | refine Ext.toDrewN ?_ | refine Ext.trans ?_ (by assumption)))); (first | done | fail "no"))
    case rest =>
      obtain ⟨p1, p2, A1, c1, A2, c2, rfl, rfl, hcc⟩ := hcut
      obtain ⟨hx, hp, hq, o1, o2⟩ := hcc.out
      have HY := Lib.hid (HE.out.trans hx)
      have HXZ' := Lib.hid (HXZ.out.ext hx)
      have DU := Lib.hid (Dy.valid o1.1.rd o1.1.ok BU.out.1 BU.out.lim); have DV' := Lib.hid (Dy.valid o2.1.rd o2.1.ok BV.out.1 BV.out.lim)
      have SP := Lib.hid hp; have SQ := Lib.hid hq; have OU := Lib.hid o1; have OV := Lib.hid o2
      have hsz := HXZ.out.lt
      have HSZ := Lib.hid hsz
      obtain ⟨k0, k1, k2⟩ := hp
      obtain ⟨l0, l1, l2⟩ := hq
      clear hcc hx o1 o2 HX0 HX1 HXZ HE HS hsz
      go_wp2_with (go_at_call 81; (with_reducible refine (rdcmp_any (DU.out.ext (Ext.refl _)) (DV'.out.ext (Ext.refl _)) SC.out.1 SC.out.2).mono ?_); rw [ET.out]; rintro e1 w3 ⟨rfl, hx⟩; have HY3 := Lib.hid (HY.out.trans hx); obtain ⟨⟨r0, r1, r2, r3, r4, r5⟩, rz⟩ := HXZ'.out.ext hx; have lr := (HXZ'.out.ext hx).lt; have OU3 := Lib.hid (OU.out.ext hx); have OV3 := Lib.hid (OV.out.ext hx); clear k0 k1 k2 l0 l1 l2; obtain ⟨k0, k1, k2⟩ := SP.out.ext hx; obtain ⟨l0, l1, l2⟩ := SQ.out.ext hx; clear hx)
      exact bodyPost_ret (v := .tuple #[ivd u A1 c1 v A2 c2, I 0]) (by simp [results, Tryz.results18, go_sem, r0, r1, r2, r3, r4, r5]) rfl (RvOk.end6 rfl OU3.out.1 OV3.out.1 HY3.out (by omega) (by have := HSZ.out; omega) (by have := HSZ.out; omega))
end

/-! ### Ivme -/
section
open Go.RowKit
attribute [local go_sem ↓] Go.wp_at_zero Go.wp_at_succ

theorem one6 {w w1 : World} {v0 v1 v2 v3 v4 v5 : Value} {t : TypeId} (hx : Ext (w.alloc (.cells #[v0, v1, v2, v3, v4, v5] t)) w1) : B6 w1 w.heap.size v0 v1 v2 v3 v4 v5 := (B6.new w v0 v1 v2 v3 v4 v5 t).ext hx
theorem one6d {w w1 : World} {v0 v1 v2 v3 v4 v5 : Value} {t : TypeId} (hx : Ext (w.alloc (.cells #[v0, v1, v2, v3, v4, v5] t)).drew w1) : B6 w1 w.heap.size v0 v1 v2 v3 v4 v5 := (B6.new w v0 v1 v2 v3 v4 v5 t).ext ((Ext.drew _).trans hx)
/-- What the second statement of Meet leaves. -/
def MtS (W wx : World) (r : Nat) (L H : DV) (A : Option Addr) (c : Nat) (B : Option Addr) (e : Nat) : Prop := Ext W wx ∧ BI wx r L A c H B e ∧ Off wx W.heap.size r r A (len L.m) c (dg L.m) ∧ Off wx W.heap.size r r B (len H.m) e (dg H.m)
theorem Fr.off {w : World} {b base p q n c : Nat} {A : Option Addr} {f : Nat → Nat} (h : Fr w b A n c f) (hb : base ≤ b) (hp : p < b ∨ w.heap.size ≤ p) (hq : q < b ∨ w.heap.size ≤ q) : Off w base p q A n c f := by
  refine ⟨h.mono hb, fun hn a ha => ?_⟩
  have h1 := h.2.2 hn a ha
  obtain ⟨b', o, e, hb', _⟩ := h.rd hn
  rw [e] at ha
  injection ha with ha
  subst ha
  have h2 : b' < w.heap.size := hb'
  have h3 : b ≤ b' := h1
  exact ⟨by show b' ≠ p; omega, by show b' ≠ q; omega⟩

set_option maxRecDepth 100000 in
set_option maxHeartbeats 1000000 in
theorem meet_err {w : World} {n1 n2 : Bool} {A B A' B' : Option Addr} {k c m e c' e' : Nat} {d1 d2 : Int} {a b : DV} {n3 n4 : Bool} {X Y X' Y' : Option Addr} {p q r s q' s' : Nat} {d3 d4 : Int} {x y : DV} (ha : Iw w n1 A k c d1 n2 B m e d2 a b A' c' B' e') (hb : Iw w n3 X p q d3 n4 Y r s d4 x y X' q' Y' s') (hT : Tabs w) (hc : 0 < cmpD (maxD a x) (minD b y)) :
    Calls Tryz.prog 14 #[iv n1 A k c d1 n2 B m e d2, iv n3 X p q d3 n4 Y r s d4] w (IvErr 23 w) := by
  obtain ⟨u, hu⟩ : ∃ u, maxD a x = u := ⟨_, rfl⟩
  obtain ⟨v, hv⟩ : ∃ v, minD b y = v := ⟨_, rfl⟩
  have Wu : Hid (u.ok ∧ len u.m ≤ 16777216) := by show _ ∧ _; rw [← hu]; have := ha.wa.2; have := hb.wa.2; exact ⟨maxD_ok ha.wa.1 hb.wa.1, sz_max (P := fun d => len d.m ≤ 16777216) (by show len a.m ≤ _; omega) (by show len x.m ≤ _; omega)⟩
  have Wv : Hid (v.ok ∧ len v.m ≤ 16777216) := by show _ ∧ _; rw [← hv]; have := ha.wb.2; have := hb.wb.2; exact ⟨minD_ok ha.wb.1 hb.wb.1, sz_min (P := fun d => len d.m ≤ 16777216) (by show len b.m ≤ _; omega) (by show len y.m ≤ _; omega)⟩
  rw [hu, hv] at hc
  have Eu := Lib.hid hu; have Ev := Lib.hid hv; have HC := Lib.hid hc; clear hu hv hc
  have HA := Lib.hid ha; have HB := Lib.hid hb; have HT := Lib.hid hT; clear ha hb hT
  obtain ⟨X0, X1, XZ, XE⟩ := boxes3 w n1 n2 A B k c m e d1 d2 n3 n4 X Y p q r s d3 d4
  have HX0 := Lib.hid X0; have HX1 := Lib.hid X1; have HXZ := Lib.hid XZ; have HXE := Lib.hid XE
  clear X0 X1 XZ XE
  go_enter Tryz.func14, Tryz.ntmps14
  go_upto_region 1 with fail
  go_cut [] (fun wx => TwoI w a b A' c' B' e' x y X' q' Y' s' wx)
  case first =>
    go_region_with (first
      | (go_at_call 66; (with_reducible refine (HA.out.itv _ (HXE.out.trans (by (with_reducible (repeat (first | exact Ext.refl _ | assumption | (refine Ext.toSet ?_ (by omega)) | refine Ext.toAlloc ?_ | refine Ext.toDrew ?_ | refine Ext.toDrewN ?_ | refine Ext.trans ?_ (by assumption)))); (first | done | fail "no")))).mono ?_); rintro e1 wa ⟨rfl, hxwa⟩; obtain ⟨⟨ak0, ak1, ak2, ak3, ak4, ak5⟩, akz⟩ := HX0.out.ext (w' := wa) (by (with_reducible (repeat (first | exact Ext.refl _ | assumption | (refine Ext.toSet ?_ (by omega)) | refine Ext.toAlloc ?_ | refine Ext.toDrew ?_ | refine Ext.toDrewN ?_ | refine Ext.trans ?_ (by assumption)))); (first | done | fail "no")); obtain ⟨⟨al0, al1, al2, al3, al4, al5⟩, alz⟩ := HX1.out.ext (w' := wa) (by (with_reducible (repeat (first | exact Ext.refl _ | assumption | (refine Ext.toSet ?_ (by omega)) | refine Ext.toAlloc ?_ | refine Ext.toDrew ?_ | refine Ext.toDrewN ?_ | refine Ext.trans ?_ (by assumption)))); (first | done | fail "no")))
      | (go_at_call 66; (with_reducible refine (HB.out.itv _ (HXE.out.trans (by (with_reducible (repeat (first | exact Ext.refl _ | assumption | (refine Ext.toSet ?_ (by omega)) | refine Ext.toAlloc ?_ | refine Ext.toDrew ?_ | refine Ext.toDrewN ?_ | refine Ext.trans ?_ (by assumption)))); (first | done | fail "no")))).mono ?_); rintro e1 wb ⟨rfl, hxwb⟩; obtain ⟨⟨bk0, bk1, bk2, bk3, bk4, bk5⟩, bkz⟩ := HX0.out.ext (w' := wb) (by (with_reducible (repeat (first | exact Ext.refl _ | assumption | (refine Ext.toSet ?_ (by omega)) | refine Ext.toAlloc ?_ | refine Ext.toDrew ?_ | refine Ext.toDrewN ?_ | refine Ext.trans ?_ (by assumption)))); (first | done | fail "no")); obtain ⟨⟨bl0, bl1, bl2, bl3, bl4, bl5⟩, blz⟩ := HX1.out.ext (w' := wb) (by (with_reducible (repeat (first | exact Ext.refl _ | assumption | (refine Ext.toSet ?_ (by omega)) | refine Ext.toAlloc ?_ | refine Ext.toDrew ?_ | refine Ext.toDrewN ?_ | refine Ext.trans ?_ (by assumption)))); (first | done | fail "no"))))
    all_goals
      go_wp2_with fail
      go_meet
      exact twoI_of HX0.out HX1.out HXZ.out HXE.out (by (with_reducible (repeat (first | exact Ext.refl _ | assumption | (refine Ext.toSet ?_ (by omega)) | refine Ext.toAlloc ?_ | refine Ext.toDrew ?_ | refine Ext.toDrewN ?_ | refine Ext.trans ?_ (by assumption)))); (first | done | fail "no"))
  case rest =>
    clear HX0 HX1 HXZ HXE
    obtain ⟨hE, hX0, hX1, hXZ⟩ := hcut
    have HE := Lib.hid hE; have HX0 := Lib.hid hX0; have HX1 := Lib.hid hX1; have HXZ := Lib.hid hXZ
    clear hE hX0 hX1 hXZ
    have HS : Hid (∀ w', Ext wc w' → w'.cell? ⟨w.heap.size, 0, none⟩ = some (.bool a.neg) ∧ w'.cell? ⟨w.heap.size, 1, none⟩ = some (.slice A' (len a.m) c') ∧ w'.cell? ⟨w.heap.size, 2, none⟩ = some (I a.den) ∧ w'.cell? ⟨w.heap.size, 3, none⟩ = some (.bool b.neg) ∧ w'.cell? ⟨w.heap.size, 4, none⟩ = some (.slice B' (len b.m) e') ∧ w'.cell? ⟨w.heap.size, 5, none⟩ = some (I b.den) ∧ w'.cell? ⟨w.heap.size + 1, 0, none⟩ = some (.bool x.neg) ∧ w'.cell? ⟨w.heap.size + 1, 1, none⟩ = some (.slice X' (len x.m) q') ∧ w'.cell? ⟨w.heap.size + 1, 2, none⟩ = some (I x.den) ∧ w'.cell? ⟨w.heap.size + 1, 3, none⟩ = some (.bool y.neg) ∧ w'.cell? ⟨w.heap.size + 1, 4, none⟩ = some (.slice Y' (len y.m) s') ∧ w'.cell? ⟨w.heap.size + 1, 5, none⟩ = some (I y.den)) := fun w' e => by
      obtain ⟨⟨i0, i1, i2, i3, i4, i5⟩, iz⟩ := HX0.out.ext e
      obtain ⟨⟨j0, j1, j2, j3, j4, j5⟩, jz⟩ := HX1.out.ext e
      exact ⟨i0, i1, i2, i3, i4, i5, j0, j1, j2, j3, j4, j5⟩
    go_upto_region 2 with fail
    go_cut [6, 7] (fun s6 s7 wx => s7 = .iface 61 (I 3) ∧ Hid (Ext wc wx))
    case first =>
      clear HX0 HX1 HXZ
      go_region_held3 (fun w' => w'.cell? ⟨w.heap.size, 0, none⟩ = some (.bool a.neg) ∧ w'.cell? ⟨w.heap.size, 1, none⟩ = some (.slice A' (len a.m) c') ∧ w'.cell? ⟨w.heap.size, 2, none⟩ = some (I a.den) ∧ w'.cell? ⟨w.heap.size, 3, none⟩ = some (.bool b.neg) ∧ w'.cell? ⟨w.heap.size, 4, none⟩ = some (.slice B' (len b.m) e') ∧ w'.cell? ⟨w.heap.size, 5, none⟩ = some (I b.den) ∧ w'.cell? ⟨w.heap.size + 1, 0, none⟩ = some (.bool x.neg) ∧ w'.cell? ⟨w.heap.size + 1, 1, none⟩ = some (.slice X' (len x.m) q') ∧ w'.cell? ⟨w.heap.size + 1, 2, none⟩ = some (I x.den) ∧ w'.cell? ⟨w.heap.size + 1, 3, none⟩ = some (.bool y.neg) ∧ w'.cell? ⟨w.heap.size + 1, 4, none⟩ = some (.slice Y' (len y.m) s') ∧ w'.cell? ⟨w.heap.size + 1, 5, none⟩ = some (I y.den)) (first | with_reducible assumption | exact HS.out _ (by (with_reducible (repeat (first | exact Ext.refl _ | assumption | (refine Ext.toSet ?_ (by omega)) | refine Ext.toAlloc ?_ | refine Ext.toDrew ?_ | refine Ext.toDrewN ?_ | refine Ext.trans ?_ (by assumption)))); (first | done | fail "no")))
        (first
          | (have hg := hx2; clear hg; go_at_call 67; (with_reducible refine (imake_err (D1.out.ext (by (with_reducible (repeat (first | exact Ext.refl _ | assumption | (refine Ext.toSet ?_ (by omega)) | refine Ext.toAlloc ?_ | refine Ext.toDrew ?_ | refine Ext.toDrewN ?_ | refine Ext.trans ?_ (by assumption)))); (first | done | fail "no"))) (D2.out.ext (by (with_reducible (repeat (first | exact Ext.refl _ | assumption | (refine Ext.toSet ?_ (by omega)) | refine Ext.toAlloc ?_ | refine Ext.toDrew ?_ | refine Ext.toDrewN ?_ | refine Ext.trans ?_ (by assumption)))); (first | done | fail "no"))) HC.out).mono ?_); rintro e1 w3 ⟨rfl, hx3⟩; have g3 := Ext.size hx3; (try simp only [World.size_alloc] at g3); (first | (have rr := RB.out.ext hx3; clear RB; have RB := Lib.hid rr; clear rr) | ((with_reducible have rr := one6 hx3); have RB := Lib.hid rr; clear rr) | skip); (first | (obtain ⟨⟨r0, r1, r2, r3, r4, r5⟩, rz⟩ := RB.out; have l1 := RB.out.lt; have m1 := Nat.ne_of_lt l1; have n1' := Nat.ne_of_gt l1) | skip))
          | (have hg := hx1; clear hg; go_at_call 69; (with_reducible refine (min_any (HA.out.dyb.ext (HE.out.trans (by (with_reducible (repeat (first | exact Ext.refl _ | assumption | (refine Ext.toSet ?_ (by omega)) | refine Ext.toAlloc ?_ | refine Ext.toDrew ?_ | refine Ext.toDrewN ?_ | refine Ext.trans ?_ (by assumption)))); (first | done | fail "no")))) (HB.out.dyb.ext (HE.out.trans (by (with_reducible (repeat (first | exact Ext.refl _ | assumption | (refine Ext.toSet ?_ (by omega)) | refine Ext.toAlloc ?_ | refine Ext.toDrew ?_ | refine Ext.toDrewN ?_ | refine Ext.trans ?_ (by assumption)))); (first | done | fail "no")))) (HT.out.ext (HE.out.trans (by (with_reducible (repeat (first | exact Ext.refl _ | assumption | (refine Ext.toSet ?_ (by omega)) | refine Ext.toAlloc ?_ | refine Ext.toDrew ?_ | refine Ext.toDrewN ?_ | refine Ext.trans ?_ (by assumption)))); (first | done | fail "no"))))).mono ?_); rw [Ev.out]; rintro e1 w2 ⟨A2, c2, rfl, hon, hx2⟩; have D2 := Lib.hid (Dy.of_on hon Wv.out.1 Wv.out.2 (Ext.refl _)); clear hon; have g2 := Ext.size hx2; (try simp only [World.size_alloc] at g2); (first | (have rr := RB.out.ext hx2; clear RB; have RB := Lib.hid rr; clear rr) | ((with_reducible have rr := one6 hx2); have RB := Lib.hid rr; clear rr) | skip))
          | (go_at_call 68; (with_reducible refine (max_any (HA.out.dya.ext (HE.out.trans (by (with_reducible (repeat (first | exact Ext.refl _ | assumption | (refine Ext.toSet ?_ (by omega)) | refine Ext.toAlloc ?_ | refine Ext.toDrew ?_ | refine Ext.toDrewN ?_ | refine Ext.trans ?_ (by assumption)))); (first | done | fail "no")))) (HB.out.dya.ext (HE.out.trans (by (with_reducible (repeat (first | exact Ext.refl _ | assumption | (refine Ext.toSet ?_ (by omega)) | refine Ext.toAlloc ?_ | refine Ext.toDrew ?_ | refine Ext.toDrewN ?_ | refine Ext.trans ?_ (by assumption)))); (first | done | fail "no")))) (HT.out.ext (HE.out.trans (by (with_reducible (repeat (first | exact Ext.refl _ | assumption | (refine Ext.toSet ?_ (by omega)) | refine Ext.toAlloc ?_ | refine Ext.toDrew ?_ | refine Ext.toDrewN ?_ | refine Ext.trans ?_ (by assumption)))); (first | done | fail "no"))))).mono ?_); rw [Eu.out]; rintro e1 w1 ⟨A1, c1, rfl, hon, hx1⟩; have D1 := Lib.hid (Dy.of_on hon Wu.out.1 Wu.out.2 (Ext.refl _)); clear hon; have g1 := Ext.size hx1; (try simp only [World.size_drew, World.size_alloc] at g1); (first | ((with_reducible have rr := one6d hx1); have RB := Lib.hid rr; clear rr) | skip)))
      all_goals
        go_wp2_with fail
        go_meet
        exact ⟨rfl, Lib.hid (by (with_reducible (repeat (first | exact Ext.refl _ | assumption | (refine Ext.toSet ?_ (by omega)) | refine Ext.toAlloc ?_ | refine Ext.toDrew ?_ | refine Ext.toDrewN ?_ | refine Ext.trans ?_ (by assumption)))); (first | done | fail "no"))⟩
    case rest =>
      obtain ⟨rfl, hc⟩ := hcut
      obtain ⟨⟨r0, r1, r2, r3, r4, r5⟩, rz⟩ := HXZ.out.ext hc.out
      have HF := Lib.hid (HE.out.trans hc.out)
      clear hc
      go_wp2_with fail
      exact bodyPost_ret (v := .tuple #[iv false none 0 0 0 false none 0 0 0, .iface 61 (I 23)]) (by simp [results, Tryz.results14, go_sem, r0, r1, r2, r3, r4, r5]) rfl ⟨rfl, ext_set6 HF.out (by omega) _ _ _ _ _ _⟩

set_option maxRecDepth 100000 in
set_option maxHeartbeats 1000000 in
theorem meet_ok {w : World} {n1 n2 : Bool} {A B A' B' : Option Addr} {k c m e c' e' : Nat} {d1 d2 : Int} {a b : DV} {n3 n4 : Bool} {X Y X' Y' : Option Addr} {p q r s q' s' : Nat} {d3 d4 : Int} {x y : DV} (ha : Iw w n1 A k c d1 n2 B m e d2 a b A' c' B' e') (hb : Iw w n3 X p q d3 n4 Y r s d4 x y X' q' Y' s') (hT : Tabs w) (hc : ¬ 0 < cmpD (maxD a x) (minD b y)) :
    Calls Tryz.prog 14 #[iv n1 A k c d1 n2 B m e d2, iv n3 X p q d3 n4 Y r s d4] w (IvOk (lo2 (maxD a x) (minD b y)) (hi2 (maxD a x) (minD b y)) w) := by
  obtain ⟨u, hu⟩ : ∃ u, maxD a x = u := ⟨_, rfl⟩
  obtain ⟨v, hv⟩ : ∃ v, minD b y = v := ⟨_, rfl⟩
  have Wu : Hid (u.ok ∧ len u.m ≤ 16777216) := by show _ ∧ _; rw [← hu]; have := ha.wa.2; have := hb.wa.2; exact ⟨maxD_ok ha.wa.1 hb.wa.1, sz_max (P := fun d => len d.m ≤ 16777216) (by show len a.m ≤ _; omega) (by show len x.m ≤ _; omega)⟩
  have Wv : Hid (v.ok ∧ len v.m ≤ 16777216) := by show _ ∧ _; rw [← hv]; have := ha.wb.2; have := hb.wb.2; exact ⟨minD_ok ha.wb.1 hb.wb.1, sz_min (P := fun d => len d.m ≤ 16777216) (by show len b.m ≤ _; omega) (by show len y.m ≤ _; omega)⟩
  rw [hu, hv] at hc; rw [hu, hv]
  have Eu := Lib.hid hu; have Ev := Lib.hid hv; have HC := Lib.hid (Int.not_lt.1 hc); clear hu hv hc
  have HA := Lib.hid ha; have HB := Lib.hid hb; have HT := Lib.hid hT; clear ha hb hT
  obtain ⟨X0, X1, XZ, XE⟩ := boxes3 w n1 n2 A B k c m e d1 d2 n3 n4 X Y p q r s d3 d4
  have HX0 := Lib.hid X0; have HX1 := Lib.hid X1; have HXZ := Lib.hid XZ; have HXE := Lib.hid XE
  clear X0 X1 XZ XE
  go_enter Tryz.func14, Tryz.ntmps14
  go_upto_region 1 with fail
  go_cut [] (fun wx => TwoI w a b A' c' B' e' x y X' q' Y' s' wx)
  case first =>
    go_region_with (first
      | (go_at_call 66; (with_reducible refine (HA.out.itv _ (HXE.out.trans (by (with_reducible (repeat (first | exact Ext.refl _ | assumption | (refine Ext.toSet ?_ (by omega)) | refine Ext.toAlloc ?_ | refine Ext.toDrew ?_ | refine Ext.toDrewN ?_ | refine Ext.trans ?_ (by assumption)))); (first | done | fail "no")))).mono ?_); rintro e1 wa ⟨rfl, hxwa⟩; obtain ⟨⟨ak0, ak1, ak2, ak3, ak4, ak5⟩, akz⟩ := HX0.out.ext (w' := wa) (by (with_reducible (repeat (first | exact Ext.refl _ | assumption | (refine Ext.toSet ?_ (by omega)) | refine Ext.toAlloc ?_ | refine Ext.toDrew ?_ | refine Ext.toDrewN ?_ | refine Ext.trans ?_ (by assumption)))); (first | done | fail "no")); obtain ⟨⟨al0, al1, al2, al3, al4, al5⟩, alz⟩ := HX1.out.ext (w' := wa) (by (with_reducible (repeat (first | exact Ext.refl _ | assumption | (refine Ext.toSet ?_ (by omega)) | refine Ext.toAlloc ?_ | refine Ext.toDrew ?_ | refine Ext.toDrewN ?_ | refine Ext.trans ?_ (by assumption)))); (first | done | fail "no")))
      | (go_at_call 66; (with_reducible refine (HB.out.itv _ (HXE.out.trans (by (with_reducible (repeat (first | exact Ext.refl _ | assumption | (refine Ext.toSet ?_ (by omega)) | refine Ext.toAlloc ?_ | refine Ext.toDrew ?_ | refine Ext.toDrewN ?_ | refine Ext.trans ?_ (by assumption)))); (first | done | fail "no")))).mono ?_); rintro e1 wb ⟨rfl, hxwb⟩; obtain ⟨⟨bk0, bk1, bk2, bk3, bk4, bk5⟩, bkz⟩ := HX0.out.ext (w' := wb) (by (with_reducible (repeat (first | exact Ext.refl _ | assumption | (refine Ext.toSet ?_ (by omega)) | refine Ext.toAlloc ?_ | refine Ext.toDrew ?_ | refine Ext.toDrewN ?_ | refine Ext.trans ?_ (by assumption)))); (first | done | fail "no")); obtain ⟨⟨bl0, bl1, bl2, bl3, bl4, bl5⟩, blz⟩ := HX1.out.ext (w' := wb) (by (with_reducible (repeat (first | exact Ext.refl _ | assumption | (refine Ext.toSet ?_ (by omega)) | refine Ext.toAlloc ?_ | refine Ext.toDrew ?_ | refine Ext.toDrewN ?_ | refine Ext.trans ?_ (by assumption)))); (first | done | fail "no"))))
    all_goals
      go_wp2_with fail
      go_meet
      exact twoI_of HX0.out HX1.out HXZ.out HXE.out (by (with_reducible (repeat (first | exact Ext.refl _ | assumption | (refine Ext.toSet ?_ (by omega)) | refine Ext.toAlloc ?_ | refine Ext.toDrew ?_ | refine Ext.toDrewN ?_ | refine Ext.trans ?_ (by assumption)))); (first | done | fail "no"))
  case rest =>
    clear HX0 HX1 HXZ HXE
    obtain ⟨hE, hX0, hX1, hXZ⟩ := hcut
    have HE := Lib.hid hE; have HX0 := Lib.hid hX0; have HX1 := Lib.hid hX1; have HXZ := Lib.hid hXZ
    clear hE hX0 hX1 hXZ
    have HS : Hid (∀ w', Ext wc w' → w'.cell? ⟨w.heap.size, 0, none⟩ = some (.bool a.neg) ∧ w'.cell? ⟨w.heap.size, 1, none⟩ = some (.slice A' (len a.m) c') ∧ w'.cell? ⟨w.heap.size, 2, none⟩ = some (I a.den) ∧ w'.cell? ⟨w.heap.size, 3, none⟩ = some (.bool b.neg) ∧ w'.cell? ⟨w.heap.size, 4, none⟩ = some (.slice B' (len b.m) e') ∧ w'.cell? ⟨w.heap.size, 5, none⟩ = some (I b.den) ∧ w'.cell? ⟨w.heap.size + 1, 0, none⟩ = some (.bool x.neg) ∧ w'.cell? ⟨w.heap.size + 1, 1, none⟩ = some (.slice X' (len x.m) q') ∧ w'.cell? ⟨w.heap.size + 1, 2, none⟩ = some (I x.den) ∧ w'.cell? ⟨w.heap.size + 1, 3, none⟩ = some (.bool y.neg) ∧ w'.cell? ⟨w.heap.size + 1, 4, none⟩ = some (.slice Y' (len y.m) s') ∧ w'.cell? ⟨w.heap.size + 1, 5, none⟩ = some (I y.den)) := fun w' e => by
      obtain ⟨⟨i0, i1, i2, i3, i4, i5⟩, iz⟩ := HX0.out.ext e
      obtain ⟨⟨j0, j1, j2, j3, j4, j5⟩, jz⟩ := HX1.out.ext e
      exact ⟨i0, i1, i2, i3, i4, i5, j0, j1, j2, j3, j4, j5⟩
    go_upto_region 2 with fail
    go_cut [6, 7] (fun s6 s7 wx => ∃ r A1 c1 B1 e1, s6 = .pointer (some ⟨r, 0, none⟩) ∧ s7 = .nilIface ∧ Hid (MtS wc wx r (lo2 u v) (hi2 u v) A1 c1 B1 e1))
    case first =>
      clear HX0 HX1 HXZ
      go_region_held3 (fun w' => w'.cell? ⟨w.heap.size, 0, none⟩ = some (.bool a.neg) ∧ w'.cell? ⟨w.heap.size, 1, none⟩ = some (.slice A' (len a.m) c') ∧ w'.cell? ⟨w.heap.size, 2, none⟩ = some (I a.den) ∧ w'.cell? ⟨w.heap.size, 3, none⟩ = some (.bool b.neg) ∧ w'.cell? ⟨w.heap.size, 4, none⟩ = some (.slice B' (len b.m) e') ∧ w'.cell? ⟨w.heap.size, 5, none⟩ = some (I b.den) ∧ w'.cell? ⟨w.heap.size + 1, 0, none⟩ = some (.bool x.neg) ∧ w'.cell? ⟨w.heap.size + 1, 1, none⟩ = some (.slice X' (len x.m) q') ∧ w'.cell? ⟨w.heap.size + 1, 2, none⟩ = some (I x.den) ∧ w'.cell? ⟨w.heap.size + 1, 3, none⟩ = some (.bool y.neg) ∧ w'.cell? ⟨w.heap.size + 1, 4, none⟩ = some (.slice Y' (len y.m) s') ∧ w'.cell? ⟨w.heap.size + 1, 5, none⟩ = some (I y.den)) (first | with_reducible assumption | exact HS.out _ (by (with_reducible (repeat (first | exact Ext.refl _ | assumption | (refine Ext.toSet ?_ (by omega)) | refine Ext.toAlloc ?_ | refine Ext.toDrew ?_ | refine Ext.toDrewN ?_ | refine Ext.trans ?_ (by assumption)))); (first | done | fail "no")))
        (first
          | (have hg := hx2; clear hg; go_at_call 67; (with_reducible refine (imake_ok (D1.out.ext (by (with_reducible (repeat (first | exact Ext.refl _ | assumption | (refine Ext.toSet ?_ (by omega)) | refine Ext.toAlloc ?_ | refine Ext.toDrew ?_ | refine Ext.toDrewN ?_ | refine Ext.trans ?_ (by assumption)))); (first | done | fail "no"))) (D2.out.ext (by (with_reducible (repeat (first | exact Ext.refl _ | assumption | (refine Ext.toSet ?_ (by omega)) | refine Ext.toAlloc ?_ | refine Ext.toDrew ?_ | refine Ext.toDrewN ?_ | refine Ext.trans ?_ (by assumption)))); (first | done | fail "no"))) (HT.out.ext (HE.out.trans (by (with_reducible (repeat (first | exact Ext.refl _ | assumption | (refine Ext.toSet ?_ (by omega)) | refine Ext.toAlloc ?_ | refine Ext.toDrew ?_ | refine Ext.toDrewN ?_ | refine Ext.trans ?_ (by assumption)))); (first | done | fail "no")))) (Int.not_lt.2 HC.out)).mono ?_); rintro e1 w3 ⟨A3, c3, B3, k3, rfl, hfa, hfb, hx3⟩; have FA := Lib.hid hfa; have FB := Lib.hid hfb; clear hfa hfb; have g3 := Ext.size hx3; (try simp only [World.size_alloc] at g3); (first | (have rr := RB.out.ext hx3; clear RB; have RB := Lib.hid rr; clear rr) | ((with_reducible have rr := one6 hx3); have RB := Lib.hid rr; clear rr) | skip); (first | (obtain ⟨⟨r0, r1, r2, r3, r4, r5⟩, rz⟩ := RB.out; have l1 := RB.out.lt; have m1 := Nat.ne_of_lt l1; have n1' := Nat.ne_of_gt l1) | skip))
          | (have hg := hx1; clear hg; go_at_call 69; (with_reducible refine (min_any (HA.out.dyb.ext (HE.out.trans (by (with_reducible (repeat (first | exact Ext.refl _ | assumption | (refine Ext.toSet ?_ (by omega)) | refine Ext.toAlloc ?_ | refine Ext.toDrew ?_ | refine Ext.toDrewN ?_ | refine Ext.trans ?_ (by assumption)))); (first | done | fail "no")))) (HB.out.dyb.ext (HE.out.trans (by (with_reducible (repeat (first | exact Ext.refl _ | assumption | (refine Ext.toSet ?_ (by omega)) | refine Ext.toAlloc ?_ | refine Ext.toDrew ?_ | refine Ext.toDrewN ?_ | refine Ext.trans ?_ (by assumption)))); (first | done | fail "no")))) (HT.out.ext (HE.out.trans (by (with_reducible (repeat (first | exact Ext.refl _ | assumption | (refine Ext.toSet ?_ (by omega)) | refine Ext.toAlloc ?_ | refine Ext.toDrew ?_ | refine Ext.toDrewN ?_ | refine Ext.trans ?_ (by assumption)))); (first | done | fail "no"))))).mono ?_); rw [Ev.out]; rintro e1 w2 ⟨A2, c2, rfl, hon, hx2⟩; have D2 := Lib.hid (Dy.of_on hon Wv.out.1 Wv.out.2 (Ext.refl _)); clear hon; have g2 := Ext.size hx2; (try simp only [World.size_alloc] at g2); (first | (have rr := RB.out.ext hx2; clear RB; have RB := Lib.hid rr; clear rr) | ((with_reducible have rr := one6 hx2); have RB := Lib.hid rr; clear rr) | skip))
          | (go_at_call 68; (with_reducible refine (max_any (HA.out.dya.ext (HE.out.trans (by (with_reducible (repeat (first | exact Ext.refl _ | assumption | (refine Ext.toSet ?_ (by omega)) | refine Ext.toAlloc ?_ | refine Ext.toDrew ?_ | refine Ext.toDrewN ?_ | refine Ext.trans ?_ (by assumption)))); (first | done | fail "no")))) (HB.out.dya.ext (HE.out.trans (by (with_reducible (repeat (first | exact Ext.refl _ | assumption | (refine Ext.toSet ?_ (by omega)) | refine Ext.toAlloc ?_ | refine Ext.toDrew ?_ | refine Ext.toDrewN ?_ | refine Ext.trans ?_ (by assumption)))); (first | done | fail "no")))) (HT.out.ext (HE.out.trans (by (with_reducible (repeat (first | exact Ext.refl _ | assumption | (refine Ext.toSet ?_ (by omega)) | refine Ext.toAlloc ?_ | refine Ext.toDrew ?_ | refine Ext.toDrewN ?_ | refine Ext.trans ?_ (by assumption)))); (first | done | fail "no"))))).mono ?_); rw [Eu.out]; rintro e1 w1 ⟨A1, c1, rfl, hon, hx1⟩; have D1 := Lib.hid (Dy.of_on hon Wu.out.1 Wu.out.2 (Ext.refl _)); clear hon; have g1 := Ext.size hx1; (try simp only [World.size_drew, World.size_alloc] at g1); (first | ((with_reducible have rr := one6d hx1); have RB := Lib.hid rr; clear rr) | skip)))
      all_goals
        go_wp2_with fail
        go_meet
        have fa := FA.out
        have fb := FB.out
        (try simp only [World.size_alloc] at fa fb)
        refine ⟨_, A3, c3, B3, k3, rfl, rfl, (by (with_reducible (repeat (first | exact Ext.refl _ | assumption | (refine Ext.toSet ?_ (by omega)) | refine Ext.toAlloc ?_ | refine Ext.toDrew ?_ | refine Ext.toDrewN ?_ | refine Ext.trans ?_ (by assumption)))); (first | done | fail "no")), ⟨⟨by go_simp, by go_simp, by go_simp, by go_simp, by go_simp, by go_simp⟩, fun i => by go_simp⟩, ?_, ?_⟩
        · with_reducible (repeat (first | refine Off.setp ?_ _ _ | refine Off.toAlloc ?_))
          exact (Fr.off fa (by omega) (by omega) (by omega)).ext (by (with_reducible (repeat (first | exact Ext.refl _ | assumption | (refine Ext.toSet ?_ (by omega)) | refine Ext.toAlloc ?_ | refine Ext.toDrew ?_ | refine Ext.toDrewN ?_ | refine Ext.trans ?_ (by assumption)))); (first | done | fail "no"))
        · with_reducible (repeat (first | refine Off.setp ?_ _ _ | refine Off.toAlloc ?_))
          exact (Fr.off fb (by omega) (by omega) (by omega)).ext (by (with_reducible (repeat (first | exact Ext.refl _ | assumption | (refine Ext.toSet ?_ (by omega)) | refine Ext.toAlloc ?_ | refine Ext.toDrew ?_ | refine Ext.toDrewN ?_ | refine Ext.trans ?_ (by assumption)))); (first | done | fail "no"))
    case rest =>
      obtain ⟨r, A1, c1, B1, e1, rfl, rfl, hc⟩ := hcut
      obtain ⟨hx, hr, oa, ob⟩ := hc.out
      obtain ⟨⟨k0, k1, k2, k3, k4, k5⟩, kz⟩ := hr
      obtain ⟨⟨r0, r1, r2, r3, r4, r5⟩, rz⟩ := HXZ.out.ext hx
      have HF := Lib.hid (HE.out.trans hx); have OA := Lib.hid oa; have OB := Lib.hid ob
      have hz := HXZ.out.lt
      clear hc hx oa ob
      go_wp2_with fail
      exact bodyPost_ret (v := .tuple #[ivd (lo2 u v) A1 c1 (hi2 u v) B1 e1, .nilIface]) (by simp [results, Tryz.results14, go_sem, r0, r1, r2, r3, r4, r5]) rfl (IvOk.end6 rfl OA.out.1 OB.out.1 HF.out (by omega) (by omega) (by omega))
end

end Go.Proofs.YtcdkkohklhmpgaaGreatDoor
