/- Numbers as structs: differences, minima, maxima, Ceil. -/
import Derived.Test.YtcdkkohklhmpgaaGreatDoorDyk
import Derived.Test.YtcdkkohklhmpgaaGreatDoorDyl
namespace Go.Proofs.YtcdkkohklhmpgaaGreatDoor
open Go.RowKit
attribute [local go_sem ↓] Go.wp_at_zero Go.wp_at_succ

theorem nrm_m_le (neg : Bool) (m k : Nat) : (nrm neg m k).m ≤ m := by
  unfold nrm; split
  · exact Nat.zero_le _
  · exact Nat.div_le_self _ _
theorem mkD_m_le (neg : Bool) (m k : Nat) : (mkD neg m k).m ≤ m := by
  unfold mkD; split
  · exact nrm_m_le _ _ _
  · exact Nat.le_trans (nrm_m_le _ _ _) (Nat.div_le_self _ _)
theorem len_negD (d : DV) : len (negD d).m ≤ len d.m := len_mono (mkD_m_le _ _ _)
theorem Dy.of_on {w w0 : World} {d : DV} {A : Option Addr} {c b : Nat} (h : On w b A (len d.m) c (dg d.m)) (wf : d.ok) (hl : len d.m ≤ 16777216) (e : Ext w w0) : Dy w0 d.neg A (len d.m) c d.den d A c := (Dy.valid h.rd h.ok wf hl).ext e

set_option maxRecDepth 100000 in
set_option maxHeartbeats 1000000 in
theorem sub_any {w : World} {na nb : Bool} {A A' B B' : Option Addr} {n c c' k e e' : Nat} {da db : Int} {a b : DV} (ha : Dy w na A n c da a A' c') (hb' : Dy w nb B k e db b B' e') (hT : Tabs w) :
    Calls Tryz.prog 32 #[dv na A n c da, dv nb B k e db] w (DyRes (subD a b) w) := by
  have HA := Lib.hid ha; have HB := Lib.hid hb'; have HT := Lib.hid hT; clear ha hb' hT
  obtain ⟨X0, X1, X2, XE⟩ := three_boxes w (.bool na) (.slice A n c) (I da) (.bool nb) (.slice B k e) (I db) (.bool false) (.slice none 0 0) (I 0) 24 24 24
  have HX0 := Lib.hid X0; have HX1 := Lib.hid X1; have HX2 := Lib.hid X2; have HXE := Lib.hid XE
  clear X0 X1 X2 XE
  obtain ⟨k0, k1, k2, k3, k4, k5⟩ := keepB HX0.out HX1.out (Ext.refl _)
  obtain ⟨d', hd'⟩ : ∃ d', subD a b = d' := ⟨_, rfl⟩
  rw [hd']
  have HD' := Lib.hid hd'
  clear hd'
  have hln := len_negD b
  have hlb := HB.out.lim
  have hwn := Lib.hid (negD_ok b)
  have hn2 : ¬ w.heap.size + 1 + 1 = w.heap.size := by omega
  have hn3 : ¬ w.heap.size = w.heap.size + 1 + 1 := by omega
  go_enter Tryz.func32, Tryz.ntmps32
  go_upto_region 1 with fail
  go_region_held3 (fun w' => w'.cell? ⟨w.heap.size, 0, none⟩ = some (.bool na) ∧ w'.cell? ⟨w.heap.size, 1, none⟩ = some (.slice A n c) ∧ w'.cell? ⟨w.heap.size, 2, none⟩ = some (I da) ∧ w'.cell? ⟨w.heap.size + 1, 0, none⟩ = some (.bool nb) ∧ w'.cell? ⟨w.heap.size + 1, 1, none⟩ = some (.slice B k e) ∧ w'.cell? ⟨w.heap.size + 1, 2, none⟩ = some (I db)) (go_keep)
    (first
      | (go_at_call 110; refine (neg_any (HB.out.ext (HXE.out.trans (Ext.drew _))) (HT.out.ext (HXE.out.trans (Ext.drew _)))).mono ?_; rintro e w5 ⟨A5, c5, rfl, hon5, hx5⟩; obtain ⟨q0, q1, q2, q3, q4, q5⟩ := keepB HX0.out HX1.out (w' := w5) ((Ext.drew _).trans hx5); have HDN := Lib.hid (Dy.of_on hon5 hwn.out (by omega) (Ext.refl _)); clear hon5)
      | (go_at_call 72; refine (add_any (HA.out.ext ((HXE.out.trans (Ext.drew _)).trans hx5)) HDN.out (HT.out.ext ((HXE.out.trans (Ext.drew _)).trans hx5))).mono ?_; rw [show addD a (negD b) = d' from HD'.out]; rintro e w6 ⟨A6, c6, rfl, hon6, hx6⟩; obtain ⟨p0, p1, p2, p3, p4, p5⟩ := keepB HX0.out HX1.out (w' := w6) (((Ext.drew _).trans hx5).trans hx6); have gz := (HX2.out.ext (w' := w6) (((Ext.drew _).trans hx5).trans hx6)).2; obtain ⟨z0, z1, z2⟩ := (HX2.out.ext (w' := w6) (((Ext.drew _).trans hx5).trans hx6)).1; have HO6 := Lib.hid hon6; clear hon6))
  all_goals
    have HXF := Lib.hid (((HXE.out.trans (Ext.drew _)).trans hx5).trans hx6)
    have hlt := (HX2.out.ext (w' := w5) ((Ext.drew _).trans hx5)).lt
    go_wp2_with fail
    exact bodyPost_ret (v := dv d'.neg A6 (len d'.m) c6 d'.den) (by simp [results, Tryz.results32, go_sem, z0, z1, z2]) rfl (DyRes.end3 rfl HO6.out HXF.out (by omega) (by omega) hlt)

theorem min_r {a b : DV} (h : 0 < cmpD a b) : minD a b = b := by unfold minD; rw [if_pos h]
theorem min_l {a b : DV} (h : ¬ 0 < cmpD a b) : minD a b = a := by unfold minD; rw [if_neg h]
theorem max_r {a b : DV} (h : cmpD a b < 0) : maxD a b = b := by unfold maxD; rw [if_pos h]
theorem max_l {a b : DV} (h : ¬ cmpD a b < 0) : maxD a b = a := by unfold maxD; rw [if_neg h]

set_option maxRecDepth 100000 in
set_option maxHeartbeats 1000000 in
theorem min_any {w : World} {na nb : Bool} {A A' B B' : Option Addr} {n c c' k e e' : Nat} {da db : Int} {a b : DV} (ha : Dy w na A n c da a A' c') (hb' : Dy w nb B k e db b B' e') (hT : Tabs w) :
    Calls Tryz.prog 69 #[dv na A n c da, dv nb B k e db] w (DyRes (minD a b) w) := by
  have HA := Lib.hid ha; have HB := Lib.hid hb'; have HT := Lib.hid hT; clear ha hb' hT
  obtain ⟨X0, X1, X2, XE⟩ := three_boxes w (.bool na) (.slice A n c) (I da) (.bool nb) (.slice B k e) (I db) (.bool false) (.slice none 0 0) (I 0) 24 24 24
  have HX0 := Lib.hid X0; have HX1 := Lib.hid X1; have HX2 := Lib.hid X2; have HXE := Lib.hid XE
  clear X0 X1 X2 XE
  by_cases hc : 0 < cmpD a b
  · have HR := Lib.hid (min_r hc)
    rw [HR.out]
    obtain ⟨v, hv⟩ : ∃ v, cmpD a b = v := ⟨_, rfl⟩
    rw [hv] at hc
    have HV := Lib.hid hv
    clear hv
    go_enter Tryz.func69, Tryz.ntmps69
    go_wp2_with (go_at_call 31; refine (cmp_any (HA.out.ext HXE.out) (HB.out.ext HXE.out)).mono ?_; rintro e w5 ⟨rfl, hx5⟩; rw [HV.out]; obtain ⟨k0, k1, k2, k3, k4, k5⟩ := keepB HX0.out HX1.out (w' := w5) hx5; have gz := (HX2.out.ext hx5).2; obtain ⟨z0, z1, z2⟩ := (HX2.out.ext hx5).1; have HX5 := Lib.hid hx5; clear hx5)
    refine (fresh_any (HB.out.ext (HXE.out.trans HX5.out)) (HT.out.ext (HXE.out.trans HX5.out))).mono ?_
    rintro e w6 ⟨A6, c6, rfl, hon6, hx6⟩
    have gz6 := (HX2.out.ext (HX5.out.trans hx6)).2
    obtain ⟨y0, y1, y2⟩ := (HX2.out.ext (HX5.out.trans hx6)).1
    have HO6 := Lib.hid hon6
    have HXF := Lib.hid ((HXE.out.trans HX5.out).trans hx6)
    have hlt := (HX2.out.ext HX5.out).lt
    clear hon6 hx6
    go_wp2_with fail
    exact bodyPost_ret (v := dv b.neg A6 (len b.m) c6 b.den) (by simp [results, Tryz.results69, go_sem, y0, y1, y2]) rfl (DyRes.end3 rfl HO6.out HXF.out (by omega) (by omega) hlt)
  · have HR := Lib.hid (min_l hc)
    rw [HR.out]
    obtain ⟨v, hv⟩ : ∃ v, cmpD a b = v := ⟨_, rfl⟩
    rw [hv] at hc
    have HV := Lib.hid hv
    clear hv
    go_enter Tryz.func69, Tryz.ntmps69
    go_wp2_with (go_at_call 31; refine (cmp_any (HA.out.ext HXE.out) (HB.out.ext HXE.out)).mono ?_; rintro e w5 ⟨rfl, hx5⟩; rw [HV.out]; obtain ⟨k0, k1, k2, k3, k4, k5⟩ := keepB HX0.out HX1.out (w' := w5) hx5; have gz := (HX2.out.ext hx5).2; obtain ⟨z0, z1, z2⟩ := (HX2.out.ext hx5).1; have HX5 := Lib.hid hx5; clear hx5)
    refine (fresh_any (HA.out.ext (HXE.out.trans HX5.out)) (HT.out.ext (HXE.out.trans HX5.out))).mono ?_
    rintro e w6 ⟨A6, c6, rfl, hon6, hx6⟩
    have gz6 := (HX2.out.ext (HX5.out.trans hx6)).2
    obtain ⟨y0, y1, y2⟩ := (HX2.out.ext (HX5.out.trans hx6)).1
    have HO6 := Lib.hid hon6
    have HXF := Lib.hid ((HXE.out.trans HX5.out).trans hx6)
    have hlt := (HX2.out.ext HX5.out).lt
    clear hon6 hx6
    go_wp2_with fail
    exact bodyPost_ret (v := dv a.neg A6 (len a.m) c6 a.den) (by simp [results, Tryz.results69, go_sem, y0, y1, y2]) rfl (DyRes.end3 rfl HO6.out HXF.out (by omega) (by omega) hlt)

set_option maxRecDepth 100000 in
set_option maxHeartbeats 1000000 in
theorem max_any {w : World} {na nb : Bool} {A A' B B' : Option Addr} {n c c' k e e' : Nat} {da db : Int} {a b : DV} (ha : Dy w na A n c da a A' c') (hb' : Dy w nb B k e db b B' e') (hT : Tabs w) :
    Calls Tryz.prog 68 #[dv na A n c da, dv nb B k e db] w (DyRes (maxD a b) w) := by
  have HA := Lib.hid ha; have HB := Lib.hid hb'; have HT := Lib.hid hT; clear ha hb' hT
  obtain ⟨X0, X1, X2, XE⟩ := three_boxes w (.bool na) (.slice A n c) (I da) (.bool nb) (.slice B k e) (I db) (.bool false) (.slice none 0 0) (I 0) 24 24 24
  have HX0 := Lib.hid X0; have HX1 := Lib.hid X1; have HX2 := Lib.hid X2; have HXE := Lib.hid XE
  clear X0 X1 X2 XE
  by_cases hc : cmpD a b < 0
  · have HR := Lib.hid (max_r hc)
    rw [HR.out]
    obtain ⟨v, hv⟩ : ∃ v, cmpD a b = v := ⟨_, rfl⟩
    rw [hv] at hc
    have HV := Lib.hid hv
    clear hv
    go_enter Tryz.func68, Tryz.ntmps68
    go_wp2_with (go_at_call 31; refine (cmp_any (HA.out.ext HXE.out) (HB.out.ext HXE.out)).mono ?_; rintro e w5 ⟨rfl, hx5⟩; rw [HV.out]; obtain ⟨k0, k1, k2, k3, k4, k5⟩ := keepB HX0.out HX1.out (w' := w5) hx5; have gz := (HX2.out.ext hx5).2; obtain ⟨z0, z1, z2⟩ := (HX2.out.ext hx5).1; have HX5 := Lib.hid hx5; clear hx5)
    refine (fresh_any (HB.out.ext (HXE.out.trans HX5.out)) (HT.out.ext (HXE.out.trans HX5.out))).mono ?_
    rintro e w6 ⟨A6, c6, rfl, hon6, hx6⟩
    have gz6 := (HX2.out.ext (HX5.out.trans hx6)).2
    obtain ⟨y0, y1, y2⟩ := (HX2.out.ext (HX5.out.trans hx6)).1
    have HO6 := Lib.hid hon6
    have HXF := Lib.hid ((HXE.out.trans HX5.out).trans hx6)
    have hlt := (HX2.out.ext HX5.out).lt
    clear hon6 hx6
    go_wp2_with fail
    exact bodyPost_ret (v := dv b.neg A6 (len b.m) c6 b.den) (by simp [results, Tryz.results68, go_sem, y0, y1, y2]) rfl (DyRes.end3 rfl HO6.out HXF.out (by omega) (by omega) hlt)
  · have HR := Lib.hid (max_l hc)
    rw [HR.out]
    obtain ⟨v, hv⟩ : ∃ v, cmpD a b = v := ⟨_, rfl⟩
    rw [hv] at hc
    have HV := Lib.hid hv
    clear hv
    go_enter Tryz.func68, Tryz.ntmps68
    go_wp2_with (go_at_call 31; refine (cmp_any (HA.out.ext HXE.out) (HB.out.ext HXE.out)).mono ?_; rintro e w5 ⟨rfl, hx5⟩; rw [HV.out]; obtain ⟨k0, k1, k2, k3, k4, k5⟩ := keepB HX0.out HX1.out (w' := w5) hx5; have gz := (HX2.out.ext hx5).2; obtain ⟨z0, z1, z2⟩ := (HX2.out.ext hx5).1; have HX5 := Lib.hid hx5; clear hx5)
    refine (fresh_any (HA.out.ext (HXE.out.trans HX5.out)) (HT.out.ext (HXE.out.trans HX5.out))).mono ?_
    rintro e w6 ⟨A6, c6, rfl, hon6, hx6⟩
    have gz6 := (HX2.out.ext (HX5.out.trans hx6)).2
    obtain ⟨y0, y1, y2⟩ := (HX2.out.ext (HX5.out.trans hx6)).1
    have HO6 := Lib.hid hon6
    have HXF := Lib.hid ((HXE.out.trans HX5.out).trans hx6)
    have hlt := (HX2.out.ext HX5.out).lt
    clear hon6 hx6
    go_wp2_with fail
    exact bodyPost_ret (v := dv a.neg A6 (len a.m) c6 a.den) (by simp [results, Tryz.results68, go_sem, y0, y1, y2]) rfl (DyRes.end3 rfl HO6.out HXF.out (by omega) (by omega) hlt)
end Go.Proofs.YtcdkkohklhmpgaaGreatDoor
