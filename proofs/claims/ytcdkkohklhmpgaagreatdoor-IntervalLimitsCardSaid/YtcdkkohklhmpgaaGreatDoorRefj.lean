/- The reference's differences. -/
import Derived.Test.YtcdkkohklhmpgaaGreatDoorRefi
import Derived.Test.YtcdkkohklhmpgaaGreatDoorDym
namespace Go.Proofs.YtcdkkohklhmpgaaGreatDoor

/-! ### Refj -/
section
open Go.RowKit

set_option maxRecDepth 100000 in
set_option maxHeartbeats 1000000 in
theorem rsub_any {w : World} {na nb : Bool} {A A' B B' : Option Addr} {n c c' k e e' : Nat} {da db : Int} {a b : DV} (ha : Dy w na A n c da a A' c') (hb' : Dy w nb B k e db b B' e') :
    Calls Tryz.prog 122 #[dv na A n c da, dv nb B k e db] w (DyRes (subD a b) w) := by
  have HA := Lib.hid ha; have HB := Lib.hid hb'; clear ha hb'
  obtain ⟨X0, X1, X2, XE⟩ := three_boxes w (.bool na) (.slice A n c) (I da) (.bool nb) (.slice B k e) (I db) (.bool false) (.slice none 0 0) (I 0) 24 24 24
  have HX0 := Lib.hid X0; have HX1 := Lib.hid X1; have HX2 := Lib.hid X2; have HXE := Lib.hid XE
  clear X0 X1 X2 XE
  obtain ⟨k0, k1, k2, k3, k4, k5⟩ := keepB HX0.out HX1.out (Ext.refl _)
  obtain ⟨d', hd'⟩ : ∃ d', subD a b = d' := ⟨_, rfl⟩
  rw [hd']
  have HD' := Lib.hid hd'
  clear hd'
  have hln := len_negD b
  have hlb := HB.out.lim
  have hwn := Lib.hid (negD_ok b)
  have hn2 : ¬ w.heap.size + 1 + 1 = w.heap.size := by omega
  have hn3 : ¬ w.heap.size = w.heap.size + 1 + 1 := by omega
  go_enter Tryz.func122, Tryz.ntmps122
  go_upto_region 1 with fail
  go_region_held3 (fun w' => w'.cell? ⟨w.heap.size, 0, none⟩ = some (.bool na) ∧ w'.cell? ⟨w.heap.size, 1, none⟩ = some (.slice A n c) ∧ w'.cell? ⟨w.heap.size, 2, none⟩ = some (I da) ∧ w'.cell? ⟨w.heap.size + 1, 0, none⟩ = some (.bool nb) ∧ w'.cell? ⟨w.heap.size + 1, 1, none⟩ = some (.slice B k e) ∧ w'.cell? ⟨w.heap.size + 1, 2, none⟩ = some (I db)) (go_keep)
    (first
      | (go_at_call 85; refine (rneg_any (HB.out.ext (HXE.out.trans (Ext.drew _)))).mono ?_; rintro e w5 ⟨A5, c5, rfl, hon5, hx5⟩; obtain ⟨q0, q1, q2, q3, q4, q5⟩ := keepB HX0.out HX1.out (w' := w5) ((Ext.drew _).trans hx5); have HDN := Lib.hid (Dy.of_on hon5 hwn.out (by omega) (Ext.refl _)); clear hon5)
      | (go_at_call 43; refine (radd_any (HA.out.ext ((HXE.out.trans (Ext.drew _)).trans hx5)) HDN.out).mono ?_; rw [show addD a (negD b) = d' from HD'.out]; rintro e w6 ⟨A6, c6, rfl, hon6, hx6⟩; obtain ⟨p0, p1, p2, p3, p4, p5⟩ := keepB HX0.out HX1.out (w' := w6) (((Ext.drew _).trans hx5).trans hx6); have gz := (HX2.out.ext (w' := w6) (((Ext.drew _).trans hx5).trans hx6)).2; obtain ⟨z0, z1, z2⟩ := (HX2.out.ext (w' := w6) (((Ext.drew _).trans hx5).trans hx6)).1; have HO6 := Lib.hid hon6; clear hon6))
  all_goals
    have HXF := Lib.hid (((HXE.out.trans (Ext.drew _)).trans hx5).trans hx6)
    have hlt := (HX2.out.ext (w' := w5) ((Ext.drew _).trans hx5)).lt
    go_wp2_with fail
    exact bodyPost_ret (v := dv d'.neg A6 (len d'.m) c6 d'.den) (by simp [results, Tryz.results122, go_sem, z0, z1, z2]) rfl (DyRes.end3 rfl HO6.out HXF.out (by omega) (by omega) hlt)
end

/-! ### Refk -/
section
open Go.RowKit

set_option maxRecDepth 100000 in
set_option maxHeartbeats 1000000 in
theorem rdcmp_any {w : World} {na nb : Bool} {A A' B B' : Option Addr} {n c c' k e e' : Nat} {da db : Int} {a b : DV} (ha : Dy w na A n c da a A' c') (hb' : Dy w nb B k e db b B' e') (hl : len (subD a b).m ≤ 16777216) (hok : (subD a b).ok) :
    Calls Tryz.prog 81 #[dv na A n c da, dv nb B k e db] w fun e w' => e = .returned (I (cmpD a b)) ∧ Ext w w' := by
  have HA := Lib.hid ha; have HB := Lib.hid hb'; clear ha hb'
  have HL := Lib.hid hl; have HOK := Lib.hid hok; clear hl hok
  have HC : Hid (signD (subD a b) = cmpD a b) := by show _ = _; rfl
  obtain ⟨d, hd⟩ : ∃ d, subD a b = d := ⟨_, rfl⟩
  rw [hd] at HL HOK HC
  have HDE := Lib.hid hd
  clear hd
  go_enter Tryz.func81, Tryz.ntmps81
  go_wp2_with (first
    | (go_at_call 122; (with_reducible refine (rsub_any (HA.out.ext ((Ext.alloc _ _).trans (Ext.alloc _ _))) (HB.out.ext ((Ext.alloc _ _).trans (Ext.alloc _ _)))).mono ?_); rw [HDE.out]; rintro e w5 ⟨A5, c5, rfl, hon, hx⟩; have HD5 := Lib.hid (Dy.of_on hon HOK.out HL.out (Ext.refl _)); have HX5 : Hid (Ext w w5) := ((Ext.alloc _ _).trans (Ext.alloc _ _)).trans hx; clear hon hx)
    | (go_at_call 82; (with_reducible refine (rsign_any HD5.out).mono ?_); rintro e w6 ⟨rfl, hx⟩; rw [HC.out]; have HX6 := Lib.hid (HX5.out.trans hx); clear hx))
  go_ret
  exact ⟨rfl, HX6.out⟩
end

/-! ### Refl -/
section
open Go.RowKit

theorem q_zero : DV.zero.q = 0 := qOf_zero _ _
theorem add_zero_D {a : DV} (h : a.ok) : addD a DV.zero = a := DV.uniq (addD_ok _ _) h (by rw [q_addD h DV.zero_ok, q_zero]; grind)

set_option maxRecDepth 100000 in
set_option maxHeartbeats 1000000 in
theorem rmin_any {w : World} {na nb : Bool} {A A' B B' : Option Addr} {n c c' k e e' : Nat} {da db : Int} {a b : DV} (ha : Dy w na A n c da a A' c') (hb' : Dy w nb B k e db b B' e') (hl : len (subD a b).m ≤ 16777216) (hok : (subD a b).ok) :
    Calls Tryz.prog 80 #[dv na A n c da, dv nb B k e db] w (DyRes (minD a b) w) := by
  have HA := Lib.hid ha; have HB := Lib.hid hb'; clear ha hb'
  have HL := Lib.hid hl; have HOK := Lib.hid hok; clear hl hok
  obtain ⟨X0, X1, X2, XE⟩ := three_boxes w (.bool na) (.slice A n c) (I da) (.bool nb) (.slice B k e) (I db) (.bool false) (.slice none 0 0) (I 0) 24 24 24
  have HX0 := Lib.hid X0; have HX1 := Lib.hid X1; have HX2 := Lib.hid X2; have HXE := Lib.hid XE
  clear X0 X1 X2 XE
  by_cases hc : 0 < cmpD a b
  · have HR := Lib.hid (min_r hc)
    rw [HR.out]
    have HZ := Lib.hid (add_zero_D HB.out.wf)
    obtain ⟨v, hv⟩ : ∃ v, cmpD a b = v := ⟨_, rfl⟩
    rw [hv] at hc
    have HV := Lib.hid hv
    clear hv
    go_enter Tryz.func80, Tryz.ntmps80
    go_wp2_with (go_at_call 81; (with_reducible refine (rdcmp_any (HA.out.ext HXE.out) (HB.out.ext HXE.out) HL.out HOK.out).mono ?_); rintro e w5 ⟨rfl, hx5⟩; rw [HV.out]; obtain ⟨k0, k1, k2, k3, k4, k5⟩ := keepB HX0.out HX1.out (w' := w5) hx5; have gz := (HX2.out.ext hx5).2; have ga := (HX0.out.ext hx5).2; obtain ⟨z0, z1, z2⟩ := (HX2.out.ext hx5).1; have HX5 := Lib.hid hx5; clear hx5)
    refine (radd_any (HB.out.ext (ext_set3 (HXE.out.trans HX5.out) (Nat.le_refl _) _ _ _)) (Dy.zero _)).mono ?_
    rw [HZ.out]
    rintro e w6 ⟨A6, c6, rfl, hon6, hx6⟩
    have gz6 := (((HX2.out.ext HX5.out).far3 (g' := w.heap.size) (by omega) _ _ _).ext hx6).2
    obtain ⟨y0, y1, y2⟩ := (((HX2.out.ext HX5.out).far3 (g' := w.heap.size) (by omega) _ _ _).ext hx6).1
    have HO6 := Lib.hid (On.mono (base' := w5.heap.size) hon6 (by simp))
    have HXF := Lib.hid ((ext_set3 (HXE.out.trans HX5.out) (Nat.le_refl _) _ _ _).trans hx6)
    have hlt := (HX2.out.ext HX5.out).lt
    clear hon6 hx6
    go_wp2_with fail
    exact bodyPost_ret (v := dv b.neg A6 (len b.m) c6 b.den) (by simp [results, Tryz.results80, go_sem, y0, y1, y2]) rfl (DyRes.end3 rfl HO6.out HXF.out (by omega) (by omega) hlt)
  · have HR := Lib.hid (min_l hc)
    rw [HR.out]
    have HZ := Lib.hid (add_zero_D HA.out.wf)
    obtain ⟨v, hv⟩ : ∃ v, cmpD a b = v := ⟨_, rfl⟩
    rw [hv] at hc
    have HV := Lib.hid hv
    clear hv
    go_enter Tryz.func80, Tryz.ntmps80
    go_wp2_with (go_at_call 81; (with_reducible refine (rdcmp_any (HA.out.ext HXE.out) (HB.out.ext HXE.out) HL.out HOK.out).mono ?_); rintro e w5 ⟨rfl, hx5⟩; rw [HV.out]; obtain ⟨k0, k1, k2, k3, k4, k5⟩ := keepB HX0.out HX1.out (w' := w5) hx5; have gz := (HX2.out.ext hx5).2; obtain ⟨z0, z1, z2⟩ := (HX2.out.ext hx5).1; have HX5 := Lib.hid hx5; clear hx5)
    refine (radd_any (HA.out.ext (HXE.out.trans HX5.out)) (Dy.zero _)).mono ?_
    rw [HZ.out]
    rintro e w6 ⟨A6, c6, rfl, hon6, hx6⟩
    have gz6 := (HX2.out.ext (HX5.out.trans hx6)).2
    obtain ⟨y0, y1, y2⟩ := (HX2.out.ext (HX5.out.trans hx6)).1
    have HO6 := Lib.hid hon6
    have HXF := Lib.hid ((HXE.out.trans HX5.out).trans hx6)
    have hlt := (HX2.out.ext HX5.out).lt
    clear hon6 hx6
    go_wp2_with fail
    exact bodyPost_ret (v := dv a.neg A6 (len a.m) c6 a.den) (by simp [results, Tryz.results80, go_sem, y0, y1, y2]) rfl (DyRes.end3 rfl HO6.out HXF.out (by omega) (by omega) hlt)

set_option maxRecDepth 100000 in
set_option maxHeartbeats 1000000 in
theorem rmax_any {w : World} {na nb : Bool} {A A' B B' : Option Addr} {n c c' k e e' : Nat} {da db : Int} {a b : DV} (ha : Dy w na A n c da a A' c') (hb' : Dy w nb B k e db b B' e') (hl : len (subD a b).m ≤ 16777216) (hok : (subD a b).ok) :
    Calls Tryz.prog 79 #[dv na A n c da, dv nb B k e db] w (DyRes (maxD a b) w) := by
  have HA := Lib.hid ha; have HB := Lib.hid hb'; clear ha hb'
  have HL := Lib.hid hl; have HOK := Lib.hid hok; clear hl hok
  obtain ⟨X0, X1, X2, XE⟩ := three_boxes w (.bool na) (.slice A n c) (I da) (.bool nb) (.slice B k e) (I db) (.bool false) (.slice none 0 0) (I 0) 24 24 24
  have HX0 := Lib.hid X0; have HX1 := Lib.hid X1; have HX2 := Lib.hid X2; have HXE := Lib.hid XE
  clear X0 X1 X2 XE
  by_cases hc : cmpD a b < 0
  · have HR := Lib.hid (max_r hc)
    rw [HR.out]
    have HZ := Lib.hid (add_zero_D HB.out.wf)
    obtain ⟨v, hv⟩ : ∃ v, cmpD a b = v := ⟨_, rfl⟩
    rw [hv] at hc
    have HV := Lib.hid hv
    clear hv
    go_enter Tryz.func79, Tryz.ntmps79
    go_wp2_with (go_at_call 81; (with_reducible refine (rdcmp_any (HA.out.ext HXE.out) (HB.out.ext HXE.out) HL.out HOK.out).mono ?_); rintro e w5 ⟨rfl, hx5⟩; rw [HV.out]; obtain ⟨k0, k1, k2, k3, k4, k5⟩ := keepB HX0.out HX1.out (w' := w5) hx5; have gz := (HX2.out.ext hx5).2; have ga := (HX0.out.ext hx5).2; obtain ⟨z0, z1, z2⟩ := (HX2.out.ext hx5).1; have HX5 := Lib.hid hx5; clear hx5)
    refine (radd_any (HB.out.ext (ext_set3 (HXE.out.trans HX5.out) (Nat.le_refl _) _ _ _)) (Dy.zero _)).mono ?_
    rw [HZ.out]
    rintro e w6 ⟨A6, c6, rfl, hon6, hx6⟩
    have gz6 := (((HX2.out.ext HX5.out).far3 (g' := w.heap.size) (by omega) _ _ _).ext hx6).2
    obtain ⟨y0, y1, y2⟩ := (((HX2.out.ext HX5.out).far3 (g' := w.heap.size) (by omega) _ _ _).ext hx6).1
    have HO6 := Lib.hid (On.mono (base' := w5.heap.size) hon6 (by simp))
    have HXF := Lib.hid ((ext_set3 (HXE.out.trans HX5.out) (Nat.le_refl _) _ _ _).trans hx6)
    have hlt := (HX2.out.ext HX5.out).lt
    clear hon6 hx6
    go_wp2_with fail
    exact bodyPost_ret (v := dv b.neg A6 (len b.m) c6 b.den) (by simp [results, Tryz.results79, go_sem, y0, y1, y2]) rfl (DyRes.end3 rfl HO6.out HXF.out (by omega) (by omega) hlt)
  · have HR := Lib.hid (max_l hc)
    rw [HR.out]
    have HZ := Lib.hid (add_zero_D HA.out.wf)
    obtain ⟨v, hv⟩ : ∃ v, cmpD a b = v := ⟨_, rfl⟩
    rw [hv] at hc
    have HV := Lib.hid hv
    clear hv
    go_enter Tryz.func79, Tryz.ntmps79
    go_wp2_with (go_at_call 81; (with_reducible refine (rdcmp_any (HA.out.ext HXE.out) (HB.out.ext HXE.out) HL.out HOK.out).mono ?_); rintro e w5 ⟨rfl, hx5⟩; rw [HV.out]; obtain ⟨k0, k1, k2, k3, k4, k5⟩ := keepB HX0.out HX1.out (w' := w5) hx5; have gz := (HX2.out.ext hx5).2; obtain ⟨z0, z1, z2⟩ := (HX2.out.ext hx5).1; have HX5 := Lib.hid hx5; clear hx5)
    refine (radd_any (HA.out.ext (HXE.out.trans HX5.out)) (Dy.zero _)).mono ?_
    rw [HZ.out]
    rintro e w6 ⟨A6, c6, rfl, hon6, hx6⟩
    have gz6 := (HX2.out.ext (HX5.out.trans hx6)).2
    obtain ⟨y0, y1, y2⟩ := (HX2.out.ext (HX5.out.trans hx6)).1
    have HO6 := Lib.hid hon6
    have HXF := Lib.hid ((HXE.out.trans HX5.out).trans hx6)
    have hlt := (HX2.out.ext HX5.out).lt
    clear hon6 hx6
    go_wp2_with fail
    exact bodyPost_ret (v := dv a.neg A6 (len a.m) c6 a.den) (by simp [results, Tryz.results79, go_sem, y0, y1, y2]) rfl (DyRes.end3 rfl HO6.out HXF.out (by omega) (by omega) hlt)
end

end Go.Proofs.YtcdkkohklhmpgaaGreatDoor
