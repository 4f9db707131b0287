/- Numbers as structs: sums. -/
import Derived.Test.YtgnngldlgcdnfaaGreatDoorMdz
namespace Go.Proofs.YtgnngldlgcdnfaaGreatDoor

/-! ### Dyl -/
section
open Go.RowKit
attribute [local go_sem ↓] Go.wp_at_zero Go.wp_at_succ

theorem add_same {a b : DV} (h : a.neg = b.neg) : addD a b = mkD a.neg (al a (max a.den b.den) + al b (max a.den b.den)) (max a.den b.den) := by unfold addD; rw [if_pos h]
theorem add_lt {a b : DV} (h : a.neg ≠ b.neg) (h2 : al a (max a.den b.den) < al b (max a.den b.den)) : addD a b = mkD b.neg (al b (max a.den b.den) - al a (max a.den b.den)) (max a.den b.den) := by unfold addD; rw [if_neg h, if_pos h2]
theorem add_ge {a b : DV} (h : a.neg ≠ b.neg) (h2 : ¬ al a (max a.den b.den) < al b (max a.den b.den)) : addD a b = mkD a.neg (al a (max a.den b.den) - al b (max a.den b.den)) (max a.den b.den) := by unfold addD; rw [if_neg h, if_neg h2]
theorem cmpF_lt0 {x y : Nat} : cmpF x y < 0 ↔ x < y := by
  unfold cmpF
  by_cases h : x < y
  · simp [h]
  · by_cases h2 : y < x <;> simp [h, h2]
theorem keepT {w w0 w' : World} {a b : DV} {A B : Option Addr} {ca cb : Nat} (h : Two w a b A B ca cb w0) (e : Ext w0 w') : Two w a b A B ca cb w' := ⟨h.1.trans e, h.2.1.ext e, h.2.2.1.ext e, h.2.2.2.ext e⟩
theorem len_add (x y : Nat) : len (x + y) ≤ max (len x) (len y) + 1 := by
  refine len_le ?_
  have h1 := lt_pB (m := x) (n := max (len x) (len y)) (by omega)
  have h2 := lt_pB (m := y) (n := max (len x) (len y)) (by omega)
  rw [pB_succ]; omega

set_option maxRecDepth 100000 in
set_option maxHeartbeats 1000000 in
theorem add_any {w : World} {na nb : Bool} {A A' B B' : Option Addr} {n c c' k e e' : Nat} {da db : Int} {a b : DV} (ha : Dy w na A n c da a A' c') (hb' : Dy w nb B k e db b B' e') (hT : Tabs w) :
    Calls Tryz.prog 201 #[dv na A n c da, dv nb B k e db] w (DyRes (addD a b) w) := by
  have HA := Lib.hid ha; have HB := Lib.hid hb'; have HT := Lib.hid hT; clear ha hb' hT
  obtain ⟨X0, X1, X2, XE⟩ := three_boxes w (.bool na) (.slice A n c) (I da) (.bool nb) (.slice B k e) (I db) (.bool false) (.slice none 0 0) (I 0) 56 56 56
  have HX0 := Lib.hid X0; have HX1 := Lib.hid X1; have HX2 := Lib.hid X2; have HXE := Lib.hid XE
  clear X0 X1 X2 XE
  have HAL : Hid (∀ w', Ext w w' → Calls Tryz.prog 154 #[dv a.neg A' (len a.m) c' a.den, dv b.neg B' (len b.m) e' b.den] w' (AlRes (al a (max a.den b.den)) (al b (max a.den b.den)) (max a.den b.den) w')) := fun w' e => aligned_any (HA.out.rd.ext e) (HB.out.rd.ext e) HA.out.wf.2.1 HB.out.wf.2.1 HA.out.lim HB.out.lim
  have hD3 : max a.den b.den ≤ 65536 := by have h3 := HA.out.wf.2.1; have h4 := HB.out.wf.2.1; omega
  have hlx : len (al a (max a.den b.den)) ≤ 16779300 := by
    have h1 := len_shl a.m (max a.den b.den - a.den)
    have h2 := HA.out.lim
    unfold al; omega
  have hly : len (al b (max a.den b.den)) ≤ 16779300 := by
    have h1 := len_shl b.m (max a.den b.den - b.den)
    have h2 := HB.out.lim
    unfold al; omega
  have HS1 : Hid (a.neg = b.neg → nrmI a.neg (al a (max a.den b.den) + al b (max a.den b.den)) (max a.den b.den : Nat) = addD a b) := fun h => by rw [nrmI_nat, add_same h]
  have HS2 : Hid (a.neg ≠ b.neg → al a (max a.den b.den) < al b (max a.den b.den) → nrmI b.neg (al b (max a.den b.den) - al a (max a.den b.den)) (max a.den b.den : Nat) = addD a b) := fun h h2 => by rw [nrmI_nat, add_lt h h2]
  have HS3 : Hid (a.neg ≠ b.neg → ¬ al a (max a.den b.den) < al b (max a.den b.den) → nrmI a.neg (al a (max a.den b.den) - al b (max a.den b.den)) (max a.den b.den : Nat) = addD a b) := fun h h2 => by rw [nrmI_nat, add_ge h h2]
  generalize al a (max a.den b.den) = x at *
  generalize al b (max a.den b.den) = y at *
  generalize max a.den b.den = D at *
  generalize addD a b = d' at *
  go_enter Tryz.func201, Tryz.ntmps201
  go_upto_region 1 with fail
  go_cut [] (fun wx => Two w a b A' B' c' e' wx)
  case first =>
    go_region_with ((first | (go_at_call 151; refine (HA.out.num _ (HXE.out.trans (by repeat (first | exact Ext.refl _ | assumption | refine Ext.trans ?_ (Ext.drew _) | refine Ext.trans ?_ (by assumption))))).mono ?_; rintro e wa ⟨rfl, hxa⟩; have ga0 := (HX0.out.ext (w' := wa) (by repeat (first | exact Ext.refl _ | assumption | refine Ext.trans ?_ (Ext.drew _) | refine Ext.trans ?_ (by assumption)))).2; have ga1 := (HX1.out.ext (w' := wa) (by repeat (first | exact Ext.refl _ | assumption | refine Ext.trans ?_ (Ext.drew _) | refine Ext.trans ?_ (by assumption)))).2; obtain ⟨ka0, ka1, ka2, ka3, ka4, ka5⟩ := keepB HX0.out HX1.out (w' := wa) (by repeat (first | exact Ext.refl _ | assumption | refine Ext.trans ?_ (Ext.drew _) | refine Ext.trans ?_ (by assumption)))) | (go_at_call 151; refine (HB.out.num _ (HXE.out.trans (by repeat (first | exact Ext.refl _ | assumption | refine Ext.trans ?_ (Ext.drew _) | refine Ext.trans ?_ (by assumption))))).mono ?_; rintro e wb ⟨rfl, hxb⟩; have gb0 := (HX0.out.ext (w' := wb) (by repeat (first | exact Ext.refl _ | assumption | refine Ext.trans ?_ (Ext.drew _) | refine Ext.trans ?_ (by assumption)))).2; have gb1 := (HX1.out.ext (w' := wb) (by repeat (first | exact Ext.refl _ | assumption | refine Ext.trans ?_ (Ext.drew _) | refine Ext.trans ?_ (by assumption)))).2; obtain ⟨kb0, kb1, kb2, kb3, kb4, kb5⟩ := keepB HX0.out HX1.out (w' := wb) (by repeat (first | exact Ext.refl _ | assumption | refine Ext.trans ?_ (Ext.drew _) | refine Ext.trans ?_ (by assumption))))))
    all_goals
      go_wp2_with fail
      go_meet
      exact two_of HX0.out HX1.out HX2.out HXE.out (by repeat (first | exact Ext.refl _ | assumption | refine Ext.trans ?_ (Ext.drew _) | refine Ext.trans ?_ (by assumption)))
  case rest =>
    clear HX0 HX1 HX2 HXE
    have HO := Lib.hid hcut
    clear hcut
    obtain ⟨k0, k1, k2, k3, k4, k5⟩ := keepB HO.out.2.1 HO.out.2.2.1 (Ext.refl _)
    have g2 := HO.out.2.2.2.2
    obtain ⟨r0, r1, r2⟩ := HO.out.2.2.2.1
    have hn2 : ¬ w.heap.size + 1 + 1 = w.heap.size := by omega
    have hn3 : ¬ w.heap.size = w.heap.size + 1 + 1 := by omega
    by_cases hs : a.neg = b.neg
    · have hs' : (a.neg == b.neg) = true := by simpa using hs
      have HSS := Lib.hid (HS1.out hs)
      clear hs
      go_wp2_with (go_at_call 154; refine (HAL.out _ HO.out.1).mono ?_; rintro e w3 ⟨A1, c1, A2, c2, rfl, hon1, hon2, hx⟩; have HO1 := Lib.hid hon1; have HO2 := Lib.hid hon2; clear hon1 hon2 k0 k1 k2 k3 k4 k5 g2 r0 r1 r2; obtain ⟨k0, k1, k2, k3, k4, k5⟩ := keepB HO.out.2.1 HO.out.2.2.1 hx; have HO3 := Lib.hid (keepT HO.out hx); have g2 := HO3.out.2.2.2.2; obtain ⟨r0, r1, r2⟩ := HO3.out.2.2.2.1; clear hx)
      have HOQ := HO3
      go_region_held3 (fun w' => w'.cell? ⟨w.heap.size, 0, none⟩ = some (.bool a.neg) ∧ w'.cell? ⟨w.heap.size, 1, none⟩ = some (.slice A' (len a.m) c') ∧ w'.cell? ⟨w.heap.size, 2, none⟩ = some (I a.den) ∧ w'.cell? ⟨w.heap.size + 1, 0, none⟩ = some (.bool b.neg) ∧ w'.cell? ⟨w.heap.size + 1, 1, none⟩ = some (.slice B' (len b.m) e') ∧ w'.cell? ⟨w.heap.size + 1, 2, none⟩ = some (I b.den)) (go_keep)
        (first
          | (go_at_call 206; refine (sum_any A1 A2 x y c1 c2 _ (HO1.out.rd.ext (Ext.drew _)) (HO2.out.rd.ext (Ext.drew _)) HO1.out.ok HO2.out.ok (by omega) (by omega)).mono ?_; rintro e w5 ⟨A5, c5, rfl, hon5, hx5⟩; have HO5 := Lib.hid hon5; have HT5 := Lib.hid (keepT HOQ.out ((Ext.drew _).trans hx5)); clear hon5; obtain ⟨q0, q1, q2, q3, q4, q5⟩ := keepB HOQ.out.2.1 HOQ.out.2.2.1 (w' := w5) ((Ext.drew _).trans hx5))
          | (go_at_call 187; refine (normal_at _ A5 (x + y) c5 _ _ d' HSS.out (HT.out.ext HT5.out.1) HO5.out.rd HO5.out.ok (by have := len_add x y; omega) (by omega) (by omega)).mono ?_; rintro e w6 ⟨A6, c6, rfl, hon6, hx6⟩; have HO6 := Lib.hid hon6; have HT6 := Lib.hid (keepT HT5.out hx6); clear hon6; obtain ⟨p0, p1, p2, p3, p4, p5⟩ := keepB HT5.out.2.1 HT5.out.2.2.1 (w' := w6) hx6; have gz := HT6.out.2.2.2.2; obtain ⟨z0, z1, z2⟩ := HT6.out.2.2.2.1))
      all_goals
        have hlt := HT5.out.2.2.2.lt
        go_wp2_with fail
        exact bodyPost_ret (v := dv d'.neg A6 (len d'.m) c6 d'.den) (by simp [results, Tryz.results201, go_sem, z0, z1, z2]) rfl (DyRes.end3 rfl HO6.out HT6.out.1 (by omega) (by omega) hlt)
    · have hs' : (a.neg == b.neg) = false := by simpa using hs
      by_cases hxy : x < y
      · have HSS := Lib.hid (HS2.out hs hxy)
        have HCF := Lib.hid (cmp_lt hxy)
        have hle : x ≤ y := by omega
        clear hs
        go_wp2_with (first | (go_at_call 154; refine (HAL.out _ HO.out.1).mono ?_; rintro e w3 ⟨A1, c1, A2, c2, rfl, hon1, hon2, hx⟩; have HO1 := Lib.hid hon1; have HO2 := Lib.hid hon2; clear hon1 hon2 k0 k1 k2 k3 k4 k5 g2 r0 r1 r2; obtain ⟨k0, k1, k2, k3, k4, k5⟩ := keepB HO.out.2.1 HO.out.2.2.1 hx; have HO3 := Lib.hid (keepT HO.out hx); have g2 := HO3.out.2.2.2.2; obtain ⟨r0, r1, r2⟩ := HO3.out.2.2.2.1; clear hx) | (go_at_call 155; refine (compare_any A1 A2 x y c1 c2 _ HO1.out.rd HO2.out.rd (by omega)).mono ?_; rintro e w4 ⟨rfl, hx⟩; rw [HCF.out]; clear k0 k1 k2 k3 k4 k5 g2 r0 r1 r2; obtain ⟨k0, k1, k2, k3, k4, k5⟩ := keepB HO3.out.2.1 HO3.out.2.2.1 hx; have HOQ := Lib.hid (keepT HO3.out hx); have g2 := HOQ.out.2.2.2.2; obtain ⟨r0, r1, r2⟩ := HOQ.out.2.2.2.1; have HX4 := Lib.hid hx; clear hx))
        go_region_held3 (fun w' => w'.cell? ⟨w.heap.size, 0, none⟩ = some (.bool a.neg) ∧ w'.cell? ⟨w.heap.size, 1, none⟩ = some (.slice A' (len a.m) c') ∧ w'.cell? ⟨w.heap.size, 2, none⟩ = some (I a.den) ∧ w'.cell? ⟨w.heap.size + 1, 0, none⟩ = some (.bool b.neg) ∧ w'.cell? ⟨w.heap.size + 1, 1, none⟩ = some (.slice B' (len b.m) e') ∧ w'.cell? ⟨w.heap.size + 1, 2, none⟩ = some (I b.den)) (go_keep)
          (first
            | (go_at_call 214; refine (difference_any A2 A1 y x c2 c1 _ (HO2.out.rd.ext (HX4.out.trans (Ext.drew _))) (HO1.out.rd.ext (HX4.out.trans (Ext.drew _))) HO2.out.ok hle (by omega)).mono ?_; rintro e w5 ⟨A5, c5, rfl, hon5, hx5⟩; have HO5 := Lib.hid hon5; have HT5 := Lib.hid (keepT HOQ.out ((Ext.drew _).trans hx5)); clear hon5; obtain ⟨q0, q1, q2, q3, q4, q5⟩ := keepB HOQ.out.2.1 HOQ.out.2.2.1 (w' := w5) ((Ext.drew _).trans hx5))
            | (go_at_call 187; refine (normal_at _ A5 (y - x) c5 _ _ d' HSS.out (HT.out.ext HT5.out.1) HO5.out.rd HO5.out.ok (by have := len_mono (Nat.sub_le y x); omega) (by omega) (by omega)).mono ?_; rintro e w6 ⟨A6, c6, rfl, hon6, hx6⟩; have HO6 := Lib.hid hon6; have HT6 := Lib.hid (keepT HT5.out hx6); clear hon6; obtain ⟨p0, p1, p2, p3, p4, p5⟩ := keepB HT5.out.2.1 HT5.out.2.2.1 (w' := w6) hx6; have gz := HT6.out.2.2.2.2; obtain ⟨z0, z1, z2⟩ := HT6.out.2.2.2.1))
        all_goals
          have hlt := HT5.out.2.2.2.lt
          go_wp2_with fail
          exact bodyPost_ret (v := dv d'.neg A6 (len d'.m) c6 d'.den) (by simp [results, Tryz.results201, go_sem, z0, z1, z2]) rfl (DyRes.end3 rfl HO6.out HT6.out.1 (by omega) (by omega) hlt)
      · have HSS := Lib.hid (HS3.out hs hxy)
        have hcv : ¬ cmpF x y < 0 := fun h => hxy (cmpF_lt0.1 h)
        obtain ⟨cv, hcv'⟩ : ∃ cv, cmpF x y = cv := ⟨_, rfl⟩
        rw [hcv'] at hcv
        have HCF := Lib.hid hcv'
        have hle : y ≤ x := by omega
        clear hs hcv'
        go_wp2_with (first | (go_at_call 154; refine (HAL.out _ HO.out.1).mono ?_; rintro e w3 ⟨A1, c1, A2, c2, rfl, hon1, hon2, hx⟩; have HO1 := Lib.hid hon1; have HO2 := Lib.hid hon2; clear hon1 hon2 k0 k1 k2 k3 k4 k5 g2 r0 r1 r2; obtain ⟨k0, k1, k2, k3, k4, k5⟩ := keepB HO.out.2.1 HO.out.2.2.1 hx; have HO3 := Lib.hid (keepT HO.out hx); have g2 := HO3.out.2.2.2.2; obtain ⟨r0, r1, r2⟩ := HO3.out.2.2.2.1; clear hx) | (go_at_call 155; refine (compare_any A1 A2 x y c1 c2 _ HO1.out.rd HO2.out.rd (by omega)).mono ?_; rintro e w4 ⟨rfl, hx⟩; rw [HCF.out]; clear k0 k1 k2 k3 k4 k5 g2 r0 r1 r2; obtain ⟨k0, k1, k2, k3, k4, k5⟩ := keepB HO3.out.2.1 HO3.out.2.2.1 hx; have HOQ := Lib.hid (keepT HO3.out hx); have g2 := HOQ.out.2.2.2.2; obtain ⟨r0, r1, r2⟩ := HOQ.out.2.2.2.1; have HX4 := Lib.hid hx; clear hx))
        go_region_held3 (fun w' => w'.cell? ⟨w.heap.size, 0, none⟩ = some (.bool a.neg) ∧ w'.cell? ⟨w.heap.size, 1, none⟩ = some (.slice A' (len a.m) c') ∧ w'.cell? ⟨w.heap.size, 2, none⟩ = some (I a.den) ∧ w'.cell? ⟨w.heap.size + 1, 0, none⟩ = some (.bool b.neg) ∧ w'.cell? ⟨w.heap.size + 1, 1, none⟩ = some (.slice B' (len b.m) e') ∧ w'.cell? ⟨w.heap.size + 1, 2, none⟩ = some (I b.den)) (go_keep)
          (first
            | (go_at_call 214; refine (difference_any A1 A2 x y c1 c2 _ (HO1.out.rd.ext (HX4.out.trans (Ext.drew _))) (HO2.out.rd.ext (HX4.out.trans (Ext.drew _))) HO1.out.ok hle (by omega)).mono ?_; rintro e w5 ⟨A5, c5, rfl, hon5, hx5⟩; have HO5 := Lib.hid hon5; have HT5 := Lib.hid (keepT HOQ.out ((Ext.drew _).trans hx5)); clear hon5; obtain ⟨q0, q1, q2, q3, q4, q5⟩ := keepB HOQ.out.2.1 HOQ.out.2.2.1 (w' := w5) ((Ext.drew _).trans hx5))
            | (go_at_call 187; refine (normal_at _ A5 (x - y) c5 _ _ d' HSS.out (HT.out.ext HT5.out.1) HO5.out.rd HO5.out.ok (by have := len_mono (Nat.sub_le x y); omega) (by omega) (by omega)).mono ?_; rintro e w6 ⟨A6, c6, rfl, hon6, hx6⟩; have HO6 := Lib.hid hon6; have HT6 := Lib.hid (keepT HT5.out hx6); clear hon6; obtain ⟨p0, p1, p2, p3, p4, p5⟩ := keepB HT5.out.2.1 HT5.out.2.2.1 (w' := w6) hx6; have gz := HT6.out.2.2.2.2; obtain ⟨z0, z1, z2⟩ := HT6.out.2.2.2.1))
        all_goals
          have hlt := HT5.out.2.2.2.lt
          go_wp2_with fail
          exact bodyPost_ret (v := dv d'.neg A6 (len d'.m) c6 d'.den) (by simp [results, Tryz.results201, go_sem, z0, z1, z2]) rfl (DyRes.end3 rfl HO6.out HT6.out.1 (by omega) (by omega) hlt)
end

/-! ### Dym -/
section
open Go.RowKit
attribute [local go_sem ↓] Go.wp_at_zero Go.wp_at_succ

theorem nrm_m_le (neg : Bool) (m k : Nat) : (nrm neg m k).m ≤ m := by
  unfold nrm; split
  · exact Nat.zero_le _
  · exact Nat.div_le_self _ _
theorem mkD_m_le (neg : Bool) (m k : Nat) : (mkD neg m k).m ≤ m := by
  unfold mkD; split
  · exact nrm_m_le _ _ _
  · exact Nat.le_trans (nrm_m_le _ _ _) (Nat.div_le_self _ _)
theorem len_negD (d : DV) : len (negD d).m ≤ len d.m := len_mono (mkD_m_le _ _ _)
theorem Dy.of_on {w w0 : World} {d : DV} {A : Option Addr} {c b : Nat} (h : On w b A (len d.m) c (dg d.m)) (wf : d.ok) (hl : len d.m ≤ 16777216) (e : Ext w w0) : Dy w0 d.neg A (len d.m) c d.den d A c := (Dy.valid h.rd h.ok wf hl).ext e

set_option maxRecDepth 100000 in
set_option maxHeartbeats 1000000 in
theorem sub_any {w : World} {na nb : Bool} {A A' B B' : Option Addr} {n c c' k e e' : Nat} {da db : Int} {a b : DV} (ha : Dy w na A n c da a A' c') (hb' : Dy w nb B k e db b B' e') (hT : Tabs w) :
    Calls Tryz.prog 209 #[dv na A n c da, dv nb B k e db] w (DyRes (subD a b) w) := by
  have HA := Lib.hid ha; have HB := Lib.hid hb'; have HT := Lib.hid hT; clear ha hb' hT
  obtain ⟨X0, X1, X2, XE⟩ := three_boxes w (.bool na) (.slice A n c) (I da) (.bool nb) (.slice B k e) (I db) (.bool false) (.slice none 0 0) (I 0) 56 56 56
  have HX0 := Lib.hid X0; have HX1 := Lib.hid X1; have HX2 := Lib.hid X2; have HXE := Lib.hid XE
  clear X0 X1 X2 XE
  obtain ⟨k0, k1, k2, k3, k4, k5⟩ := keepB HX0.out HX1.out (Ext.refl _)
  obtain ⟨d', hd'⟩ : ∃ d', subD a b = d' := ⟨_, rfl⟩
  rw [hd']
  have HD' := Lib.hid hd'
  clear hd'
  have hln := len_negD b
  have hlb := HB.out.lim
  have hwn := Lib.hid (negD_ok b)
  have hn2 : ¬ w.heap.size + 1 + 1 = w.heap.size := by omega
  have hn3 : ¬ w.heap.size = w.heap.size + 1 + 1 := by omega
  go_enter Tryz.func209, Tryz.ntmps209
  go_upto_region 1 with fail
  go_region_held3 (fun w' => w'.cell? ⟨w.heap.size, 0, none⟩ = some (.bool na) ∧ w'.cell? ⟨w.heap.size, 1, none⟩ = some (.slice A n c) ∧ w'.cell? ⟨w.heap.size, 2, none⟩ = some (I da) ∧ w'.cell? ⟨w.heap.size + 1, 0, none⟩ = some (.bool nb) ∧ w'.cell? ⟨w.heap.size + 1, 1, none⟩ = some (.slice B k e) ∧ w'.cell? ⟨w.heap.size + 1, 2, none⟩ = some (I db)) (go_keep)
    (first
      | (go_at_call 142; refine (neg_any (HB.out.ext (HXE.out.trans (Ext.drew _))) (HT.out.ext (HXE.out.trans (Ext.drew _)))).mono ?_; rintro e w5 ⟨A5, c5, rfl, hon5, hx5⟩; obtain ⟨q0, q1, q2, q3, q4, q5⟩ := keepB HX0.out HX1.out (w' := w5) ((Ext.drew _).trans hx5); have HDN := Lib.hid (Dy.of_on hon5 hwn.out (by omega) (Ext.refl _)); clear hon5)
      | (go_at_call 201; refine (add_any (HA.out.ext ((HXE.out.trans (Ext.drew _)).trans hx5)) HDN.out (HT.out.ext ((HXE.out.trans (Ext.drew _)).trans hx5))).mono ?_; rw [show addD a (negD b) = d' from HD'.out]; rintro e w6 ⟨A6, c6, rfl, hon6, hx6⟩; obtain ⟨p0, p1, p2, p3, p4, p5⟩ := keepB HX0.out HX1.out (w' := w6) (((Ext.drew _).trans hx5).trans hx6); have gz := (HX2.out.ext (w' := w6) (((Ext.drew _).trans hx5).trans hx6)).2; obtain ⟨z0, z1, z2⟩ := (HX2.out.ext (w' := w6) (((Ext.drew _).trans hx5).trans hx6)).1; have HO6 := Lib.hid hon6; clear hon6))
  all_goals
    have HXF := Lib.hid (((HXE.out.trans (Ext.drew _)).trans hx5).trans hx6)
    have hlt := (HX2.out.ext (w' := w5) ((Ext.drew _).trans hx5)).lt
    go_wp2_with fail
    exact bodyPost_ret (v := dv d'.neg A6 (len d'.m) c6 d'.den) (by simp [results, Tryz.results209, go_sem, z0, z1, z2]) rfl (DyRes.end3 rfl HO6.out HXF.out (by omega) (by omega) hlt)

theorem min_r {a b : DV} (h : 0 < cmpD a b) : minD a b = b := by unfold minD; rw [if_pos h]
theorem min_l {a b : DV} (h : ¬ 0 < cmpD a b) : minD a b = a := by unfold minD; rw [if_neg h]
theorem max_r {a b : DV} (h : cmpD a b < 0) : maxD a b = b := by unfold maxD; rw [if_pos h]
theorem max_l {a b : DV} (h : ¬ cmpD a b < 0) : maxD a b = a := by unfold maxD; rw [if_neg h]

set_option maxRecDepth 100000 in
set_option maxHeartbeats 1000000 in
theorem min_any {w : World} {na nb : Bool} {A A' B B' : Option Addr} {n c c' k e e' : Nat} {da db : Int} {a b : DV} (ha : Dy w na A n c da a A' c') (hb' : Dy w nb B k e db b B' e') (hT : Tabs w) :
    Calls Tryz.prog 202 #[dv na A n c da, dv nb B k e db] w (DyRes (minD a b) w) := by
  have HA := Lib.hid ha; have HB := Lib.hid hb'; have HT := Lib.hid hT; clear ha hb' hT
  obtain ⟨X0, X1, X2, XE⟩ := three_boxes w (.bool na) (.slice A n c) (I da) (.bool nb) (.slice B k e) (I db) (.bool false) (.slice none 0 0) (I 0) 56 56 56
  have HX0 := Lib.hid X0; have HX1 := Lib.hid X1; have HX2 := Lib.hid X2; have HXE := Lib.hid XE
  clear X0 X1 X2 XE
  by_cases hc : 0 < cmpD a b
  · have HR := Lib.hid (min_r hc)
    rw [HR.out]
    obtain ⟨v, hv⟩ : ∃ v, cmpD a b = v := ⟨_, rfl⟩
    rw [hv] at hc
    have HV := Lib.hid hv
    clear hv
    go_enter Tryz.func202, Tryz.ntmps202
    go_wp2_with (go_at_call 88; refine (cmp_any (HA.out.ext HXE.out) (HB.out.ext HXE.out)).mono ?_; rintro e w5 ⟨rfl, hx5⟩; rw [HV.out]; obtain ⟨k0, k1, k2, k3, k4, k5⟩ := keepB HX0.out HX1.out (w' := w5) hx5; have gz := (HX2.out.ext hx5).2; obtain ⟨z0, z1, z2⟩ := (HX2.out.ext hx5).1; have HX5 := Lib.hid hx5; clear hx5)
    refine (fresh_any (HB.out.ext (HXE.out.trans HX5.out)) (HT.out.ext (HXE.out.trans HX5.out))).mono ?_
    rintro e w6 ⟨A6, c6, rfl, hon6, hx6⟩
    have gz6 := (HX2.out.ext (HX5.out.trans hx6)).2
    obtain ⟨y0, y1, y2⟩ := (HX2.out.ext (HX5.out.trans hx6)).1
    have HO6 := Lib.hid hon6
    have HXF := Lib.hid ((HXE.out.trans HX5.out).trans hx6)
    have hlt := (HX2.out.ext HX5.out).lt
    clear hon6 hx6
    go_wp2_with fail
    exact bodyPost_ret (v := dv b.neg A6 (len b.m) c6 b.den) (by simp [results, Tryz.results202, go_sem, y0, y1, y2]) rfl (DyRes.end3 rfl HO6.out HXF.out (by omega) (by omega) hlt)
  · have HR := Lib.hid (min_l hc)
    rw [HR.out]
    obtain ⟨v, hv⟩ : ∃ v, cmpD a b = v := ⟨_, rfl⟩
    rw [hv] at hc
    have HV := Lib.hid hv
    clear hv
    go_enter Tryz.func202, Tryz.ntmps202
    go_wp2_with (go_at_call 88; refine (cmp_any (HA.out.ext HXE.out) (HB.out.ext HXE.out)).mono ?_; rintro e w5 ⟨rfl, hx5⟩; rw [HV.out]; obtain ⟨k0, k1, k2, k3, k4, k5⟩ := keepB HX0.out HX1.out (w' := w5) hx5; have gz := (HX2.out.ext hx5).2; obtain ⟨z0, z1, z2⟩ := (HX2.out.ext hx5).1; have HX5 := Lib.hid hx5; clear hx5)
    refine (fresh_any (HA.out.ext (HXE.out.trans HX5.out)) (HT.out.ext (HXE.out.trans HX5.out))).mono ?_
    rintro e w6 ⟨A6, c6, rfl, hon6, hx6⟩
    have gz6 := (HX2.out.ext (HX5.out.trans hx6)).2
    obtain ⟨y0, y1, y2⟩ := (HX2.out.ext (HX5.out.trans hx6)).1
    have HO6 := Lib.hid hon6
    have HXF := Lib.hid ((HXE.out.trans HX5.out).trans hx6)
    have hlt := (HX2.out.ext HX5.out).lt
    clear hon6 hx6
    go_wp2_with fail
    exact bodyPost_ret (v := dv a.neg A6 (len a.m) c6 a.den) (by simp [results, Tryz.results202, go_sem, y0, y1, y2]) rfl (DyRes.end3 rfl HO6.out HXF.out (by omega) (by omega) hlt)

set_option maxRecDepth 100000 in
set_option maxHeartbeats 1000000 in
theorem max_any {w : World} {na nb : Bool} {A A' B B' : Option Addr} {n c c' k e e' : Nat} {da db : Int} {a b : DV} (ha : Dy w na A n c da a A' c') (hb' : Dy w nb B k e db b B' e') (hT : Tabs w) :
    Calls Tryz.prog 183 #[dv na A n c da, dv nb B k e db] w (DyRes (maxD a b) w) := by
  have HA := Lib.hid ha; have HB := Lib.hid hb'; have HT := Lib.hid hT; clear ha hb' hT
  obtain ⟨X0, X1, X2, XE⟩ := three_boxes w (.bool na) (.slice A n c) (I da) (.bool nb) (.slice B k e) (I db) (.bool false) (.slice none 0 0) (I 0) 56 56 56
  have HX0 := Lib.hid X0; have HX1 := Lib.hid X1; have HX2 := Lib.hid X2; have HXE := Lib.hid XE
  clear X0 X1 X2 XE
  by_cases hc : cmpD a b < 0
  · have HR := Lib.hid (max_r hc)
    rw [HR.out]
    obtain ⟨v, hv⟩ : ∃ v, cmpD a b = v := ⟨_, rfl⟩
    rw [hv] at hc
    have HV := Lib.hid hv
    clear hv
    go_enter Tryz.func183, Tryz.ntmps183
    go_wp2_with (go_at_call 88; refine (cmp_any (HA.out.ext HXE.out) (HB.out.ext HXE.out)).mono ?_; rintro e w5 ⟨rfl, hx5⟩; rw [HV.out]; obtain ⟨k0, k1, k2, k3, k4, k5⟩ := keepB HX0.out HX1.out (w' := w5) hx5; have gz := (HX2.out.ext hx5).2; obtain ⟨z0, z1, z2⟩ := (HX2.out.ext hx5).1; have HX5 := Lib.hid hx5; clear hx5)
    refine (fresh_any (HB.out.ext (HXE.out.trans HX5.out)) (HT.out.ext (HXE.out.trans HX5.out))).mono ?_
    rintro e w6 ⟨A6, c6, rfl, hon6, hx6⟩
    have gz6 := (HX2.out.ext (HX5.out.trans hx6)).2
    obtain ⟨y0, y1, y2⟩ := (HX2.out.ext (HX5.out.trans hx6)).1
    have HO6 := Lib.hid hon6
    have HXF := Lib.hid ((HXE.out.trans HX5.out).trans hx6)
    have hlt := (HX2.out.ext HX5.out).lt
    clear hon6 hx6
    go_wp2_with fail
    exact bodyPost_ret (v := dv b.neg A6 (len b.m) c6 b.den) (by simp [results, Tryz.results183, go_sem, y0, y1, y2]) rfl (DyRes.end3 rfl HO6.out HXF.out (by omega) (by omega) hlt)
  · have HR := Lib.hid (max_l hc)
    rw [HR.out]
    obtain ⟨v, hv⟩ : ∃ v, cmpD a b = v := ⟨_, rfl⟩
    rw [hv] at hc
    have HV := Lib.hid hv
    clear hv
    go_enter Tryz.func183, Tryz.ntmps183
    go_wp2_with (go_at_call 88; refine (cmp_any (HA.out.ext HXE.out) (HB.out.ext HXE.out)).mono ?_; rintro e w5 ⟨rfl, hx5⟩; rw [HV.out]; obtain ⟨k0, k1, k2, k3, k4, k5⟩ := keepB HX0.out HX1.out (w' := w5) hx5; have gz := (HX2.out.ext hx5).2; obtain ⟨z0, z1, z2⟩ := (HX2.out.ext hx5).1; have HX5 := Lib.hid hx5; clear hx5)
    refine (fresh_any (HA.out.ext (HXE.out.trans HX5.out)) (HT.out.ext (HXE.out.trans HX5.out))).mono ?_
    rintro e w6 ⟨A6, c6, rfl, hon6, hx6⟩
    have gz6 := (HX2.out.ext (HX5.out.trans hx6)).2
    obtain ⟨y0, y1, y2⟩ := (HX2.out.ext (HX5.out.trans hx6)).1
    have HO6 := Lib.hid hon6
    have HXF := Lib.hid ((HXE.out.trans HX5.out).trans hx6)
    have hlt := (HX2.out.ext HX5.out).lt
    clear hon6 hx6
    go_wp2_with fail
    exact bodyPost_ret (v := dv a.neg A6 (len a.m) c6 a.den) (by simp [results, Tryz.results183, go_sem, y0, y1, y2]) rfl (DyRes.end3 rfl HO6.out HXF.out (by omega) (by omega) hlt)
end

/-! ### Dyat -/
section
open Go Go.RowKit

theorem Dy.at_ {w : World} {d : DV} {A : Option Addr} {c b : Nat} (h : On w b A (len d.m) c (dg d.m)) (wf : d.ok) (hl : len d.m ≤ 16777216) : ∀ w', Ext w w' → Dy w' d.neg A (len d.m) c d.den d A c := fun _ e => Dy.of_on h wf hl e
end

/-! ### Lawo -/
section
/-! ### Lawa -/
section
open Go.RowKit

set_option maxRecDepth 100000 in
set_option maxHeartbeats 1000000 in
theorem nsame_true {w : World} {d : DV} {A B : Option Addr} {ca cb : Nat} (ha : Rd w A (len d.m) (dg d.m)) (hb' : Rd w B (len d.m) (dg d.m)) (hl : len d.m ≤ 1073741824) :
    Calls Tryz.prog 105 #[dv d.neg A (len d.m) ca d.den, dv d.neg B (len d.m) cb d.den] w fun e w' => e = .returned (.bool true) ∧ Ext w w' := by
  obtain ⟨X0, X1, XE⟩ : Bx ((w.alloc (.cells #[.bool d.neg, .slice A (len d.m) ca, I d.den] 56)).alloc (.cells #[.bool d.neg, .slice B (len d.m) cb, I d.den] 56)) w.heap.size (.bool d.neg) (.slice A (len d.m) ca) (I d.den) ∧
      Bx ((w.alloc (.cells #[.bool d.neg, .slice A (len d.m) ca, I d.den] 56)).alloc (.cells #[.bool d.neg, .slice B (len d.m) cb, I d.den] 56)) (w.heap.size + 1) (.bool d.neg) (.slice B (len d.m) cb) (I d.den) ∧
      Ext w ((w.alloc (.cells #[.bool d.neg, .slice A (len d.m) ca, I d.den] 56)).alloc (.cells #[.bool d.neg, .slice B (len d.m) cb, I d.den] 56)) := two_bx (Ext.refl _)
  have HX0 := Lib.hid X0; have HX1 := Lib.hid X1; have HXE := Lib.hid XE
  clear X0 X1 XE
  have HA := Lib.hid ha; have HB := Lib.hid hb'; clear ha hb'
  generalize d.neg = neg at *
  generalize (d.den : Int) = den at *
  generalize len d.m = L at *
  go_enter Tryz.func105, Tryz.ntmps105
  go_wp2
  go_loopw [30] (fun s wr => Hid (Ext ((w.alloc (.cells #[.bool neg, .slice A L ca, I den] 56)).alloc (.cells #[.bool neg, .slice B L cb, I den] 56)) wr) ∧ ∃ k : Nat, k ≤ L ∧ s = I k) (fun s _ => L - (intOf s).toNat)
  case atStart => exact ⟨Ext.refl _, 0, Nat.zero_le _, rfl⟩
  case round =>
    obtain ⟨hX, k, hk, rfl⟩ := hrel
    obtain ⟨k0, k1, k2, k3, k4, k5⟩ := keepB HX0.out HX1.out hX.out
    by_cases hlt : k < L
    · obtain ⟨b1, o1, e1, hb1, c1⟩ := (HA.out.ext (HXE.out.trans hX.out)).at_ hlt
      obtain ⟨b2, o2, e2, hb2, c2⟩ := (HB.out.ext (HXE.out.trans hX.out)).at_ hlt
      rw [e1] at k1
      rw [e2] at k4
      have i1 : (0 : Int) ≤ (k : Int) := by omega
      have i2 : (k : Int) < (L : Int) := by omega
      clear e1 e2
      go_wp2
      go_quiet (fail)
      go_wp2
      go_roundw
      case rel => exact ⟨hX.out.trans (Ext.drewN _ _), k + 1, by omega, by go_num⟩
      case measure => simp [intOf]; omega
    · obtain rfl : k = L := by omega
      go_wp2
      go_ret
      exact ⟨rfl, HXE.out.trans hX.out⟩

def fewOk (n : Nat) (den : Int) : Prop := ¬ (16 < n) ∧ ¬ (300 < den ∧ den ≤ 65536)
instance (n : Nat) (den : Int) : Decidable (fewOk n den) := inferInstanceAs (Decidable (_ ∧ _))
/-- The block g holds N numbers, one behind the other. -/
def Nums (w : World) (g N : Nat) (ng : Nat → Bool) (A : Nat → Option Addr) (n c : Nat → Nat) (den : Nat → Int) : Prop :=
  ∀ i, i < N → w.cell? ⟨g, i * 3, none⟩ = some (.bool (ng i)) ∧ w.cell? ⟨g, i * 3 + 1, none⟩ = some (.slice (A i) (n i) (c i)) ∧ w.cell? ⟨g, i * 3 + 2, none⟩ = some (I (den i))

end

/-! ### Lawm -/
section
theorem den_le (neg : Bool) (m k : Nat) (h : k ≤ 65536) : (mkD neg m k).den ≤ k := by
  rw [mkD_small h]; unfold nrm; split
  · exact Nat.zero_le _
  · exact Nat.sub_le _ _
theorem den_add {a b : DV} (ha : a.den ≤ 65536) (hb : b.den ≤ 65536) : (addD a b).den ≤ max a.den b.den := by
  unfold addD; split
  · exact den_le _ _ _ (by omega)
  · split
    · exact den_le _ _ _ (by omega)
    · exact den_le _ _ _ (by omega)
theorem den_mul {a b : DV} (h : a.den + b.den ≤ 65536) : (mulD a b).den ≤ a.den + b.den := den_le _ _ _ h
theorem lim_al (a : DV) (D : Nat) (h : D ≤ 65536) : len (al a D) ≤ len a.m + 2049 := by
  have := len_shl a.m (D - a.den); unfold al; omega
theorem lim_add {a b : DV} (ha : a.den ≤ 65536) (hb : b.den ≤ 65536) : len (addD a b).m ≤ max (len a.m) (len b.m) + 2050 := by
  have h1 := lim_al a (max a.den b.den) (by omega)
  have h2 := lim_al b (max a.den b.den) (by omega)
  have h3 := len_add (al a (max a.den b.den)) (al b (max a.den b.den))
  unfold addD; split
  · have := len_mono (mkD_m_le a.neg (al a (max a.den b.den) + al b (max a.den b.den)) (max a.den b.den)); omega
  · split
    · have := len_mono (Nat.le_trans (mkD_m_le b.neg (al b (max a.den b.den) - al a (max a.den b.den)) (max a.den b.den)) (Nat.sub_le _ _)); omega
    · have := len_mono (Nat.le_trans (mkD_m_le a.neg (al a (max a.den b.den) - al b (max a.den b.den)) (max a.den b.den)) (Nat.sub_le _ _)); omega
theorem lim_mul (a b : DV) : len (mulD a b).m ≤ len a.m + len b.m := Nat.le_trans (len_mono (mkD_m_le _ _ _)) (len_mul _ _)
theorem lim_neg (a : DV) : len (negD a).m ≤ len a.m := len_negD a
theorem den_neg {a : DV} (h : a.den ≤ 65536) : (negD a).den ≤ a.den := den_le _ _ _ h
theorem lim_sub {a b : DV} (ha : a.den ≤ 65536) (hb : b.den ≤ 65536) : len (subD a b).m ≤ max (len a.m) (len b.m) + 2050 := by
  have h1 := lim_add (a := a) (b := negD b) ha (Nat.le_trans (den_neg hb) hb)
  have h2 := lim_neg b
  unfold subD; omega
theorem lim_shift (a : DV) (n : Int) : len (shiftD a n).m ≤ len a.m + 2049 := by
  unfold shiftD
  split
  · exact Nat.le_trans (len_mono (mkD_m_le _ _ _)) (Nat.le_add_right _ _)
  · have h1 := len_shl a.m (clampN n).toNat
    have h2 := len_mono (mkD_m_le a.neg (a.m * 2 ^ (clampN n).toNat) a.den)
    have h3 : (clampN n).toNat ≤ 65536 := by unfold clampN; omega
    omega

theorem add_comm_D {a b : DV} (ha : a.ok) (hb : b.ok) : addD b a = addD a b := DV.uniq (addD_ok _ _) (addD_ok _ _) (by rw [q_addD hb ha, q_addD ha hb]; grind)
theorem mul_comm_D {a b : DV} (h : a.den + b.den ≤ 65536) : mulD b a = mulD a b := DV.uniq (mulD_ok _ _) (mulD_ok _ _) (by rw [q_mulD (by omega), q_mulD h]; grind)
theorem add_assoc_D {a b c : DV} (ha : a.ok) (hb : b.ok) (hc : c.ok) : addD a (addD b c) = addD (addD a b) c :=
  DV.uniq (addD_ok _ _) (addD_ok _ _) (by rw [q_addD ha (addD_ok _ _), q_addD hb hc, q_addD (addD_ok _ _) hc, q_addD ha hb]; grind)
theorem mul_assoc_D {a b c : DV} (h : a.den + b.den + c.den ≤ 65536) : mulD a (mulD b c) = mulD (mulD a b) c := by
  have h1 := den_mul (a := a) (b := b) (by omega)
  have h2 := den_mul (a := b) (b := c) (by omega)
  exact DV.uniq (mulD_ok _ _) (mulD_ok _ _) (by rw [q_mulD (by omega), q_mulD (by omega), q_mulD (by omega), q_mulD (by omega)]; grind)
theorem mul_add_D {a b c : DV} (hb : b.ok) (hc : c.ok) (h : a.den + max b.den c.den ≤ 65536) (h2 : a.den + b.den ≤ 65536) (h3 : a.den + c.den ≤ 65536) : addD (mulD a b) (mulD a c) = mulD a (addD b c) := by
  have h1 := den_add hb.2.1 hc.2.1
  exact DV.uniq (addD_ok _ _) (mulD_ok _ _) (by rw [q_addD (mulD_ok _ _) (mulD_ok _ _), q_mulD h2, q_mulD h3, q_mulD (by omega), q_addD hb hc]; grind)
theorem sgn_zero : sgn 0 = 0 := by unfold sgn; simp
theorem add_sub_D {a b : DV} (ha : a.ok) (hb : b.ok) : cmpD (subD (addD a b) b) a = 0 := by
  rw [cmpD_sgn (subD_ok _ _) ha, q_subD (addD_ok _ _) hb, q_addD ha hb]
  have : a.q + b.q - b.q - a.q = 0 := by grind
  rw [this, sgn_zero]
theorem qOf_128 (neg : Bool) (m k : Nat) : qOf neg (m * 2 ^ 7) k = qOf neg m k * 128 := by
  have e : ((m * 2 ^ 7 : Nat) : Rat) = (m : Rat) * 128 := by
    have : ((m * 2 ^ 7 : Nat) : Rat) = (m : Rat) * ((2 ^ 7 : Nat) : Rat) := by exact_mod_cast rfl
    rw [this]; rfl
  have := qp_ne k
  unfold qOf; rw [e]; cases neg <;> simp <;> grind
theorem q_down {a : DV} (h : a.den ≤ 65529) : (shiftD a (-7)).q * 128 = a.q := by
  have e : shiftD a (-7) = mkD a.neg a.m (a.den + 7) := by
    unfold shiftD
    rw [show clampN (-7) = -7 by decide, if_pos (by decide), show (- -7 : Int).toNat = 7 by decide]
  rw [e, q_mkD _ _ (by omega), ← qOf_128, qOf_shift]; rfl
theorem q_up {a : DV} (h : a.den ≤ 65536) : (shiftD a 7).q = a.q * 128 := by
  have e : shiftD a 7 = mkD a.neg (a.m * 2 ^ 7) a.den := by
    unfold shiftD
    rw [show clampN 7 = 7 by decide, if_neg (by decide), show (7 : Int).toNat = 7 by decide]
  rw [e, q_mkD _ _ h, qOf_128]; rfl
theorem shift_shift_D {a : DV} (ha : a.ok) (h : a.den ≤ 65529) : cmpD (shiftD (shiftD a (-7)) 7) a = 0 := by
  rw [cmpD_sgn (shiftD_ok _ _) ha, q_up (shiftD_ok _ _).2.1, q_down h]
  have : a.q - a.q = 0 := by grind
  rw [this, sgn_zero]
end

/-! ### Lawo -/
section
open Go.RowKit

/-- Small numbers. -/
def Sm (d : DV) : Prop := d.ok ∧ len d.m ≤ 16 ∧ d.den ≤ 300
theorem sm_of {neg : Bool} {n : Nat} {den : Int} {f : Nat → Nat} (hd : (nrA neg n f den).ok) (hb : ∀ i, i < n → f i < 4294967296) (h : fewOk n den) : Sm (nrA neg n f den) := by
  obtain ⟨h1, h2⟩ := h
  refine ⟨hd, ?_⟩
  unfold nrA
  by_cases hv : vld neg n f den = true
  · rw [if_pos hv]
    refine ⟨Nat.le_trans (len_le (valN_lt hb)) (by omega), ?_⟩
    show den.toNat ≤ 300
    cases n with
    | zero => rw [vld_zero] at hv; simp at hv; omega
    | succ k => rw [vld_succ] at hv; simp at hv; omega
  · rw [if_neg hv]
    exact ⟨by rw [zero_len]; omega, by decide⟩

theorem nums3 (w : World) (g : Nat) (hg : w.heap.size = g) (n0 n1 n2 : Bool) (A0 A1 A2 : Option Addr) (k0 k1 k2 c0 c1 c2 : Nat) (d0 d1 d2 : Int) (t : TypeId) :
    Nums (w.alloc (.cells #[.bool n0, .slice A0 k0 c0, I d0, .bool n1, .slice A1 k1 c1, I d1, .bool n2, .slice A2 k2 c2, I d2] t)) g 3 (fun i => if i = 0 then n0 else if i = 1 then n1 else n2) (fun i => if i = 0 then A0 else if i = 1 then A1 else A2)
      (fun i => if i = 0 then k0 else if i = 1 then k1 else k2) (fun i => if i = 0 then c0 else if i = 1 then c1 else c2) (fun i => if i = 0 then d0 else if i = 1 then d1 else d2) := by
  subst hg
  intro i hi
  have : i = 0 ∨ i = 1 ∨ i = 2 := by omega
  rcases this with rfl | rfl | rfl
  · exact ⟨by go_simp, by go_simp, by go_simp⟩
  · exact ⟨by go_simp, by go_simp, by go_simp⟩
  · exact ⟨by go_simp, by go_simp, by go_simp⟩
theorem few3 {k0 k1 k2 : Nat} {d0 d1 d2 : Int} (h0 : fewOk k0 d0) (h1 : fewOk k1 d1) (h2 : fewOk k2 d2) : ∀ i, i < 3 → fewOk (if i = 0 then k0 else if i = 1 then k1 else k2) (if i = 0 then d0 else if i = 1 then d1 else d2) := by
  intro i hi
  have : i = 0 ∨ i = 1 ∨ i = 2 := by omega
  rcases this with rfl | rfl | rfl
  · exact h0
  · exact h1
  · exact h2
theorem few3_not {k0 k1 k2 : Nat} {d0 d1 d2 : Int} (h : ¬ (fewOk k0 d0 ∧ fewOk k1 d1 ∧ fewOk k2 d2)) : ¬ ∀ i, i < 3 → fewOk (if i = 0 then k0 else if i = 1 then k1 else k2) (if i = 0 then d0 else if i = 1 then d1 else d2) := fun hh =>
  h ⟨hh 0 (by omega), hh 1 (by omega), hh 2 (by omega)⟩
end

/-! ### Few -/
section
open Go.RowKit

theorem nums2 (w : World) (g : Nat) (hg : w.heap.size = g) (n0 n1 : Bool) (A0 A1 : Option Addr) (k0 k1 c0 c1 : Nat) (d0 d1 : Int) (t : TypeId) :
    Nums (w.alloc (.cells #[.bool n0, .slice A0 k0 c0, I d0, .bool n1, .slice A1 k1 c1, I d1] t)) g 2 (fun i => if i = 0 then n0 else n1) (fun i => if i = 0 then A0 else A1)
      (fun i => if i = 0 then k0 else k1) (fun i => if i = 0 then c0 else c1) (fun i => if i = 0 then d0 else d1) := by
  subst hg
  intro i hi
  have : i = 0 ∨ i = 1 := by omega
  rcases this with rfl | rfl
  · exact ⟨by go_simp, by go_simp, by go_simp⟩
  · exact ⟨by go_simp, by go_simp, by go_simp⟩
theorem few2 {k0 k1 : Nat} {d0 d1 : Int} (h0 : fewOk k0 d0) (h1 : fewOk k1 d1) : ∀ i, i < 2 → fewOk (if i = 0 then k0 else k1) (if i = 0 then d0 else d1) := by
  intro i hi
  have : i = 0 ∨ i = 1 := by omega
  rcases this with rfl | rfl
  · exact h0
  · exact h1
theorem few2_not {k0 k1 : Nat} {d0 d1 : Int} (h : ¬ (fewOk k0 d0 ∧ fewOk k1 d1)) : ¬ ∀ i, i < 2 → fewOk (if i = 0 then k0 else k1) (if i = 0 then d0 else d1) := fun hh =>
  h ⟨hh 0 (by omega), hh 1 (by omega)⟩

theorem nums1 (w : World) (g : Nat) (hg : w.heap.size = g) (n0 : Bool) (A0 : Option Addr) (k0 c0 : Nat) (d0 : Int) (t : TypeId) :
    Nums (w.alloc (.cells #[.bool n0, .slice A0 k0 c0, I d0] t)) g 1 (fun _ => n0) (fun _ => A0)
      (fun _ => k0) (fun _ => c0) (fun _ => d0) := by
  subst hg
  intro i hi
  have : i = 0 := by omega
  rcases this with rfl
  · exact ⟨by go_simp, by go_simp, by go_simp⟩
theorem few1 {k0 : Nat} {d0 : Int} (h0 : fewOk k0 d0) : ∀ i, i < 1 → fewOk (k0) (d0) := by
  intro i hi
  have : i = 0 := by omega
  rcases this with rfl
  · exact h0
theorem few1_not {k0 : Nat} {d0 : Int} (h : ¬ (fewOk k0 d0)) : ¬ ∀ i, i < 1 → fewOk (k0) (d0) := fun hh =>
  h (hh 0 (by omega))
end
end

end Go.Proofs.YtgnngldlgcdnfaaGreatDoor
