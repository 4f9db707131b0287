/- Numbers as structs: sums. -/
import Derived.Test.YtcdkkohklhmpgaaGreatDoorMdyf
namespace Go.Proofs.YtcdkkohklhmpgaaGreatDoor
open Go.RowKit
attribute [local go_sem ↓] Go.wp_at_zero Go.wp_at_succ

theorem add_same {a b : DV} (h : a.neg = b.neg) : addD a b = mkD a.neg (al a (max a.den b.den) + al b (max a.den b.den)) (max a.den b.den) := by unfold addD; rw [if_pos h]
theorem add_lt {a b : DV} (h : a.neg ≠ b.neg) (h2 : al a (max a.den b.den) < al b (max a.den b.den)) : addD a b = mkD b.neg (al b (max a.den b.den) - al a (max a.den b.den)) (max a.den b.den) := by unfold addD; rw [if_neg h, if_pos h2]
theorem add_ge {a b : DV} (h : a.neg ≠ b.neg) (h2 : ¬ al a (max a.den b.den) < al b (max a.den b.den)) : addD a b = mkD a.neg (al a (max a.den b.den) - al b (max a.den b.den)) (max a.den b.den) := by unfold addD; rw [if_neg h, if_neg h2]
theorem cmpF_lt0 {x y : Nat} : cmpF x y < 0 ↔ x < y := by
  unfold cmpF
  by_cases h : x < y
  · simp [h]
  · by_cases h2 : y < x <;> simp [h, h2]
theorem keepT {w w0 w' : World} {a b : DV} {A B : Option Addr} {ca cb : Nat} (h : Two w a b A B ca cb w0) (e : Ext w0 w') : Two w a b A B ca cb w' := ⟨h.1.trans e, h.2.1.ext e, h.2.2.1.ext e, h.2.2.2.ext e⟩
theorem len_add (x y : Nat) : len (x + y) ≤ max (len x) (len y) + 1 := by
  refine len_le ?_
  have h1 := lt_pB (m := x) (n := max (len x) (len y)) (by omega)
  have h2 := lt_pB (m := y) (n := max (len x) (len y)) (by omega)
  rw [pB_succ]; omega

set_option maxRecDepth 100000 in
set_option maxHeartbeats 1000000 in
theorem add_any {w : World} {na nb : Bool} {A A' B B' : Option Addr} {n c c' k e e' : Nat} {da db : Int} {a b : DV} (ha : Dy w na A n c da a A' c') (hb' : Dy w nb B k e db b B' e') (hT : Tabs w) :
    Calls Tryz.prog 72 #[dv na A n c da, dv nb B k e db] w (DyRes (addD a b) w) := by
  have HA := Lib.hid ha; have HB := Lib.hid hb'; have HT := Lib.hid hT; clear ha hb' hT
  obtain ⟨X0, X1, X2, XE⟩ := three_boxes w (.bool na) (.slice A n c) (I da) (.bool nb) (.slice B k e) (I db) (.bool false) (.slice none 0 0) (I 0) 24 24 24
  have HX0 := Lib.hid X0; have HX1 := Lib.hid X1; have HX2 := Lib.hid X2; have HXE := Lib.hid XE
  clear X0 X1 X2 XE
  have HAL : Hid (∀ w', Ext w w' → Calls Tryz.prog 108 #[dv a.neg A' (len a.m) c' a.den, dv b.neg B' (len b.m) e' b.den] w' (AlRes (al a (max a.den b.den)) (al b (max a.den b.den)) (max a.den b.den) w')) := fun w' e => aligned_any (HA.out.rd.ext e) (HB.out.rd.ext e) HA.out.wf.2.1 HB.out.wf.2.1 HA.out.lim HB.out.lim
  have hD3 : max a.den b.den ≤ 65536 := by have h3 := HA.out.wf.2.1; have h4 := HB.out.wf.2.1; omega
  have hlx : len (al a (max a.den b.den)) ≤ 16779300 := by
    have h1 := len_shl a.m (max a.den b.den - a.den)
    have h2 := HA.out.lim
    unfold al; omega
  have hly : len (al b (max a.den b.den)) ≤ 16779300 := by
    have h1 := len_shl b.m (max a.den b.den - b.den)
    have h2 := HB.out.lim
    unfold al; omega
  have HS1 : Hid (a.neg = b.neg → nrmI a.neg (al a (max a.den b.den) + al b (max a.den b.den)) (max a.den b.den : Nat) = addD a b) := fun h => by rw [nrmI_nat, add_same h]
  have HS2 : Hid (a.neg ≠ b.neg → al a (max a.den b.den) < al b (max a.den b.den) → nrmI b.neg (al b (max a.den b.den) - al a (max a.den b.den)) (max a.den b.den : Nat) = addD a b) := fun h h2 => by rw [nrmI_nat, add_lt h h2]
  have HS3 : Hid (a.neg ≠ b.neg → ¬ al a (max a.den b.den) < al b (max a.den b.den) → nrmI a.neg (al a (max a.den b.den) - al b (max a.den b.den)) (max a.den b.den : Nat) = addD a b) := fun h h2 => by rw [nrmI_nat, add_ge h h2]
  generalize al a (max a.den b.den) = x at *
  generalize al b (max a.den b.den) = y at *
  generalize max a.den b.den = D at *
  generalize addD a b = d' at *
  go_enter Tryz.func72, Tryz.ntmps72
  go_upto_region 1 with fail
  go_cut [] (fun wx => Two w a b A' B' c' e' wx)
  case first =>
    go_region_with ((first | (go_at_call 106; refine (HA.out.num _ (HXE.out.trans (by repeat (first | exact Ext.refl _ | assumption | refine Ext.trans ?_ (Ext.drew _) | refine Ext.trans ?_ (by assumption))))).mono ?_; rintro e wa ⟨rfl, hxa⟩; have ga0 := (HX0.out.ext (w' := wa) (by repeat (first | exact Ext.refl _ | assumption | refine Ext.trans ?_ (Ext.drew _) | refine Ext.trans ?_ (by assumption)))).2; have ga1 := (HX1.out.ext (w' := wa) (by repeat (first | exact Ext.refl _ | assumption | refine Ext.trans ?_ (Ext.drew _) | refine Ext.trans ?_ (by assumption)))).2; obtain ⟨ka0, ka1, ka2, ka3, ka4, ka5⟩ := keepB HX0.out HX1.out (w' := wa) (by repeat (first | exact Ext.refl _ | assumption | refine Ext.trans ?_ (Ext.drew _) | refine Ext.trans ?_ (by assumption)))) | (go_at_call 106; refine (HB.out.num _ (HXE.out.trans (by repeat (first | exact Ext.refl _ | assumption | refine Ext.trans ?_ (Ext.drew _) | refine Ext.trans ?_ (by assumption))))).mono ?_; rintro e wb ⟨rfl, hxb⟩; have gb0 := (HX0.out.ext (w' := wb) (by repeat (first | exact Ext.refl _ | assumption | refine Ext.trans ?_ (Ext.drew _) | refine Ext.trans ?_ (by assumption)))).2; have gb1 := (HX1.out.ext (w' := wb) (by repeat (first | exact Ext.refl _ | assumption | refine Ext.trans ?_ (Ext.drew _) | refine Ext.trans ?_ (by assumption)))).2; obtain ⟨kb0, kb1, kb2, kb3, kb4, kb5⟩ := keepB HX0.out HX1.out (w' := wb) (by repeat (first | exact Ext.refl _ | assumption | refine Ext.trans ?_ (Ext.drew _) | refine Ext.trans ?_ (by assumption))))))
    all_goals
      go_wp2_with fail
      go_meet
      exact two_of HX0.out HX1.out HX2.out HXE.out (by repeat (first | exact Ext.refl _ | assumption | refine Ext.trans ?_ (Ext.drew _) | refine Ext.trans ?_ (by assumption)))
  case rest =>
    clear HX0 HX1 HX2 HXE
    have HO := Lib.hid hcut
    clear hcut
    obtain ⟨k0, k1, k2, k3, k4, k5⟩ := keepB HO.out.2.1 HO.out.2.2.1 (Ext.refl _)
    have g2 := HO.out.2.2.2.2
    obtain ⟨r0, r1, r2⟩ := HO.out.2.2.2.1
    have hn2 : ¬ w.heap.size + 1 + 1 = w.heap.size := by omega
    have hn3 : ¬ w.heap.size = w.heap.size + 1 + 1 := by omega
    by_cases hs : a.neg = b.neg
    · have hs' : (a.neg == b.neg) = true := by simpa using hs
      have HSS := Lib.hid (HS1.out hs)
      clear hs
      go_wp2_with (go_at_call 108; refine (HAL.out _ HO.out.1).mono ?_; rintro e w3 ⟨A1, c1, A2, c2, rfl, hon1, hon2, hx⟩; have HO1 := Lib.hid hon1; have HO2 := Lib.hid hon2; clear hon1 hon2 k0 k1 k2 k3 k4 k5 g2 r0 r1 r2; obtain ⟨k0, k1, k2, k3, k4, k5⟩ := keepB HO.out.2.1 HO.out.2.2.1 hx; have HO3 := Lib.hid (keepT HO.out hx); have g2 := HO3.out.2.2.2.2; obtain ⟨r0, r1, r2⟩ := HO3.out.2.2.2.1; clear hx)
      have HOQ := HO3
      go_region_held3 (fun w' => w'.cell? ⟨w.heap.size, 0, none⟩ = some (.bool a.neg) ∧ w'.cell? ⟨w.heap.size, 1, none⟩ = some (.slice A' (len a.m) c') ∧ w'.cell? ⟨w.heap.size, 2, none⟩ = some (I a.den) ∧ w'.cell? ⟨w.heap.size + 1, 0, none⟩ = some (.bool b.neg) ∧ w'.cell? ⟨w.heap.size + 1, 1, none⟩ = some (.slice B' (len b.m) e') ∧ w'.cell? ⟨w.heap.size + 1, 2, none⟩ = some (I b.den)) (go_keep)
        (first
          | (go_at_call 155; refine (sum_any A1 A2 x y c1 c2 _ (HO1.out.rd.ext (Ext.drew _)) (HO2.out.rd.ext (Ext.drew _)) HO1.out.ok HO2.out.ok (by omega) (by omega)).mono ?_; rintro e w5 ⟨A5, c5, rfl, hon5, hx5⟩; have HO5 := Lib.hid hon5; have HT5 := Lib.hid (keepT HOQ.out ((Ext.drew _).trans hx5)); clear hon5; obtain ⟨q0, q1, q2, q3, q4, q5⟩ := keepB HOQ.out.2.1 HOQ.out.2.2.1 (w' := w5) ((Ext.drew _).trans hx5))
          | (go_at_call 151; refine (normal_at _ A5 (x + y) c5 _ _ d' HSS.out (HT.out.ext HT5.out.1) HO5.out.rd HO5.out.ok (by have := len_add x y; omega) (by omega) (by omega)).mono ?_; rintro e w6 ⟨A6, c6, rfl, hon6, hx6⟩; have HO6 := Lib.hid hon6; have HT6 := Lib.hid (keepT HT5.out hx6); clear hon6; obtain ⟨p0, p1, p2, p3, p4, p5⟩ := keepB HT5.out.2.1 HT5.out.2.2.1 (w' := w6) hx6; have gz := HT6.out.2.2.2.2; obtain ⟨z0, z1, z2⟩ := HT6.out.2.2.2.1))
      all_goals
        have hlt := HT5.out.2.2.2.lt
        go_wp2_with fail
        exact bodyPost_ret (v := dv d'.neg A6 (len d'.m) c6 d'.den) (by simp [results, Tryz.results72, go_sem, z0, z1, z2]) rfl (DyRes.end3 rfl HO6.out HT6.out.1 (by omega) (by omega) hlt)
    · have hs' : (a.neg == b.neg) = false := by simpa using hs
      by_cases hxy : x < y
      · have HSS := Lib.hid (HS2.out hs hxy)
        have HCF := Lib.hid (cmp_lt hxy)
        have hle : x ≤ y := by omega
        clear hs
        go_wp2_with (first | (go_at_call 108; refine (HAL.out _ HO.out.1).mono ?_; rintro e w3 ⟨A1, c1, A2, c2, rfl, hon1, hon2, hx⟩; have HO1 := Lib.hid hon1; have HO2 := Lib.hid hon2; clear hon1 hon2 k0 k1 k2 k3 k4 k5 g2 r0 r1 r2; obtain ⟨k0, k1, k2, k3, k4, k5⟩ := keepB HO.out.2.1 HO.out.2.2.1 hx; have HO3 := Lib.hid (keepT HO.out hx); have g2 := HO3.out.2.2.2.2; obtain ⟨r0, r1, r2⟩ := HO3.out.2.2.2.1; clear hx) | (go_at_call 109; refine (compare_any A1 A2 x y c1 c2 _ HO1.out.rd HO2.out.rd (by omega)).mono ?_; rintro e w4 ⟨rfl, hx⟩; rw [HCF.out]; clear k0 k1 k2 k3 k4 k5 g2 r0 r1 r2; obtain ⟨k0, k1, k2, k3, k4, k5⟩ := keepB HO3.out.2.1 HO3.out.2.2.1 hx; have HOQ := Lib.hid (keepT HO3.out hx); have g2 := HOQ.out.2.2.2.2; obtain ⟨r0, r1, r2⟩ := HOQ.out.2.2.2.1; have HX4 := Lib.hid hx; clear hx))
        go_region_held3 (fun w' => w'.cell? ⟨w.heap.size, 0, none⟩ = some (.bool a.neg) ∧ w'.cell? ⟨w.heap.size, 1, none⟩ = some (.slice A' (len a.m) c') ∧ w'.cell? ⟨w.heap.size, 2, none⟩ = some (I a.den) ∧ w'.cell? ⟨w.heap.size + 1, 0, none⟩ = some (.bool b.neg) ∧ w'.cell? ⟨w.heap.size + 1, 1, none⟩ = some (.slice B' (len b.m) e') ∧ w'.cell? ⟨w.heap.size + 1, 2, none⟩ = some (I b.den)) (go_keep)
          (first
            | (go_at_call 156; refine (difference_any A2 A1 y x c2 c1 _ (HO2.out.rd.ext (HX4.out.trans (Ext.drew _))) (HO1.out.rd.ext (HX4.out.trans (Ext.drew _))) HO2.out.ok hle (by omega)).mono ?_; rintro e w5 ⟨A5, c5, rfl, hon5, hx5⟩; have HO5 := Lib.hid hon5; have HT5 := Lib.hid (keepT HOQ.out ((Ext.drew _).trans hx5)); clear hon5; obtain ⟨q0, q1, q2, q3, q4, q5⟩ := keepB HOQ.out.2.1 HOQ.out.2.2.1 (w' := w5) ((Ext.drew _).trans hx5))
            | (go_at_call 151; refine (normal_at _ A5 (y - x) c5 _ _ d' HSS.out (HT.out.ext HT5.out.1) HO5.out.rd HO5.out.ok (by have := len_mono (Nat.sub_le y x); omega) (by omega) (by omega)).mono ?_; rintro e w6 ⟨A6, c6, rfl, hon6, hx6⟩; have HO6 := Lib.hid hon6; have HT6 := Lib.hid (keepT HT5.out hx6); clear hon6; obtain ⟨p0, p1, p2, p3, p4, p5⟩ := keepB HT5.out.2.1 HT5.out.2.2.1 (w' := w6) hx6; have gz := HT6.out.2.2.2.2; obtain ⟨z0, z1, z2⟩ := HT6.out.2.2.2.1))
        all_goals
          have hlt := HT5.out.2.2.2.lt
          go_wp2_with fail
          exact bodyPost_ret (v := dv d'.neg A6 (len d'.m) c6 d'.den) (by simp [results, Tryz.results72, go_sem, z0, z1, z2]) rfl (DyRes.end3 rfl HO6.out HT6.out.1 (by omega) (by omega) hlt)
      · have HSS := Lib.hid (HS3.out hs hxy)
        have hcv : ¬ cmpF x y < 0 := fun h => hxy (cmpF_lt0.1 h)
        obtain ⟨cv, hcv'⟩ : ∃ cv, cmpF x y = cv := ⟨_, rfl⟩
        rw [hcv'] at hcv
        have HCF := Lib.hid hcv'
        have hle : y ≤ x := by omega
        clear hs hcv'
        go_wp2_with (first | (go_at_call 108; refine (HAL.out _ HO.out.1).mono ?_; rintro e w3 ⟨A1, c1, A2, c2, rfl, hon1, hon2, hx⟩; have HO1 := Lib.hid hon1; have HO2 := Lib.hid hon2; clear hon1 hon2 k0 k1 k2 k3 k4 k5 g2 r0 r1 r2; obtain ⟨k0, k1, k2, k3, k4, k5⟩ := keepB HO.out.2.1 HO.out.2.2.1 hx; have HO3 := Lib.hid (keepT HO.out hx); have g2 := HO3.out.2.2.2.2; obtain ⟨r0, r1, r2⟩ := HO3.out.2.2.2.1; clear hx) | (go_at_call 109; refine (compare_any A1 A2 x y c1 c2 _ HO1.out.rd HO2.out.rd (by omega)).mono ?_; rintro e w4 ⟨rfl, hx⟩; rw [HCF.out]; clear k0 k1 k2 k3 k4 k5 g2 r0 r1 r2; obtain ⟨k0, k1, k2, k3, k4, k5⟩ := keepB HO3.out.2.1 HO3.out.2.2.1 hx; have HOQ := Lib.hid (keepT HO3.out hx); have g2 := HOQ.out.2.2.2.2; obtain ⟨r0, r1, r2⟩ := HOQ.out.2.2.2.1; have HX4 := Lib.hid hx; clear hx))
        go_region_held3 (fun w' => w'.cell? ⟨w.heap.size, 0, none⟩ = some (.bool a.neg) ∧ w'.cell? ⟨w.heap.size, 1, none⟩ = some (.slice A' (len a.m) c') ∧ w'.cell? ⟨w.heap.size, 2, none⟩ = some (I a.den) ∧ w'.cell? ⟨w.heap.size + 1, 0, none⟩ = some (.bool b.neg) ∧ w'.cell? ⟨w.heap.size + 1, 1, none⟩ = some (.slice B' (len b.m) e') ∧ w'.cell? ⟨w.heap.size + 1, 2, none⟩ = some (I b.den)) (go_keep)
          (first
            | (go_at_call 156; refine (difference_any A1 A2 x y c1 c2 _ (HO1.out.rd.ext (HX4.out.trans (Ext.drew _))) (HO2.out.rd.ext (HX4.out.trans (Ext.drew _))) HO1.out.ok hle (by omega)).mono ?_; rintro e w5 ⟨A5, c5, rfl, hon5, hx5⟩; have HO5 := Lib.hid hon5; have HT5 := Lib.hid (keepT HOQ.out ((Ext.drew _).trans hx5)); clear hon5; obtain ⟨q0, q1, q2, q3, q4, q5⟩ := keepB HOQ.out.2.1 HOQ.out.2.2.1 (w' := w5) ((Ext.drew _).trans hx5))
            | (go_at_call 151; refine (normal_at _ A5 (x - y) c5 _ _ d' HSS.out (HT.out.ext HT5.out.1) HO5.out.rd HO5.out.ok (by have := len_mono (Nat.sub_le x y); omega) (by omega) (by omega)).mono ?_; rintro e w6 ⟨A6, c6, rfl, hon6, hx6⟩; have HO6 := Lib.hid hon6; have HT6 := Lib.hid (keepT HT5.out hx6); clear hon6; obtain ⟨p0, p1, p2, p3, p4, p5⟩ := keepB HT5.out.2.1 HT5.out.2.2.1 (w' := w6) hx6; have gz := HT6.out.2.2.2.2; obtain ⟨z0, z1, z2⟩ := HT6.out.2.2.2.1))
        all_goals
          have hlt := HT5.out.2.2.2.lt
          go_wp2_with fail
          exact bodyPost_ret (v := dv d'.neg A6 (len d'.m) c6 d'.den) (by simp [results, Tryz.results72, go_sem, z0, z1, z2]) rfl (DyRes.end3 rfl HO6.out HT6.out.1 (by omega) (by omega) hlt)

end Go.Proofs.YtcdkkohklhmpgaaGreatDoor
