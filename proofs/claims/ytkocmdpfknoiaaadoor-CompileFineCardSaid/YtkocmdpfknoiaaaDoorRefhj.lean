/- The reference's signs. -/
import Derived.Test.YtkocmdpfknoiaaaDoorMrf
import Derived.Test.YtkocmdpfknoiaaaDoorMdz
import Derived.Test.YtkocmdpfknoiaaaDoorDyy
namespace Go.Proofs.YtkocmdpfknoiaaaDoor

/-! ### Refh -/
section
open Go.RowKit

set_option maxRecDepth 100000 in
set_option maxHeartbeats 1000000 in
theorem rneg_any {w : World} {neg : Bool} {A A' : Option Addr} {n c c' : Nat} {den : Int} {d : DV} (h : Dy w neg A n c den d A' c') : Calls Tryd.prog 37 #[dv neg A n c den] w (DyRes (negD d) w) := by
  have H := Lib.hid h; clear h
  have hd1 := H.out.wf.2.1
  have hl1 := H.out.lim
  obtain ⟨d', hd'⟩ : ∃ d', negD d = d' := ⟨_, rfl⟩
  rw [hd']
  have HD' : Hid (mkD (!d.neg) d.m d.den = d') := hd'
  clear hd'
  go_enter Tryd.func37, Tryd.ntmps37
  go_wp2_with (go_at_call 30; refine (H.out.norm _ ((Ext.alloc _ _).trans (Ext.alloc _ _))).mono ?_; rintro e w1 ⟨rfl, hx⟩; obtain ⟨⟨k0, k1, k2⟩, s1, hz, hx1⟩ := two_boxes hx; have S1 := Lib.hid s1; have HX := Lib.hid hx1; obtain ⟨hc, hf⟩ := hx.old; clear hx hx1 s1)
  have HW := Lib.hid (ext_set3 HX.out (Nat.le_refl _))
  (with_reducible refine (rnumber_at (!d.neg) A' c' d.den d.m _ (H.out.rd.ext (HW.out _ _ _)) H.out.sl (by omega) (by omega)).mono ?_)
  rw [HD'.out]
  rintro e w2 ⟨A2, c2, rfl, hon, hx⟩
  obtain ⟨r0, r1, r2⟩ := (S1.out.far3 (by omega) _ _ _).ext hx
  obtain ⟨hc2, hf2⟩ := hx.old
  have HX2 := Lib.hid ((HW.out _ _ _).trans hx)
  have HO := Lib.hid hon
  clear hon hx
  go_wp2_with fail
  exact bodyPost_ret (v := dv d'.neg A2 (len d'.m) c2 d'.den) (by simp [results, Tryd.results37, go_sem, r0, r1, r2]) rfl (DyRes.end3 rfl HO.out HX2.out (by simp; omega) (by omega) (by simp; omega))

set_option maxRecDepth 100000 in
set_option maxHeartbeats 1000000 in
theorem rsign_any {w : World} {neg : Bool} {A A' : Option Addr} {n c c' : Nat} {den : Int} {d : DV} (h : Dy w neg A n c den d A' c') : Calls Tryd.prog 21 #[dv neg A n c den] w fun e w' => e = .returned (I (signD d)) ∧ Ext w w' := by
  have H := Lib.hid h; clear h
  have HN : Hid (∀ w', Ext w w' → Calls Tryd.prog 30 #[dv neg A n c den] w' (NumRes (dv d.neg A' (len d.m) c' d.den) w')) := H.out.norm
  have hl1 := H.out.lim
  by_cases hm : d.m = 0
  · have HR := Lib.hid (sign_0 hm)
    have hl : len d.m = 0 := len_eq_zero.2 hm
    clear hm H
    rw [hl] at HN
    go_enter Tryd.func21, Tryd.ntmps21
    go_wp2_with (go_at_call 30; refine (HN.out _ (Ext.alloc _ _)).mono ?_; rintro e w1 ⟨rfl, hx⟩; obtain ⟨⟨k0, k1, k2⟩, hz, hx1⟩ := one_box hx; have HX := Lib.hid hx1; obtain ⟨hc, hf⟩ := hx.old; clear hx hx1)
    go_ret
    exact ⟨by rw [HR.out]; rfl, ext_set3 HX.out (Nat.le_refl _) _ _ _⟩
  · have hl : ((len d.m : Int) == 0) = false := by
      have : len d.m ≠ 0 := fun e => hm (len_eq_zero.1 e)
      simp; omega
    cases hn : d.neg with
    | true =>
      have HR := Lib.hid (sign_n hm hn)
      rw [hn] at HN
      clear hm hn H
      go_enter Tryd.func21, Tryd.ntmps21
      go_wp2_with (go_at_call 30; refine (HN.out _ (Ext.alloc _ _)).mono ?_; rintro e w1 ⟨rfl, hx⟩; obtain ⟨⟨k0, k1, k2⟩, hz, hx1⟩ := one_box hx; have HX := Lib.hid hx1; obtain ⟨hc, hf⟩ := hx.old; clear hx hx1)
      go_ret
      exact ⟨by rw [HR.out]; rfl, ext_set3 HX.out (Nat.le_refl _) _ _ _⟩
    | false =>
      have HR := Lib.hid (sign_p hm hn)
      rw [hn] at HN
      clear hm hn H
      go_enter Tryd.func21, Tryd.ntmps21
      go_wp2_with (go_at_call 30; refine (HN.out _ (Ext.alloc _ _)).mono ?_; rintro e w1 ⟨rfl, hx⟩; obtain ⟨⟨k0, k1, k2⟩, hz, hx1⟩ := one_box hx; have HX := Lib.hid hx1; obtain ⟨hc, hf⟩ := hx.old; clear hx hx1)
      go_ret
      exact ⟨by rw [HR.out]; rfl, ext_set3 HX.out (Nat.le_refl _) _ _ _⟩
end

/-! ### Refi -/
section
open Go.RowKit
attribute [local go_sem ↓] Go.wp_at_zero Go.wp_at_succ

set_option maxRecDepth 100000 in
set_option maxHeartbeats 4000000 in
theorem radd_any {w : World} {na nb : Bool} {A A' B B' : Option Addr} {n c c' k e e' : Nat} {da db : Int} {a b : DV} (ha : Dy w na A n c da a A' c') (hb' : Dy w nb B k e db b B' e') :
    Calls Tryd.prog 36 #[dv na A n c da, dv nb B k e db] w (DyRes (addD a b) w) := by
  have HA := Lib.hid ha; have HB := Lib.hid hb'; clear ha hb'
  obtain ⟨X0, X1, X2, XE⟩ := three_boxes w (.bool na) (.slice A n c) (I da) (.bool nb) (.slice B k e) (I db) (.bool false) (.slice none 0 0) (I 0) 37 37 37
  have HX0 := Lib.hid X0; have HX1 := Lib.hid X1; have HX2 := Lib.hid X2; have HXE := Lib.hid XE
  clear X0 X1 X2 XE
  obtain ⟨pa, hpa⟩ : ∃ q, max a.den b.den - a.den = q := ⟨_, rfl⟩
  obtain ⟨pb, hpb⟩ : ∃ q, max a.den b.den - b.den = q := ⟨_, rfl⟩
  have hpaI : ((max a.den b.den : Nat) : Int) - (a.den : Int) = (pa : Int) := by omega
  have hpbI : ((max a.den b.den : Nat) : Int) - (b.den : Int) = (pb : Int) := by omega
  have em : (if (a.den : Int) < (b.den : Int) then (b.den : Int) else (a.den : Int)) = ((max a.den b.den : Nat) : Int) := by split <;> omega
  have hpa3 : pa ≤ 65536 ∧ pb ≤ 65536 := by have h3 := HA.out.wf.2.1; have h4 := HB.out.wf.2.1; omega
  have hla := HA.out.lim
  have hlb := HB.out.lim
  have HL1 : Hid (∀ w', Ext w w' → Calls Tryd.prog 34 #[.slice A' (len a.m) c', I pa] w' (NatRes (al a (max a.den b.den)) w')) := fun w' e => by
    unfold al; rw [hpa]; exact rleft_any A' a.m pa c' w' (HA.out.rd.ext e) (by omega) (by omega)
  have HL2 : Hid (∀ w', Ext w w' → Calls Tryd.prog 34 #[.slice B' (len b.m) e', I pb] w' (NatRes (al b (max a.den b.den)) w')) := fun w' e => by
    unfold al; rw [hpb]; exact rleft_any B' b.m pb e' w' (HB.out.rd.ext e) (by omega) (by omega)
  clear hpa hpb
  have hD3 : max a.den b.den ≤ 65536 := by have h3 := HA.out.wf.2.1; have h4 := HB.out.wf.2.1; omega
  have hlx : len (al a (max a.den b.den)) ≤ 16779300 := by
    have h1 := len_shl a.m (max a.den b.den - a.den)
    have h2 := HA.out.lim
    unfold al; omega
  have hly : len (al b (max a.den b.den)) ≤ 16779300 := by
    have h1 := len_shl b.m (max a.den b.den - b.den)
    have h2 := HB.out.lim
    unfold al; omega
  have HS1 : Hid (a.neg = b.neg → mkD a.neg (al a (max a.den b.den) + al b (max a.den b.den)) (max a.den b.den) = addD a b) := fun h => by rw [add_same h]
  have HS2 : Hid (a.neg ≠ b.neg → al a (max a.den b.den) < al b (max a.den b.den) → mkD b.neg (al b (max a.den b.den) - al a (max a.den b.den)) (max a.den b.den) = addD a b) := fun h h2 => by rw [add_lt h h2]
  have HS3 : Hid (a.neg ≠ b.neg → ¬ al a (max a.den b.den) < al b (max a.den b.den) → mkD a.neg (al a (max a.den b.den) - al b (max a.den b.den)) (max a.den b.den) = addD a b) := fun h h2 => by rw [add_ge h h2]
  generalize al a (max a.den b.den) = x at *
  generalize al b (max a.den b.den) = y at *
  generalize max a.den b.den = D at *
  generalize addD a b = d' at *
  go_enter Tryd.func36, Tryd.ntmps36
  go_upto_region 1 with fail
  go_cut [] (fun wx => Two w a b A' B' c' e' wx)
  case first =>
    go_region_with ((first | (go_at_call 30; refine (HA.out.norm _ (HXE.out.trans (by repeat (first | exact Ext.refl _ | assumption | refine Ext.trans ?_ (Ext.drew _) | refine Ext.trans ?_ (by assumption))))).mono ?_; rintro e wa ⟨rfl, hxa⟩; have ga0 := (HX0.out.ext (w' := wa) (by repeat (first | exact Ext.refl _ | assumption | refine Ext.trans ?_ (Ext.drew _) | refine Ext.trans ?_ (by assumption)))).2; have ga1 := (HX1.out.ext (w' := wa) (by repeat (first | exact Ext.refl _ | assumption | refine Ext.trans ?_ (Ext.drew _) | refine Ext.trans ?_ (by assumption)))).2; obtain ⟨ka0, ka1, ka2, ka3, ka4, ka5⟩ := keepB HX0.out HX1.out (w' := wa) (by repeat (first | exact Ext.refl _ | assumption | refine Ext.trans ?_ (Ext.drew _) | refine Ext.trans ?_ (by assumption)))) | (go_at_call 30; refine (HB.out.norm _ (HXE.out.trans (by repeat (first | exact Ext.refl _ | assumption | refine Ext.trans ?_ (Ext.drew _) | refine Ext.trans ?_ (by assumption))))).mono ?_; rintro e wb ⟨rfl, hxb⟩; have gb0 := (HX0.out.ext (w' := wb) (by repeat (first | exact Ext.refl _ | assumption | refine Ext.trans ?_ (Ext.drew _) | refine Ext.trans ?_ (by assumption)))).2; have gb1 := (HX1.out.ext (w' := wb) (by repeat (first | exact Ext.refl _ | assumption | refine Ext.trans ?_ (Ext.drew _) | refine Ext.trans ?_ (by assumption)))).2; obtain ⟨kb0, kb1, kb2, kb3, kb4, kb5⟩ := keepB HX0.out HX1.out (w' := wb) (by repeat (first | exact Ext.refl _ | assumption | refine Ext.trans ?_ (Ext.drew _) | refine Ext.trans ?_ (by assumption))))))
    all_goals
      go_wp2_with fail
      go_meet
      exact two_of HX0.out HX1.out HX2.out HXE.out (by repeat (first | exact Ext.refl _ | assumption | refine Ext.trans ?_ (Ext.drew _) | refine Ext.trans ?_ (by assumption)))
  case rest =>
    clear HX0 HX1 HX2 HXE
    have HOE := Lib.hid hcut.1
    have HO := Lib.hid hcut
    clear hcut
    obtain ⟨k0, k1, k2, k3, k4, k5⟩ := keepB HO.out.2.1 HO.out.2.2.1 (Ext.refl _)
    have g2 := HO.out.2.2.2.2
    obtain ⟨r0, r1, r2⟩ := HO.out.2.2.2.1
    have hn2 : ¬ w.heap.size + 1 + 1 = w.heap.size := by omega
    have hn3 : ¬ w.heap.size = w.heap.size + 1 + 1 := by omega
    by_cases hs : a.neg = b.neg
    · have hs' : (a.neg == b.neg) = true := by simpa using hs
      have HSS := Lib.hid (HS1.out hs)
      clear hs
      go_wp2_with fail
      case inl =>
        have h3 := HA.out.wf.2.1
        have h4 := HB.out.wf.2.1
        have hDD : D = b.den := by (rw [if_pos (by omega)] at em; omega)
        have e7 : IntKind.i64.wrap ((b.den : Int) - (a.den : Int)) = (pa : Int) := by (rw [IntWalk.i64_in _ (by omega)]; omega)
        have e8 : IntKind.i64.wrap 0 = (pb : Int) := by (rw [IntWalk.i64_in _ (by omega)]; omega)
        clear em hpaI hpbI h3 h4
        subst hDD
        go_region_held3 (fun w' => w'.cell? ⟨w.heap.size, 0, none⟩ = some (.bool a.neg) ∧ w'.cell? ⟨w.heap.size, 1, none⟩ = some (.slice A' (len a.m) c') ∧ w'.cell? ⟨w.heap.size, 2, none⟩ = some (I a.den) ∧ w'.cell? ⟨w.heap.size + 1, 0, none⟩ = some (.bool b.neg) ∧ w'.cell? ⟨w.heap.size + 1, 1, none⟩ = some (.slice B' (len b.m) e') ∧ w'.cell? ⟨w.heap.size + 1, 2, none⟩ = some (I b.den)) (go_keep)
          (first
            | (have hg := HX1; clear hg; go_at_call 34; (with_reducible refine (HL2.out _ (HOE.out.trans ((Ext.drew _).trans HX1.out))).mono ?_); rintro e w4 ⟨A2, c2, rfl, hon2, hx⟩; have HO2 := Lib.hid hon2; have HX2 := Lib.hid (((Ext.drew _).trans HX1.out).trans hx); have HO1 := Lib.hid (HO0.out.ext hx); clear hon2 hx; obtain ⟨k0, k1, k2, k3, k4, k5⟩ := keepB HO.out.2.1 HO.out.2.2.1 HX2.out; have HO3 := Lib.hid (keepT HO.out HX2.out); have g2 := HO3.out.2.2.2.2; obtain ⟨r0, r1, r2⟩ := HO3.out.2.2.2.1)
            | (go_at_call 34; (with_reducible refine (HL1.out _ (HOE.out.trans (Ext.drew _))).mono ?_); rintro e w3 ⟨A1, c1, rfl, hon1, hx⟩; have HO0 := Lib.hid hon1; have HX1 := Lib.hid hx; clear hon1 hx; obtain ⟨j0, j1, j2, j3, j4, j5⟩ := keepB HO.out.2.1 HO.out.2.2.1 ((Ext.drew _).trans HX1.out)))
        go_wp2_with fail
        have HOQ := HO3
        go_region_held3 (fun w' => w'.cell? ⟨w.heap.size, 0, none⟩ = some (.bool a.neg) ∧ w'.cell? ⟨w.heap.size, 1, none⟩ = some (.slice A' (len a.m) c') ∧ w'.cell? ⟨w.heap.size, 2, none⟩ = some (I a.den) ∧ w'.cell? ⟨w.heap.size + 1, 0, none⟩ = some (.bool b.neg) ∧ w'.cell? ⟨w.heap.size + 1, 1, none⟩ = some (.slice B' (len b.m) e') ∧ w'.cell? ⟨w.heap.size + 1, 2, none⟩ = some (I b.den)) (go_keep)
          (first
            | (go_at_call 33; (with_reducible refine (rplus_any A1 A2 x y c1 c2 _ (HO1.out.rd.ext (Ext.drew _)) (HO2.out.rd.ext (Ext.drew _)) (by omega) (by omega)).mono ?_); rintro e w5 ⟨A5, c5, rfl, hon5, hx5⟩; have HO5 := Lib.hid hon5; have HT5 := Lib.hid (keepT HOQ.out ((Ext.drew _).trans hx5)); clear hon5; obtain ⟨q0, q1, q2, q3, q4, q5⟩ := keepB HOQ.out.2.1 HOQ.out.2.2.1 (w' := w5) ((Ext.drew _).trans hx5))
            | (go_at_call 31; (with_reducible refine (rnumber_at _ A5 c5 _ (x + y) _ HO5.out.rd HO5.out.ok (by have := len_add x y; omega) (by omega)).mono ?_); rw [HSS.out]; rintro e w6 ⟨A6, c6, rfl, hon6, hx6⟩; have HO6 := Lib.hid hon6; have HT6 := Lib.hid (keepT HT5.out hx6); clear hon6; obtain ⟨p0, p1, p2, p3, p4, p5⟩ := keepB HT5.out.2.1 HT5.out.2.2.1 (w' := w6) hx6; have gz := HT6.out.2.2.2.2; obtain ⟨z0, z1, z2⟩ := HT6.out.2.2.2.1))
        all_goals
          have hlt := HT5.out.2.2.2.lt
          go_wp2_with fail
          exact bodyPost_ret (v := dv d'.neg A6 (len d'.m) c6 d'.den) (by simp [results, Tryd.results36, go_sem, z0, z1, z2]) rfl (DyRes.end3 rfl HO6.out HT6.out.1 (by omega) (by omega) hlt)
      case inr =>
        have h3 := HA.out.wf.2.1
        have h4 := HB.out.wf.2.1
        have hDD : D = a.den := by (rw [if_neg (by omega)] at em; omega)
        have e7 : IntKind.i64.wrap ((a.den : Int) - (b.den : Int)) = (pb : Int) := by (rw [IntWalk.i64_in _ (by omega)]; omega)
        have e8 : IntKind.i64.wrap 0 = (pa : Int) := by (rw [IntWalk.i64_in _ (by omega)]; omega)
        clear em hpaI hpbI h3 h4
        subst hDD
        go_region_held3 (fun w' => w'.cell? ⟨w.heap.size, 0, none⟩ = some (.bool a.neg) ∧ w'.cell? ⟨w.heap.size, 1, none⟩ = some (.slice A' (len a.m) c') ∧ w'.cell? ⟨w.heap.size, 2, none⟩ = some (I a.den) ∧ w'.cell? ⟨w.heap.size + 1, 0, none⟩ = some (.bool b.neg) ∧ w'.cell? ⟨w.heap.size + 1, 1, none⟩ = some (.slice B' (len b.m) e') ∧ w'.cell? ⟨w.heap.size + 1, 2, none⟩ = some (I b.den)) (go_keep)
          (first
            | (have hg := HX1; clear hg; go_at_call 34; (with_reducible refine (HL2.out _ (HOE.out.trans ((Ext.drew _).trans HX1.out))).mono ?_); rintro e w4 ⟨A2, c2, rfl, hon2, hx⟩; have HO2 := Lib.hid hon2; have HX2 := Lib.hid (((Ext.drew _).trans HX1.out).trans hx); have HO1 := Lib.hid (HO0.out.ext hx); clear hon2 hx; obtain ⟨k0, k1, k2, k3, k4, k5⟩ := keepB HO.out.2.1 HO.out.2.2.1 HX2.out; have HO3 := Lib.hid (keepT HO.out HX2.out); have g2 := HO3.out.2.2.2.2; obtain ⟨r0, r1, r2⟩ := HO3.out.2.2.2.1)
            | (go_at_call 34; (with_reducible refine (HL1.out _ (HOE.out.trans (Ext.drew _))).mono ?_); rintro e w3 ⟨A1, c1, rfl, hon1, hx⟩; have HO0 := Lib.hid hon1; have HX1 := Lib.hid hx; clear hon1 hx; obtain ⟨j0, j1, j2, j3, j4, j5⟩ := keepB HO.out.2.1 HO.out.2.2.1 ((Ext.drew _).trans HX1.out)))
        go_wp2_with fail
        have HOQ := HO3
        go_region_held3 (fun w' => w'.cell? ⟨w.heap.size, 0, none⟩ = some (.bool a.neg) ∧ w'.cell? ⟨w.heap.size, 1, none⟩ = some (.slice A' (len a.m) c') ∧ w'.cell? ⟨w.heap.size, 2, none⟩ = some (I a.den) ∧ w'.cell? ⟨w.heap.size + 1, 0, none⟩ = some (.bool b.neg) ∧ w'.cell? ⟨w.heap.size + 1, 1, none⟩ = some (.slice B' (len b.m) e') ∧ w'.cell? ⟨w.heap.size + 1, 2, none⟩ = some (I b.den)) (go_keep)
          (first
            | (go_at_call 33; (with_reducible refine (rplus_any A1 A2 x y c1 c2 _ (HO1.out.rd.ext (Ext.drew _)) (HO2.out.rd.ext (Ext.drew _)) (by omega) (by omega)).mono ?_); rintro e w5 ⟨A5, c5, rfl, hon5, hx5⟩; have HO5 := Lib.hid hon5; have HT5 := Lib.hid (keepT HOQ.out ((Ext.drew _).trans hx5)); clear hon5; obtain ⟨q0, q1, q2, q3, q4, q5⟩ := keepB HOQ.out.2.1 HOQ.out.2.2.1 (w' := w5) ((Ext.drew _).trans hx5))
            | (go_at_call 31; (with_reducible refine (rnumber_at _ A5 c5 _ (x + y) _ HO5.out.rd HO5.out.ok (by have := len_add x y; omega) (by omega)).mono ?_); rw [HSS.out]; rintro e w6 ⟨A6, c6, rfl, hon6, hx6⟩; have HO6 := Lib.hid hon6; have HT6 := Lib.hid (keepT HT5.out hx6); clear hon6; obtain ⟨p0, p1, p2, p3, p4, p5⟩ := keepB HT5.out.2.1 HT5.out.2.2.1 (w' := w6) hx6; have gz := HT6.out.2.2.2.2; obtain ⟨z0, z1, z2⟩ := HT6.out.2.2.2.1))
        all_goals
          have hlt := HT5.out.2.2.2.lt
          go_wp2_with fail
          exact bodyPost_ret (v := dv d'.neg A6 (len d'.m) c6 d'.den) (by simp [results, Tryd.results36, go_sem, z0, z1, z2]) rfl (DyRes.end3 rfl HO6.out HT6.out.1 (by omega) (by omega) hlt)

    · have hs' : (a.neg == b.neg) = false := by simpa using hs
      by_cases hxy : x < y
      · have HSS := Lib.hid (HS2.out hs hxy)
        have HCF := Lib.hid (decide_eq_true hxy)
        have hle : x ≤ y := by omega
        clear hs
        go_wp2_with fail
        case inl =>
          have h3 := HA.out.wf.2.1
          have h4 := HB.out.wf.2.1
          have hDD : D = b.den := by (rw [if_pos (by omega)] at em; omega)
          have e7 : IntKind.i64.wrap ((b.den : Int) - (a.den : Int)) = (pa : Int) := by (rw [IntWalk.i64_in _ (by omega)]; omega)
          have e8 : IntKind.i64.wrap 0 = (pb : Int) := by (rw [IntWalk.i64_in _ (by omega)]; omega)
          clear em hpaI hpbI h3 h4
          subst hDD
          go_region_held3 (fun w' => w'.cell? ⟨w.heap.size, 0, none⟩ = some (.bool a.neg) ∧ w'.cell? ⟨w.heap.size, 1, none⟩ = some (.slice A' (len a.m) c') ∧ w'.cell? ⟨w.heap.size, 2, none⟩ = some (I a.den) ∧ w'.cell? ⟨w.heap.size + 1, 0, none⟩ = some (.bool b.neg) ∧ w'.cell? ⟨w.heap.size + 1, 1, none⟩ = some (.slice B' (len b.m) e') ∧ w'.cell? ⟨w.heap.size + 1, 2, none⟩ = some (I b.den)) (go_keep)
            (first
              | (have hg := HX1; clear hg; go_at_call 34; (with_reducible refine (HL2.out _ (HOE.out.trans ((Ext.drew _).trans HX1.out))).mono ?_); rintro e w4 ⟨A2, c2, rfl, hon2, hx⟩; have HO2 := Lib.hid hon2; have HX2 := Lib.hid (((Ext.drew _).trans HX1.out).trans hx); have HO1 := Lib.hid (HO0.out.ext hx); clear hon2 hx; obtain ⟨k0, k1, k2, k3, k4, k5⟩ := keepB HO.out.2.1 HO.out.2.2.1 HX2.out; have HO3 := Lib.hid (keepT HO.out HX2.out); have g2 := HO3.out.2.2.2.2; obtain ⟨r0, r1, r2⟩ := HO3.out.2.2.2.1)
              | (go_at_call 34; (with_reducible refine (HL1.out _ (HOE.out.trans (Ext.drew _))).mono ?_); rintro e w3 ⟨A1, c1, rfl, hon1, hx⟩; have HO0 := Lib.hid hon1; have HX1 := Lib.hid hx; clear hon1 hx; obtain ⟨j0, j1, j2, j3, j4, j5⟩ := keepB HO.out.2.1 HO.out.2.2.1 ((Ext.drew _).trans HX1.out)))
          go_wp2_with (go_at_call 50; (with_reducible refine (rless_any A1 A2 x y c1 c2 _ HO1.out.rd HO2.out.rd (by omega)).mono ?_); rintro e w5 ⟨rfl, hx⟩; rw [HCF.out]; clear k0 k1 k2 k3 k4 k5 g2 r0 r1 r2; obtain ⟨k0, k1, k2, k3, k4, k5⟩ := keepB HO3.out.2.1 HO3.out.2.2.1 hx; have HOQ := Lib.hid (keepT HO3.out hx); have g2 := HOQ.out.2.2.2.2; obtain ⟨r0, r1, r2⟩ := HOQ.out.2.2.2.1; have HX4 := Lib.hid hx; clear hx)
          go_region_held3 (fun w' => w'.cell? ⟨w.heap.size, 0, none⟩ = some (.bool a.neg) ∧ w'.cell? ⟨w.heap.size, 1, none⟩ = some (.slice A' (len a.m) c') ∧ w'.cell? ⟨w.heap.size, 2, none⟩ = some (I a.den) ∧ w'.cell? ⟨w.heap.size + 1, 0, none⟩ = some (.bool b.neg) ∧ w'.cell? ⟨w.heap.size + 1, 1, none⟩ = some (.slice B' (len b.m) e') ∧ w'.cell? ⟨w.heap.size + 1, 2, none⟩ = some (I b.den)) (go_keep)
            (first
              | (go_at_call 51; (with_reducible refine (rminus_any A2 A1 y x c2 c1 _ (HO2.out.rd.ext (HX4.out.trans (Ext.drew _))) (HO1.out.rd.ext (HX4.out.trans (Ext.drew _))) (by omega) hle).mono ?_); rintro e w5 ⟨A5, c5, rfl, hon5, hx5⟩; have HO5 := Lib.hid hon5; have HT5 := Lib.hid (keepT HOQ.out ((Ext.drew _).trans hx5)); clear hon5; obtain ⟨q0, q1, q2, q3, q4, q5⟩ := keepB HOQ.out.2.1 HOQ.out.2.2.1 (w' := w5) ((Ext.drew _).trans hx5))
              | (go_at_call 31; (with_reducible refine (rnumber_at _ A5 c5 _ (y - x) _ HO5.out.rd HO5.out.ok (by have := len_mono (Nat.sub_le y x); omega) (by omega)).mono ?_); rw [HSS.out]; rintro e w6 ⟨A6, c6, rfl, hon6, hx6⟩; have HO6 := Lib.hid hon6; have HT6 := Lib.hid (keepT HT5.out hx6); clear hon6; obtain ⟨p0, p1, p2, p3, p4, p5⟩ := keepB HT5.out.2.1 HT5.out.2.2.1 (w' := w6) hx6; have gz := HT6.out.2.2.2.2; obtain ⟨z0, z1, z2⟩ := HT6.out.2.2.2.1))
          all_goals
            have hlt := HT5.out.2.2.2.lt
            go_wp2_with fail
            exact bodyPost_ret (v := dv d'.neg A6 (len d'.m) c6 d'.den) (by simp [results, Tryd.results36, go_sem, z0, z1, z2]) rfl (DyRes.end3 rfl HO6.out HT6.out.1 (by omega) (by omega) hlt)
        case inr =>
          have h3 := HA.out.wf.2.1
          have h4 := HB.out.wf.2.1
          have hDD : D = a.den := by (rw [if_neg (by omega)] at em; omega)
          have e7 : IntKind.i64.wrap ((a.den : Int) - (b.den : Int)) = (pb : Int) := by (rw [IntWalk.i64_in _ (by omega)]; omega)
          have e8 : IntKind.i64.wrap 0 = (pa : Int) := by (rw [IntWalk.i64_in _ (by omega)]; omega)
          clear em hpaI hpbI h3 h4
          subst hDD
          go_region_held3 (fun w' => w'.cell? ⟨w.heap.size, 0, none⟩ = some (.bool a.neg) ∧ w'.cell? ⟨w.heap.size, 1, none⟩ = some (.slice A' (len a.m) c') ∧ w'.cell? ⟨w.heap.size, 2, none⟩ = some (I a.den) ∧ w'.cell? ⟨w.heap.size + 1, 0, none⟩ = some (.bool b.neg) ∧ w'.cell? ⟨w.heap.size + 1, 1, none⟩ = some (.slice B' (len b.m) e') ∧ w'.cell? ⟨w.heap.size + 1, 2, none⟩ = some (I b.den)) (go_keep)
            (first
              | (have hg := HX1; clear hg; go_at_call 34; (with_reducible refine (HL2.out _ (HOE.out.trans ((Ext.drew _).trans HX1.out))).mono ?_); rintro e w4 ⟨A2, c2, rfl, hon2, hx⟩; have HO2 := Lib.hid hon2; have HX2 := Lib.hid (((Ext.drew _).trans HX1.out).trans hx); have HO1 := Lib.hid (HO0.out.ext hx); clear hon2 hx; obtain ⟨k0, k1, k2, k3, k4, k5⟩ := keepB HO.out.2.1 HO.out.2.2.1 HX2.out; have HO3 := Lib.hid (keepT HO.out HX2.out); have g2 := HO3.out.2.2.2.2; obtain ⟨r0, r1, r2⟩ := HO3.out.2.2.2.1)
              | (go_at_call 34; (with_reducible refine (HL1.out _ (HOE.out.trans (Ext.drew _))).mono ?_); rintro e w3 ⟨A1, c1, rfl, hon1, hx⟩; have HO0 := Lib.hid hon1; have HX1 := Lib.hid hx; clear hon1 hx; obtain ⟨j0, j1, j2, j3, j4, j5⟩ := keepB HO.out.2.1 HO.out.2.2.1 ((Ext.drew _).trans HX1.out)))
          go_wp2_with (go_at_call 50; (with_reducible refine (rless_any A1 A2 x y c1 c2 _ HO1.out.rd HO2.out.rd (by omega)).mono ?_); rintro e w5 ⟨rfl, hx⟩; rw [HCF.out]; clear k0 k1 k2 k3 k4 k5 g2 r0 r1 r2; obtain ⟨k0, k1, k2, k3, k4, k5⟩ := keepB HO3.out.2.1 HO3.out.2.2.1 hx; have HOQ := Lib.hid (keepT HO3.out hx); have g2 := HOQ.out.2.2.2.2; obtain ⟨r0, r1, r2⟩ := HOQ.out.2.2.2.1; have HX4 := Lib.hid hx; clear hx)
          go_region_held3 (fun w' => w'.cell? ⟨w.heap.size, 0, none⟩ = some (.bool a.neg) ∧ w'.cell? ⟨w.heap.size, 1, none⟩ = some (.slice A' (len a.m) c') ∧ w'.cell? ⟨w.heap.size, 2, none⟩ = some (I a.den) ∧ w'.cell? ⟨w.heap.size + 1, 0, none⟩ = some (.bool b.neg) ∧ w'.cell? ⟨w.heap.size + 1, 1, none⟩ = some (.slice B' (len b.m) e') ∧ w'.cell? ⟨w.heap.size + 1, 2, none⟩ = some (I b.den)) (go_keep)
            (first
              | (go_at_call 51; (with_reducible refine (rminus_any A2 A1 y x c2 c1 _ (HO2.out.rd.ext (HX4.out.trans (Ext.drew _))) (HO1.out.rd.ext (HX4.out.trans (Ext.drew _))) (by omega) hle).mono ?_); rintro e w5 ⟨A5, c5, rfl, hon5, hx5⟩; have HO5 := Lib.hid hon5; have HT5 := Lib.hid (keepT HOQ.out ((Ext.drew _).trans hx5)); clear hon5; obtain ⟨q0, q1, q2, q3, q4, q5⟩ := keepB HOQ.out.2.1 HOQ.out.2.2.1 (w' := w5) ((Ext.drew _).trans hx5))
              | (go_at_call 31; (with_reducible refine (rnumber_at _ A5 c5 _ (y - x) _ HO5.out.rd HO5.out.ok (by have := len_mono (Nat.sub_le y x); omega) (by omega)).mono ?_); rw [HSS.out]; rintro e w6 ⟨A6, c6, rfl, hon6, hx6⟩; have HO6 := Lib.hid hon6; have HT6 := Lib.hid (keepT HT5.out hx6); clear hon6; obtain ⟨p0, p1, p2, p3, p4, p5⟩ := keepB HT5.out.2.1 HT5.out.2.2.1 (w' := w6) hx6; have gz := HT6.out.2.2.2.2; obtain ⟨z0, z1, z2⟩ := HT6.out.2.2.2.1))
          all_goals
            have hlt := HT5.out.2.2.2.lt
            go_wp2_with fail
            exact bodyPost_ret (v := dv d'.neg A6 (len d'.m) c6 d'.den) (by simp [results, Tryd.results36, go_sem, z0, z1, z2]) rfl (DyRes.end3 rfl HO6.out HT6.out.1 (by omega) (by omega) hlt)

      · have HSS := Lib.hid (HS3.out hs hxy)
        have HCF := Lib.hid (decide_eq_false hxy)
        have hle : y ≤ x := by omega
        clear hs
        go_wp2_with fail
        case inl =>
          have h3 := HA.out.wf.2.1
          have h4 := HB.out.wf.2.1
          have hDD : D = b.den := by (rw [if_pos (by omega)] at em; omega)
          have e7 : IntKind.i64.wrap ((b.den : Int) - (a.den : Int)) = (pa : Int) := by (rw [IntWalk.i64_in _ (by omega)]; omega)
          have e8 : IntKind.i64.wrap 0 = (pb : Int) := by (rw [IntWalk.i64_in _ (by omega)]; omega)
          clear em hpaI hpbI h3 h4
          subst hDD
          go_region_held3 (fun w' => w'.cell? ⟨w.heap.size, 0, none⟩ = some (.bool a.neg) ∧ w'.cell? ⟨w.heap.size, 1, none⟩ = some (.slice A' (len a.m) c') ∧ w'.cell? ⟨w.heap.size, 2, none⟩ = some (I a.den) ∧ w'.cell? ⟨w.heap.size + 1, 0, none⟩ = some (.bool b.neg) ∧ w'.cell? ⟨w.heap.size + 1, 1, none⟩ = some (.slice B' (len b.m) e') ∧ w'.cell? ⟨w.heap.size + 1, 2, none⟩ = some (I b.den)) (go_keep)
            (first
              | (have hg := HX1; clear hg; go_at_call 34; (with_reducible refine (HL2.out _ (HOE.out.trans ((Ext.drew _).trans HX1.out))).mono ?_); rintro e w4 ⟨A2, c2, rfl, hon2, hx⟩; have HO2 := Lib.hid hon2; have HX2 := Lib.hid (((Ext.drew _).trans HX1.out).trans hx); have HO1 := Lib.hid (HO0.out.ext hx); clear hon2 hx; obtain ⟨k0, k1, k2, k3, k4, k5⟩ := keepB HO.out.2.1 HO.out.2.2.1 HX2.out; have HO3 := Lib.hid (keepT HO.out HX2.out); have g2 := HO3.out.2.2.2.2; obtain ⟨r0, r1, r2⟩ := HO3.out.2.2.2.1)
              | (go_at_call 34; (with_reducible refine (HL1.out _ (HOE.out.trans (Ext.drew _))).mono ?_); rintro e w3 ⟨A1, c1, rfl, hon1, hx⟩; have HO0 := Lib.hid hon1; have HX1 := Lib.hid hx; clear hon1 hx; obtain ⟨j0, j1, j2, j3, j4, j5⟩ := keepB HO.out.2.1 HO.out.2.2.1 ((Ext.drew _).trans HX1.out)))
          go_wp2_with (go_at_call 50; (with_reducible refine (rless_any A1 A2 x y c1 c2 _ HO1.out.rd HO2.out.rd (by omega)).mono ?_); rintro e w5 ⟨rfl, hx⟩; rw [HCF.out]; clear k0 k1 k2 k3 k4 k5 g2 r0 r1 r2; obtain ⟨k0, k1, k2, k3, k4, k5⟩ := keepB HO3.out.2.1 HO3.out.2.2.1 hx; have HOQ := Lib.hid (keepT HO3.out hx); have g2 := HOQ.out.2.2.2.2; obtain ⟨r0, r1, r2⟩ := HOQ.out.2.2.2.1; have HX4 := Lib.hid hx; clear hx)
          go_region_held3 (fun w' => w'.cell? ⟨w.heap.size, 0, none⟩ = some (.bool a.neg) ∧ w'.cell? ⟨w.heap.size, 1, none⟩ = some (.slice A' (len a.m) c') ∧ w'.cell? ⟨w.heap.size, 2, none⟩ = some (I a.den) ∧ w'.cell? ⟨w.heap.size + 1, 0, none⟩ = some (.bool b.neg) ∧ w'.cell? ⟨w.heap.size + 1, 1, none⟩ = some (.slice B' (len b.m) e') ∧ w'.cell? ⟨w.heap.size + 1, 2, none⟩ = some (I b.den)) (go_keep)
            (first
              | (go_at_call 51; (with_reducible refine (rminus_any A1 A2 x y c1 c2 _ (HO1.out.rd.ext (HX4.out.trans (Ext.drew _))) (HO2.out.rd.ext (HX4.out.trans (Ext.drew _))) (by omega) hle).mono ?_); rintro e w5 ⟨A5, c5, rfl, hon5, hx5⟩; have HO5 := Lib.hid hon5; have HT5 := Lib.hid (keepT HOQ.out ((Ext.drew _).trans hx5)); clear hon5; obtain ⟨q0, q1, q2, q3, q4, q5⟩ := keepB HOQ.out.2.1 HOQ.out.2.2.1 (w' := w5) ((Ext.drew _).trans hx5))
              | (go_at_call 31; (with_reducible refine (rnumber_at _ A5 c5 _ (x - y) _ HO5.out.rd HO5.out.ok (by have := len_mono (Nat.sub_le x y); omega) (by omega)).mono ?_); rw [HSS.out]; rintro e w6 ⟨A6, c6, rfl, hon6, hx6⟩; have HO6 := Lib.hid hon6; have HT6 := Lib.hid (keepT HT5.out hx6); clear hon6; obtain ⟨p0, p1, p2, p3, p4, p5⟩ := keepB HT5.out.2.1 HT5.out.2.2.1 (w' := w6) hx6; have gz := HT6.out.2.2.2.2; obtain ⟨z0, z1, z2⟩ := HT6.out.2.2.2.1))
          all_goals
            have hlt := HT5.out.2.2.2.lt
            go_wp2_with fail
            exact bodyPost_ret (v := dv d'.neg A6 (len d'.m) c6 d'.den) (by simp [results, Tryd.results36, go_sem, z0, z1, z2]) rfl (DyRes.end3 rfl HO6.out HT6.out.1 (by omega) (by omega) hlt)
        case inr =>
          have h3 := HA.out.wf.2.1
          have h4 := HB.out.wf.2.1
          have hDD : D = a.den := by (rw [if_neg (by omega)] at em; omega)
          have e7 : IntKind.i64.wrap ((a.den : Int) - (b.den : Int)) = (pb : Int) := by (rw [IntWalk.i64_in _ (by omega)]; omega)
          have e8 : IntKind.i64.wrap 0 = (pa : Int) := by (rw [IntWalk.i64_in _ (by omega)]; omega)
          clear em hpaI hpbI h3 h4
          subst hDD
          go_region_held3 (fun w' => w'.cell? ⟨w.heap.size, 0, none⟩ = some (.bool a.neg) ∧ w'.cell? ⟨w.heap.size, 1, none⟩ = some (.slice A' (len a.m) c') ∧ w'.cell? ⟨w.heap.size, 2, none⟩ = some (I a.den) ∧ w'.cell? ⟨w.heap.size + 1, 0, none⟩ = some (.bool b.neg) ∧ w'.cell? ⟨w.heap.size + 1, 1, none⟩ = some (.slice B' (len b.m) e') ∧ w'.cell? ⟨w.heap.size + 1, 2, none⟩ = some (I b.den)) (go_keep)
            (first
              | (have hg := HX1; clear hg; go_at_call 34; (with_reducible refine (HL2.out _ (HOE.out.trans ((Ext.drew _).trans HX1.out))).mono ?_); rintro e w4 ⟨A2, c2, rfl, hon2, hx⟩; have HO2 := Lib.hid hon2; have HX2 := Lib.hid (((Ext.drew _).trans HX1.out).trans hx); have HO1 := Lib.hid (HO0.out.ext hx); clear hon2 hx; obtain ⟨k0, k1, k2, k3, k4, k5⟩ := keepB HO.out.2.1 HO.out.2.2.1 HX2.out; have HO3 := Lib.hid (keepT HO.out HX2.out); have g2 := HO3.out.2.2.2.2; obtain ⟨r0, r1, r2⟩ := HO3.out.2.2.2.1)
              | (go_at_call 34; (with_reducible refine (HL1.out _ (HOE.out.trans (Ext.drew _))).mono ?_); rintro e w3 ⟨A1, c1, rfl, hon1, hx⟩; have HO0 := Lib.hid hon1; have HX1 := Lib.hid hx; clear hon1 hx; obtain ⟨j0, j1, j2, j3, j4, j5⟩ := keepB HO.out.2.1 HO.out.2.2.1 ((Ext.drew _).trans HX1.out)))
          go_wp2_with (go_at_call 50; (with_reducible refine (rless_any A1 A2 x y c1 c2 _ HO1.out.rd HO2.out.rd (by omega)).mono ?_); rintro e w5 ⟨rfl, hx⟩; rw [HCF.out]; clear k0 k1 k2 k3 k4 k5 g2 r0 r1 r2; obtain ⟨k0, k1, k2, k3, k4, k5⟩ := keepB HO3.out.2.1 HO3.out.2.2.1 hx; have HOQ := Lib.hid (keepT HO3.out hx); have g2 := HOQ.out.2.2.2.2; obtain ⟨r0, r1, r2⟩ := HOQ.out.2.2.2.1; have HX4 := Lib.hid hx; clear hx)
          go_region_held3 (fun w' => w'.cell? ⟨w.heap.size, 0, none⟩ = some (.bool a.neg) ∧ w'.cell? ⟨w.heap.size, 1, none⟩ = some (.slice A' (len a.m) c') ∧ w'.cell? ⟨w.heap.size, 2, none⟩ = some (I a.den) ∧ w'.cell? ⟨w.heap.size + 1, 0, none⟩ = some (.bool b.neg) ∧ w'.cell? ⟨w.heap.size + 1, 1, none⟩ = some (.slice B' (len b.m) e') ∧ w'.cell? ⟨w.heap.size + 1, 2, none⟩ = some (I b.den)) (go_keep)
            (first
              | (go_at_call 51; (with_reducible refine (rminus_any A1 A2 x y c1 c2 _ (HO1.out.rd.ext (HX4.out.trans (Ext.drew _))) (HO2.out.rd.ext (HX4.out.trans (Ext.drew _))) (by omega) hle).mono ?_); rintro e w5 ⟨A5, c5, rfl, hon5, hx5⟩; have HO5 := Lib.hid hon5; have HT5 := Lib.hid (keepT HOQ.out ((Ext.drew _).trans hx5)); clear hon5; obtain ⟨q0, q1, q2, q3, q4, q5⟩ := keepB HOQ.out.2.1 HOQ.out.2.2.1 (w' := w5) ((Ext.drew _).trans hx5))
              | (go_at_call 31; (with_reducible refine (rnumber_at _ A5 c5 _ (x - y) _ HO5.out.rd HO5.out.ok (by have := len_mono (Nat.sub_le x y); omega) (by omega)).mono ?_); rw [HSS.out]; rintro e w6 ⟨A6, c6, rfl, hon6, hx6⟩; have HO6 := Lib.hid hon6; have HT6 := Lib.hid (keepT HT5.out hx6); clear hon6; obtain ⟨p0, p1, p2, p3, p4, p5⟩ := keepB HT5.out.2.1 HT5.out.2.2.1 (w' := w6) hx6; have gz := HT6.out.2.2.2.2; obtain ⟨z0, z1, z2⟩ := HT6.out.2.2.2.1))
          all_goals
            have hlt := HT5.out.2.2.2.lt
            go_wp2_with fail
            exact bodyPost_ret (v := dv d'.neg A6 (len d'.m) c6 d'.den) (by simp [results, Tryd.results36, go_sem, z0, z1, z2]) rfl (DyRes.end3 rfl HO6.out HT6.out.1 (by omega) (by omega) hlt)
end

/-! ### Refj -/
section
/-! ### Refj -/
section
open Go.RowKit

set_option maxRecDepth 100000 in
set_option maxHeartbeats 1000000 in
theorem rsub_any {w : World} {na nb : Bool} {A A' B B' : Option Addr} {n c c' k e e' : Nat} {da db : Int} {a b : DV} (ha : Dy w na A n c da a A' c') (hb' : Dy w nb B k e db b B' e') :
    Calls Tryd.prog 22 #[dv na A n c da, dv nb B k e db] w (DyRes (subD a b) w) := by
  have HA := Lib.hid ha; have HB := Lib.hid hb'; clear ha hb'
  obtain ⟨X0, X1, X2, XE⟩ := three_boxes w (.bool na) (.slice A n c) (I da) (.bool nb) (.slice B k e) (I db) (.bool false) (.slice none 0 0) (I 0) 37 37 37
  have HX0 := Lib.hid X0; have HX1 := Lib.hid X1; have HX2 := Lib.hid X2; have HXE := Lib.hid XE
  clear X0 X1 X2 XE
  obtain ⟨k0, k1, k2, k3, k4, k5⟩ := keepB HX0.out HX1.out (Ext.refl _)
  obtain ⟨d', hd'⟩ : ∃ d', subD a b = d' := ⟨_, rfl⟩
  rw [hd']
  have HD' := Lib.hid hd'
  clear hd'
  have hln := len_negD b
  have hlb := HB.out.lim
  have hwn := Lib.hid (negD_ok b)
  have hn2 : ¬ w.heap.size + 1 + 1 = w.heap.size := by omega
  have hn3 : ¬ w.heap.size = w.heap.size + 1 + 1 := by omega
  go_enter Tryd.func22, Tryd.ntmps22
  go_upto_region 1 with fail
  go_region_held3 (fun w' => w'.cell? ⟨w.heap.size, 0, none⟩ = some (.bool na) ∧ w'.cell? ⟨w.heap.size, 1, none⟩ = some (.slice A n c) ∧ w'.cell? ⟨w.heap.size, 2, none⟩ = some (I da) ∧ w'.cell? ⟨w.heap.size + 1, 0, none⟩ = some (.bool nb) ∧ w'.cell? ⟨w.heap.size + 1, 1, none⟩ = some (.slice B k e) ∧ w'.cell? ⟨w.heap.size + 1, 2, none⟩ = some (I db)) (go_keep)
    (first
      | (go_at_call 37; refine (rneg_any (HB.out.ext (HXE.out.trans (Ext.drew _)))).mono ?_; rintro e w5 ⟨A5, c5, rfl, hon5, hx5⟩; obtain ⟨q0, q1, q2, q3, q4, q5⟩ := keepB HX0.out HX1.out (w' := w5) ((Ext.drew _).trans hx5); have HDN := Lib.hid (Dy.of_on hon5 hwn.out (by omega) (Ext.refl _)); clear hon5)
      | (go_at_call 36; refine (radd_any (HA.out.ext ((HXE.out.trans (Ext.drew _)).trans hx5)) HDN.out).mono ?_; rw [show addD a (negD b) = d' from HD'.out]; rintro e w6 ⟨A6, c6, rfl, hon6, hx6⟩; obtain ⟨p0, p1, p2, p3, p4, p5⟩ := keepB HX0.out HX1.out (w' := w6) (((Ext.drew _).trans hx5).trans hx6); have gz := (HX2.out.ext (w' := w6) (((Ext.drew _).trans hx5).trans hx6)).2; obtain ⟨z0, z1, z2⟩ := (HX2.out.ext (w' := w6) (((Ext.drew _).trans hx5).trans hx6)).1; have HO6 := Lib.hid hon6; clear hon6))
  all_goals
    have HXF := Lib.hid (((HXE.out.trans (Ext.drew _)).trans hx5).trans hx6)
    have hlt := (HX2.out.ext (w' := w5) ((Ext.drew _).trans hx5)).lt
    go_wp2_with fail
    exact bodyPost_ret (v := dv d'.neg A6 (len d'.m) c6 d'.den) (by simp [results, Tryd.results22, go_sem, z0, z1, z2]) rfl (DyRes.end3 rfl HO6.out HXF.out (by omega) (by omega) hlt)
end

/-! ### Refk -/
section
open Go.RowKit

set_option maxRecDepth 100000 in
set_option maxHeartbeats 1000000 in
theorem rdcmp_any {w : World} {na nb : Bool} {A A' B B' : Option Addr} {n c c' k e e' : Nat} {da db : Int} {a b : DV} (ha : Dy w na A n c da a A' c') (hb' : Dy w nb B k e db b B' e') (hl : len (subD a b).m ≤ 16777216) (hok : (subD a b).ok) :
    Calls Tryd.prog 12 #[dv na A n c da, dv nb B k e db] w fun e w' => e = .returned (I (cmpD a b)) ∧ Ext w w' := by
  have HA := Lib.hid ha; have HB := Lib.hid hb'; clear ha hb'
  have HL := Lib.hid hl; have HOK := Lib.hid hok; clear hl hok
  have HC : Hid (signD (subD a b) = cmpD a b) := by show _ = _; rfl
  obtain ⟨d, hd⟩ : ∃ d, subD a b = d := ⟨_, rfl⟩
  rw [hd] at HL HOK HC
  have HDE := Lib.hid hd
  clear hd
  go_enter Tryd.func12, Tryd.ntmps12
  go_wp2_with (first
    | (go_at_call 22; (with_reducible refine (rsub_any (HA.out.ext ((Ext.alloc _ _).trans (Ext.alloc _ _))) (HB.out.ext ((Ext.alloc _ _).trans (Ext.alloc _ _)))).mono ?_); rw [HDE.out]; rintro e w5 ⟨A5, c5, rfl, hon, hx⟩; have HD5 := Lib.hid (Dy.of_on hon HOK.out HL.out (Ext.refl _)); have HX5 : Hid (Ext w w5) := ((Ext.alloc _ _).trans (Ext.alloc _ _)).trans hx; clear hon hx)
    | (go_at_call 21; (with_reducible refine (rsign_any HD5.out).mono ?_); rintro e w6 ⟨rfl, hx⟩; rw [HC.out]; have HX6 := Lib.hid (HX5.out.trans hx); clear hx))
  go_ret
  exact ⟨rfl, HX6.out⟩
end

/-! ### Refl -/
section
open Go.RowKit

theorem q_zero : DV.zero.q = 0 := qOf_zero _ _
theorem add_zero_D {a : DV} (h : a.ok) : addD a DV.zero = a := DV.uniq (addD_ok _ _) h (by rw [q_addD h DV.zero_ok, q_zero]; grind)

end
end

end Go.Proofs.YtkocmdpfknoiaaaDoor
