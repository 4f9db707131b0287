/- Contracts of package arctan: the angle. -/
import Derived.Test.YtecpkggnjajppaaDoorArcd
import Derived.Test.YtecpkggnjajppaaDoorSinf
namespace Go.Proofs.YtecpkggnjajppaaDoor
open Go.RowKit

set_option maxRecDepth 100000 in
set_option maxHeartbeats 1000000 in
theorem fang_any (x y : Int) (w : World) (hT : TabS w) (hx : 0 < x ∧ x ≤ 1099511627776) (hy : 0 ≤ y ∧ y ≤ 1099511627776) : Calls Tryd.prog 25 #[I x, I y] w fun e w' => e = .returned (I (fa x y)) ∧ Ext w w' := by
  obtain ⟨f0, f1⟩ := fa_bd x y
  have HB := Lib.hid (fun i w hT bx by' => behind_any x y i w hT bx by' hx hy)
  have HT := Lib.hid hT; clear hT
  generalize fa x y = F at *
  go_enter Tryd.func25, Tryd.ntmps25
  go_wp2_with fail
  go_at_call 36
  refine (search_any F _ _ f0 f1 ?_).mono ?_
  · intro i w' h0 h1 hE
    have hz := hE.size
    simp at hz
    have ho := hE.old.1
    refine HB.out i w' (HT.out.ext (((Ext.alloc _ _).trans (Ext.alloc _ _)).trans hE)) _ _ h0 h1 (by omega) (by omega) ?_ ?_
    · rw [ho _ _ (by simp; omega)]; go_simp
    · rw [ho _ _ (by simp)]; go_simp
  · rintro e w1 ⟨rfl, hb⟩
    replace hb := ((Ext.alloc w _).trans (Ext.alloc _ _)).trans hb
    go_wp2_with fail
    go_ret
    exact ⟨rfl, hb⟩

theorem ang_eq (x y : Int) : ang x y = qd (vx x y) (vy x y) * 16384 + fa (qx (qd (vx x y) (vy x y)) (vx x y) (vy x y)) (qy (qd (vx x y) (vy x y)) (vx x y) (vy x y)) := by
  show ang0 _ _ = _; unfold ang0; rw [Int.mul_comm]
theorem q_facts {x y : Int} (hx : In63 x) (hy : In63 y) : (0 < qx (qd (vx x y) (vy x y)) (vx x y) (vy x y) ∧ qx (qd (vx x y) (vy x y)) (vx x y) (vy x y) ≤ 1099511627776) ∧ (0 ≤ qy (qd (vx x y) (vy x y)) (vx x y) (vy x y) ∧ qy (qd (vx x y) (vy x y)) (vx x y) (vy x y) ≤ 1099511627776) := by
  obtain ⟨b1, b2⟩ := v_bd hx hy
  have p := qd_pos (v_ne (x := x) (y := y))
  have b := q_bd (q := qd (vx x y) (vy x y)) b1 b2
  exact ⟨⟨p.1, b.1.2⟩, p.2, b.2.2⟩

set_option maxRecDepth 100000 in
set_option maxHeartbeats 1000000 in
theorem ang_any (x y : Int) (w : World) (hT : TabS w) (hx : In63 x) (hy : In63 y) : Calls Tryd.prog 13 #[I x, I y] w fun e w' => e = .returned (I (ang x y)) ∧ Ext w w' := by
  have HQ := Lib.hid (fun w => quarter_any x y w hx hy)
  have HV := Lib.hid (ang_eq x y)
  obtain ⟨g1, g2⟩ := q_facts hx hy
  have HG1 := Lib.hid g1; clear g1
  have HG2 := Lib.hid g2; clear g2
  obtain ⟨q0, q1⟩ := qd_bd (vx x y) (vy x y)
  have HT := Lib.hid hT; clear hT
  clear hx hy
  generalize qx (qd (vx x y) (vy x y)) (vx x y) (vy x y) = X at *
  generalize qy (qd (vx x y) (vy x y)) (vx x y) (vy x y) = Y at *
  generalize qd (vx x y) (vy x y) = p at *
  obtain ⟨f0, f1⟩ := fa_bd X Y
  go_enter Tryd.func13, Tryd.ntmps13
  go_wp2_with (first
    | (go_at_call 24; refine (HQ.out _).mono ?_; rintro e w1 ⟨rfl, hb⟩; obtain ⟨hc1, hf1⟩ := hb.old)
    | (go_at_call 25; refine (fang_any X Y _ (HT.out.ext hb) HG1.out HG2.out).mono ?_; rintro e w2 ⟨rfl, hb2⟩; replace hb := Ext.trans hb hb2; clear hb2))
  go_ret
  exact ⟨by rw [HV.out]; rfl, (by repeat (first | exact Ext.refl _ | assumption | exact Ext.alloc _ _ | refine Ext.trans ?_ (by assumption) | refine Ext.trans ?_ (Ext.alloc _ _) | refine Ext.trans ?_ (Ext.drewN _ _) | refine Ext.trans ?_ (Ext.drew _)))⟩

set_option maxHeartbeats 400000 in
theorem diff_any (a b : Int) (w : World) : Calls Tryd.prog 28 #[I a, I b] w fun e w' => e = .returned (I (dff a b)) ∧ Ext w w' := by
  have H : Hid (nrm (wrap64 (wrap64 (a - b) + 32768)) - 32768 = dff a b) := by show nrm (wrap64 (wrap64 (a - b) + 32768)) - 32768 = dff a b; rw [nrm_wrap]; exact nrm_dff a b
  obtain ⟨h1, h2⟩ := nrm_bd (wrap64 (wrap64 (a - b) + 32768))
  go_enter Tryd.func28, Tryd.ntmps28
  go_wp2_with (first | (go_at_call 32; refine (norm_any _ _).mono ?_; rintro e w1 ⟨rfl, hb1⟩; (first | replace hb := Ext.trans hb hb1 | replace hb := Ext.trans (Ext.trans hb (Ext.drewN _ _)) hb1 | replace hb := Ext.trans (Ext.trans hb (Ext.alloc _ _)) hb1 | have hb := hb1); clear hb1; obtain ⟨hc1, hf1⟩ := hb.old))
  go_ret
  exact ⟨by rw [← H.out]; rfl, (by repeat (first | exact Ext.refl _ | assumption | exact Ext.alloc _ _ | refine Ext.trans ?_ (by assumption) | refine Ext.trans ?_ (Ext.alloc _ _) | refine Ext.trans ?_ (Ext.drewN _ _) | refine Ext.trans ?_ (Ext.drew _)))⟩

set_option maxHeartbeats 400000 in
theorem rdiff_any (a b : Int) (w : World) : Calls Tryd.prog 23 #[I a, I b] w fun e w' => e = .returned (I (dff a b)) ∧ Ext w w' := by
  have H := Lib.hid (dff_ref a b)
  obtain ⟨h1, h2⟩ := nrm_bd a
  obtain ⟨h3, h4⟩ := nrm_bd b
  go_enter Tryd.func23, Tryd.ntmps23
  go_wp2_with (first | (go_at_call 20; refine (rnorm_any _ _).mono ?_; rintro e w1 ⟨rfl, hb1⟩; (first | replace hb := Ext.trans hb hb1 | replace hb := Ext.trans (Ext.trans hb (Ext.drewN _ _)) hb1 | replace hb := Ext.trans (Ext.trans hb (Ext.alloc _ _)) hb1 | have hb := hb1); clear hb1; obtain ⟨hc1, hf1⟩ := hb.old))
  go_ret
  exact ⟨by rw [← H.out]; rfl, (by repeat (first | exact Ext.refl _ | assumption | exact Ext.alloc _ _ | refine Ext.trans ?_ (by assumption) | refine Ext.trans ?_ (Ext.alloc _ _) | refine Ext.trans ?_ (Ext.drewN _ _) | refine Ext.trans ?_ (Ext.drew _)))⟩

set_option maxRecDepth 100000 in
set_option maxHeartbeats 1000000 in
theorem turn_any (x y u v : Int) (w : World) (hT : TabS w) (hx : In63 x) (hy : In63 y) (hu : In63 u) (hv : In63 v) : Calls Tryd.prog 15 #[I x, I y, I u, I v] w fun e w' => e = .returned (I (dff (ang x y) (ang u v))) ∧ Ext w w' := by
  have HA := Lib.hid (fun w hT => ang_any x y w hT hx hy)
  have HB := Lib.hid (fun w hT => ang_any u v w hT hu hv)
  have HT := Lib.hid hT; clear hT
  generalize ang x y = a at *
  generalize ang u v = b at *
  go_enter Tryd.func15, Tryd.ntmps15
  go_wp2_with (first
    | (go_at_call 13; (first | (with_reducible refine (HA.out _ HT.out).mono ?_) | (with_reducible refine (HB.out _ (HT.out.ext hb)).mono ?_)); rintro e w1 ⟨rfl, hb1⟩; (first | replace hb := Ext.trans hb hb1 | have hb := hb1); clear hb1)
    | (go_at_call 28; refine (diff_any _ _ _).mono ?_; rintro e w1 ⟨rfl, hb1⟩; (first | replace hb := Ext.trans hb hb1 | replace hb := Ext.trans (Ext.trans hb (Ext.drewN _ _)) hb1 | replace hb := Ext.trans (Ext.trans hb (Ext.alloc _ _)) hb1 | have hb := hb1); clear hb1; obtain ⟨hc1, hf1⟩ := hb.old))
  go_ret
  exact ⟨rfl, (by repeat (first | exact Ext.refl _ | assumption | exact Ext.alloc _ _ | refine Ext.trans ?_ (by assumption) | refine Ext.trans ?_ (Ext.alloc _ _) | refine Ext.trans ?_ (Ext.drewN _ _) | refine Ext.trans ?_ (Ext.drew _)))⟩

/-! The reference. -/
set_option maxRecDepth 100000 in
set_option maxHeartbeats 1000000 in
theorem rang_any (x y : Int) (w : World) (hx : In63 x) (hy : In63 y) : Calls Tryd.prog 14 #[I x, I y] w fun e w' => e = .returned (I (ang x y)) ∧ Ext w w' := by
  have HQ := Lib.hid (fun w => rsmall_any x y w hx hy)
  have HV := Lib.hid (ang_eq x y)
  obtain ⟨g1, g2⟩ := q_facts hx hy
  obtain ⟨b1, b2⟩ := v_bd hx hy
  have hne := v_ne (x := x) (y := y)
  clear hx hy
  generalize vx x y = u at *
  generalize vy x y = v at *
  obtain ⟨q0, q1⟩ := qd_bd u v
  have HR := Lib.hid (fun w => rquarter_any u v w hne)
  have HB : Hid (∀ q, (-1099511627776 ≤ qx q u v ∧ qx q u v ≤ 1099511627776) ∧ -1099511627776 ≤ qy q u v ∧ qy q u v ≤ 1099511627776) := fun q => q_bd b1 b2
  have HZ : Hid (u = qx 0 u v ∧ v = qy 0 u v) := ⟨rfl, rfl⟩
  have HF := Lib.hid (fun (r : Int) => fa_iff (r := r) g1.1 g2.1)
  have HG := Lib.hid (And.intro g1 g2)
  have fb := fa_bd (qx (qd u v) u v) (qy (qd u v) u v)
  have HO := Lib.hid fb; clear fb
  clear hne g1 g2
  generalize qd u v = p at *
  go_enter Tryd.func14, Tryd.ntmps14
  go_wp2_with (first
    | (go_at_call 26; refine (HQ.out _).mono ?_; rintro e w1 ⟨rfl, hb⟩; obtain ⟨hc1, hf1⟩ := hb.old)
    | (go_at_call 27; refine (HR.out _).mono ?_; rintro e w2 ⟨rfl, hb2⟩; replace hb := Ext.trans hb hb2; clear hb2))
  have HE := Lib.hid hb
  clear hb hc1 hf1 HQ HR
  go_loopw [0, 1, 21] (fun a b c wr => w2 = wr ∧ ∃ q : Int, 0 ≤ q ∧ q ≤ p ∧ a = I (qx q u v) ∧ b = I (qy q u v) ∧ c = I q) (fun _ _ c _ => (p - intOf c).toNat)
  case atStart => exact ⟨rfl, 0, by omega, by omega, by rw [← HZ.out.1], by rw [← HZ.out.2], rfl⟩
  case round =>
    obtain ⟨rfl, q, h0, h1, rfl, rfl, rfl⟩ := hrel
    by_cases h : q < p
    · obtain ⟨⟨c1, c2⟩, c3, c4⟩ := HB.out q
      have HQ := Lib.hid (qx_step (q := q) (x := u) (y := v) h0 (by omega))
      generalize qx q u v = X at *
      generalize qy q u v = Y at *
      go_wp2_with fail
      go_roundw
      case rel => exact ⟨trivial, q + 1, by omega, by omega, by rw [HQ.out.1], by rw [HQ.out.2], by go_num⟩
      case measure => simp [intOf]; omega
    · obtain rfl : q = p := by omega
      have hg := HG.out
      have ho := HO.out
      generalize qx q u v = X at *
      generalize qy q u v = Y at *
      generalize fa X Y = F at *
      go_wp2_with fail
      go_loopw [6, 7] (fun a b wr => Ext w2 wr ∧ ∃ i j : Int, a = I i ∧ b = I j ∧ 0 ≤ i ∧ i ≤ F ∧ F < j ∧ j ≤ 16384) (fun a b _ => (intOf b - intOf a).toNat)
      case atStart => exact ⟨Ext.refl _, 0, 16384, rfl, rfl, by omega, by omega, by omega, by omega⟩
      case round =>
        obtain ⟨hb, i, j, rfl, rfl, i0, i1, j0, j1⟩ := hrel
        by_cases h2 : 1 < j - i
        · have HM := Lib.hid (rboth_any ((i + j) / 2))
          have hf := HF.out ((i + j) / 2) (by omega) (by omega)
          have p1 := prd_bd (cs_bd ((i + j) / 2)) hg.2
          have p2 := prd_bd (sn_bd ((i + j) / 2)) ⟨Int.le_of_lt hg.1.1, hg.1.2⟩
          have hij : 0 ≤ i + j := by omega
          generalize cs ((i + j) / 2) = c at *
          generalize sn ((i + j) / 2) = s at *
          obtain ⟨P, hP⟩ : ∃ P, c * Y = P := ⟨_, rfl⟩
          obtain ⟨Q, hQ⟩ : ∃ Q, s * X = Q := ⟨_, rfl⟩
          rw [hP, hQ] at hf; rw [hP] at p1; rw [hQ] at p2
          by_cases h3 : (i + j) / 2 ≤ F
          · have h4 := hf.mpr h3
            clear hf
            go_wp2_with (go_at_call 22; refine (HM.out _).mono ?_; rintro e w3 ⟨rfl, hb1⟩; replace hb := Ext.trans hb hb1; clear hb1)
            go_roundw
            case rel => exact ⟨hb, (i + j) / 2, j, by go_num, rfl, by omega, by omega, by omega, by omega⟩
            case measure => simp [intOf]; omega
          · have h4 : P < Q := by
              rcases (show P < Q ∨ Q ≤ P by omega) with k | k
              · exact k
              · exact absurd (hf.mp k) h3
            clear hf
            go_wp2_with (go_at_call 22; refine (HM.out _).mono ?_; rintro e w3 ⟨rfl, hb1⟩; replace hb := Ext.trans hb hb1; clear hb1)
            go_roundw
            case rel => exact ⟨hb, i, (i + j) / 2, rfl, by go_num, by omega, by omega, by omega, by omega⟩
            case measure => simp [intOf]; omega
        · obtain rfl : i = F := by omega
          go_wp2_with fail
          go_ret
          exact ⟨by rw [HV.out, Int.mul_comm]; rfl, HE.out.trans hb⟩

theorem rturn_any (x y u v : Int) (w : World) (hx : In63 x) (hy : In63 y) (hu : In63 u) (hv : In63 v) : Calls Tryd.prog 16 #[I x, I y, I u, I v] w fun e w' => e = .returned (I (dff (ang x y) (ang u v))) ∧ Ext w w' := by
  have HA := Lib.hid (fun w => rang_any x y w hx hy)
  have HB := Lib.hid (fun w => rang_any u v w hu hv)
  generalize ang x y = a at *
  generalize ang u v = b at *
  go_enter Tryd.func16, Tryd.ntmps16
  go_wp2_with (first
    | (go_at_call 14; (first | (with_reducible refine (HA.out _).mono ?_) | (with_reducible refine (HB.out _).mono ?_)); rintro e w1 ⟨rfl, hb1⟩; (first | replace hb := Ext.trans hb hb1 | have hb := hb1); clear hb1)
    | (go_at_call 23; refine (rdiff_any _ _ _).mono ?_; rintro e w1 ⟨rfl, hb1⟩; (first | replace hb := Ext.trans hb hb1 | replace hb := Ext.trans (Ext.trans hb (Ext.drewN _ _)) hb1 | replace hb := Ext.trans (Ext.trans hb (Ext.alloc _ _)) hb1 | have hb := hb1); clear hb1; obtain ⟨hc1, hf1⟩ := hb.old))
  go_ret
  exact ⟨rfl, (by repeat (first | exact Ext.refl _ | assumption | exact Ext.alloc _ _ | refine Ext.trans ?_ (by assumption) | refine Ext.trans ?_ (Ext.alloc _ _) | refine Ext.trans ?_ (Ext.drewN _ _) | refine Ext.trans ?_ (Ext.drew _)))⟩
end Go.Proofs.YtecpkggnjajppaaDoor
