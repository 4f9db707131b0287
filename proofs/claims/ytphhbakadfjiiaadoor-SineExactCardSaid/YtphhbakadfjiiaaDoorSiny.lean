/- The reference's Exact, and the law SineExact. -/
import Derived.Test.YtphhbakadfjiiaaDoorSinb
import Derived.Test.YtphhbakadfjiiaaDoorSinx
namespace Go.Proofs.YtphhbakadfjiiaaDoor
open Go.RowKit

theorem exT_wrap {x t n : Int} (ht : -2147483648 ≤ t ∧ t ≤ 2147483648) (hx : 0 ≤ x ∧ x ≤ 2147483648) (hn : 1 ≤ n) :
    wrap64 ((wrap64 (wrap64 (-(t * x / 1073741824).tdiv (n + 1)) * x) / 1073741824).tdiv (n + 2)) = exT x t n := by
  obtain ⟨-, u, v, e⟩ := exT_bd ht hx hn
  unfold exT at *
  rw [Int.neg_tdiv] at u v e ⊢
  rw [wrap_id (n := -(t * x / 1073741824).tdiv (n + 1)) (by omega) (by omega), wrap_id (n := -(t * x / 1073741824).tdiv (n + 1) * x) (by omega) (by omega), wrap_id (by omega) (by omega)]

set_option maxRecDepth 100000 in
set_option maxHeartbeats 1000000 in
theorem exact_any (a : Int) (w : World) (h0 : 0 ≤ a) (h1 : a ≤ 16384) : Calls Tryd.prog 20 #[I a] w fun e w' => e = .returned (I (exS a)) ∧ Ext w w' := by
  have HE := Lib.hid (ex_fact h0 h1).1
  obtain ⟨x, hx⟩ : ∃ x, exX a = x := ⟨_, rfl⟩
  have bx := exX_bd h0 h1
  have HV : Hid (exS a = (exJ x 8).1) := by show exS a = _; rw [← hx]; rfl
  rw [hx] at HE bx
  have HX : Hid (a * 3373259426 / 32768 = x) := hx
  clear hx
  have HB := Lib.hid bx
  obtain ⟨x0, x1⟩ := bx
  go_enter Tryd.func20, Tryd.ntmps20
  go_wp2
  rw [HX.out]
  go_loop [4, 5, 6] (fun s t n => ∃ j : Nat, j ≤ 8 ∧ s = I (exJ x j).1 ∧ t = I (exJ x j).2 ∧ n = I (2 * (j : Int) + 1)) (fun _ _ n => (17 - intOf n).toNat)
  case atStart => exact ⟨0, by omega, rfl, rfl, rfl⟩
  case round =>
    obtain ⟨j, hj, rfl, rfl, rfl⟩ := hrel
    obtain ⟨tb, sb1, sb2⟩ := exJ_bd HB.out j
    by_cases h : (exJ x j).2 = 0
    · have HR : Hid (exJ x 8 = ((exJ x j).1, 0)) := by have := exJ_stay x h (8 - j); rwa [show j + (8 - j) = 8 by omega] at this
      go_wp2
      go_ret
      exact ⟨by rw [HV.out, HR.out]; rfl, (by repeat (first | exact Ext.refl _ | assumption | exact Ext.alloc _ _ | refine Ext.trans ?_ (by assumption) | refine Ext.trans ?_ (Ext.alloc _ _) | refine Ext.trans ?_ (Ext.drewN _ _) | refine Ext.trans ?_ (Ext.drew _)))⟩
    · have hj8 : j ≠ 8 := fun e => h (by rw [e]; exact HE.out)
      have hb := exT_bd (n := 2 * (j : Int) + 1) tb HB.out (by omega)
      obtain ⟨⟨p1, p2⟩, ⟨u1, u2⟩, ⟨v1, v2⟩, t1, t2⟩ := hb
      have HW := Lib.hid (exT_wrap (n := 2 * (j : Int) + 1) tb HB.out (by omega))
      have HN : Hid (exJ x (j + 1) = ((exJ x j).1 + (exJ x j).2, exT x (exJ x j).2 (2 * j + 1))) := Lib.hid rfl
      obtain ⟨tb1, tb2⟩ := tb
      generalize (exJ x j).2 = t at *
      generalize (exJ x j).1 = s at *
      go_wp2
      go_round
      case rel => exact ⟨j + 1, by omega, by rw [HN.out], by rw [HN.out]; exact congrArg _ HW.out, by go_num⟩
      case measure => simp [intOf]; omega

theorem exact_is (a v : Int) (w : World) (h0 : 0 ≤ a) (h1 : a ≤ 16384) (h : exS a = v) : Calls Tryd.prog 20 #[I a] w fun e w' => e = .returned (I v) ∧ Ext w w' := by
  subst h; exact exact_any a w h0 h1

/-- The sine of an angle, by the angle's place in the first quarter. -/
theorem quarter_of (a : Int) : ∃ r, 0 ≤ r ∧ r ≤ 16384 ∧ (if nrm a / 16384 % 2 = 1 then 16384 - nrm a % 16384 else nrm a % 16384) = r ∧ (if 32768 ≤ nrm a then -sn a else sn a) = qs r := by
  obtain ⟨q, r, q0, q1, r0, r1, h⟩ := rep_ex a
  have e := (rep_cs q0 q1 r0 (by omega) h).2
  have hq : nrm a / 16384 = q := by unfold nrm; omega
  have hr : nrm a % 16384 = r := by unfold nrm; omega
  rw [e, hq, hr]
  obtain rfl | rfl | rfl | rfl : q = 0 ∨ q = 1 ∨ q = 2 ∨ q = 3 := by omega
  · exact ⟨r, by omega, by omega, by simp, by rw [if_neg (by omega)]; simp [sinq]⟩
  · exact ⟨16384 - r, by omega, by omega, by simp, by rw [if_neg (by omega)]; simp [sinq]⟩
  · exact ⟨r, by omega, by omega, by simp, by rw [if_pos (by omega)]; simp [sinq]⟩
  · exact ⟨16384 - r, by omega, by omega, by simp, by rw [if_pos (by omega)]; simp [sinq]⟩

set_option maxRecDepth 100000 in
set_option maxHeartbeats 1000000 in
theorem exlaw_of (a s : Int) (w : World) (hT : TabS w) (hs : sn a = s) : Calls Tryd.prog 6 #[I a] w fun e w' => e = .returned (.bool true) ∧ Ext w w' := by
  obtain ⟨r, r0, r1, e1, e2⟩ := quarter_of a
  obtain ⟨v, hv⟩ : ∃ v, exS r = v := ⟨_, rfl⟩
  have f := (ex_fact r0 r1).2
  obtain ⟨s0, s1⟩ := qs_bd r0 r1
  rw [show (exJ (exX r) 8).1 = v from hv] at f
  obtain ⟨f1, f2⟩ := f
  obtain ⟨c1, c2⟩ := sn_bd a
  obtain ⟨n0, n1, -, -⟩ := q_of a
  rw [hs] at e2 c1 c2
  rw [← e2] at f1 f2 s0 s1
  have HT := Lib.hid hT; clear hT
  have HV := Lib.hid hv; clear hv
  have HS := Lib.hid hs; clear hs
  have HR : Hid (0 ≤ r ∧ r ≤ 16384) := ⟨r0, r1⟩
  clear e2
  by_cases hq : nrm a / 16384 % 2 = 1
  all_goals
    by_cases hn : 32768 ≤ nrm a
    all_goals
      simp only [hq, hn, if_true, if_false] at e1 f1 f2 s0 s1
      have E1 := Lib.hid e1; clear e1
      go_enter Tryd.func6, Tryd.ntmps6
      go_wp2_with (first
        | (go_at_call 11; refine (awake_any _ HT.out).mono ?_; rintro e w1 ⟨rfl, hb1⟩; (first | replace hb := Ext.trans hb hb1 | replace hb := Ext.trans (Ext.trans hb (Ext.drewN _ _)) hb1 | replace hb := Ext.trans (Ext.trans hb (Ext.alloc _ _)) hb1 | have hb := hb1); clear hb1; obtain ⟨hc1, hf1⟩ := hb.old)
        | (go_at_call 19; refine (rnorm_any _ _).mono ?_; rintro e w1 ⟨rfl, hb1⟩; (first | replace hb := Ext.trans hb hb1 | replace hb := Ext.trans (Ext.trans hb (Ext.drewN _ _)) hb1 | replace hb := Ext.trans (Ext.trans hb (Ext.alloc _ _)) hb1 | have hb := hb1); clear hb1; obtain ⟨hc1, hf1⟩ := hb.old)
        | (go_at_call 20; rw [E1.out]; refine (exact_is r v _ HR.out.1 HR.out.2 HV.out).mono ?_; rintro e w1 ⟨rfl, hb1⟩; replace hb := Ext.trans hb hb1; clear hb1; obtain ⟨hc1, hf1⟩ := hb.old)
        | (go_at_call 15; refine (sin_is a s _ (HT.out.ext (by repeat (first | exact Ext.refl _ | assumption | exact Ext.alloc _ _ | refine Ext.trans ?_ (by assumption) | refine Ext.trans ?_ (Ext.alloc _ _) | refine Ext.trans ?_ (Ext.drewN _ _) | refine Ext.trans ?_ (Ext.drew _)))) HS.out).mono ?_; rintro e w1 ⟨rfl, hb1⟩; (first | replace hb := Ext.trans hb hb1 | replace hb := Ext.trans (Ext.trans hb (Ext.drewN _ _)) hb1 | replace hb := Ext.trans (Ext.trans hb (Ext.alloc _ _)) hb1 | have hb := hb1); clear hb1; obtain ⟨hc1, hf1⟩ := hb.old))
      go_ret
      exact ⟨rfl, (by repeat (first | exact Ext.refl _ | assumption | exact Ext.alloc _ _ | refine Ext.trans ?_ (by assumption) | refine Ext.trans ?_ (Ext.alloc _ _) | refine Ext.trans ?_ (Ext.drewN _ _) | refine Ext.trans ?_ (Ext.drew _)))⟩
theorem exact_law (a : Int) (w : World) (hT : TabS w) : Calls Tryd.prog 6 #[I a] w fun e w' => e = .returned (.bool true) ∧ Ext w w' := exlaw_of a _ w hT rfl
end Go.Proofs.YtphhbakadfjiiaaDoor
