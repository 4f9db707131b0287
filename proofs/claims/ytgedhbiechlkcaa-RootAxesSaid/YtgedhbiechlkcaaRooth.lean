/- The laws of package root: squares, circles, axes. -/
import Derived.Test.YtgedhbiechlkcaaRootg
namespace Go.Proofs.Ytgedhbiechlkcaa
open Go.RowKit

set_option maxRecDepth 100000 in
set_option maxHeartbeats 1000000 in
theorem squares_law (n more : Int) (w : World) (hm : 0 ≤ more ∧ more ≤ 4294967295) : Calls Try.prog 7 #[I n, .int .u32 more] w fun e w' => e = .returned (.bool true) ∧ Ext w w' := by
  obtain ⟨m0, m1⟩ := hm
  obtain ⟨k0, k1⟩ := clp_bd n (lo := 0) (hi := 4611686018427387904) (by omega)
  have HC := Lib.hid (fun w => clip_any n 0 4611686018427387904 w (by omega))
  generalize clp n 0 4611686018427387904 = k at *
  have H1 := Lib.hid (fun w => sqrt_any k w (by omega))
  have H2 := Lib.hid (fun w => up_any k w (by omega))
  have H3 := Lib.hid (fun w => sqrt_any (k + more) w (by omega))
  obtain ⟨r0, r1, r2⟩ := rt_sp (n := k) k0 (by omega)
  have hmo := rt_mono (a := k) (b := k + more) (by omega) (by omega)
  obtain ⟨_, n1⟩ := rt_bd (n := k + more) (by omega)
  have hy := fun h => up_yes (n := k) h
  have hn := fun h => up_no (n := k) h
  generalize rt (k + more) = next at *
  generalize rt k = r at *
  generalize up k = u at *
  have r3 : r ≤ 2147483648 := (le_sq (b := 2147483648) (by omega) (by omega)).2
  have p0 : 0 ≤ r * r := Int.mul_nonneg r0 r0
  have p1 : (r + 1) * (r + 1) ≤ 2147483649 * 2147483649 := sq_le (by omega) (by omega)
  by_cases hc : r * r < k
  · obtain rfl := hy hc
    clear hy hn
    have hne : ¬ r * r = k := by omega
    have hne2 : ¬ r + 1 = r := by omega
    go_enter Try.func7, Try.ntmps7
    go_wp2_with (first
      | (go_at_call 11; refine (awake_any _).mono ?_; rintro e w1 ⟨rfl, hb1⟩; (first | replace hb := Ext.trans hb hb1 | replace hb := Ext.trans (Ext.trans hb (Ext.drewN _ _)) hb1 | replace hb := Ext.trans (Ext.trans hb (Ext.alloc _ _)) hb1 | have hb := hb1); clear hb1; obtain ⟨hc1, hf1⟩ := hb.old)
      | (go_at_call 27; refine (HC.out _).mono ?_; rintro e w1 ⟨rfl, hb1⟩; (first | replace hb := Ext.trans hb hb1 | replace hb := Ext.trans (Ext.trans hb (Ext.drewN _ _)) hb1 | replace hb := Ext.trans (Ext.trans hb (Ext.alloc _ _)) hb1 | have hb := hb1); clear hb1; obtain ⟨hc1, hf1⟩ := hb.old)
      | (go_at_call 12; (first | (with_reducible refine (H1.out _).mono ?_) | (with_reducible refine (H3.out _).mono ?_)); rintro e w1 ⟨rfl, hb1⟩; replace hb := Ext.trans hb hb1; clear hb1)
      | (go_at_call 14; refine (H2.out _).mono ?_; rintro e w1 ⟨rfl, hb1⟩; (first | replace hb := Ext.trans hb hb1 | replace hb := Ext.trans (Ext.trans hb (Ext.drewN _ _)) hb1 | replace hb := Ext.trans (Ext.trans hb (Ext.alloc _ _)) hb1 | have hb := hb1); clear hb1; obtain ⟨hc1, hf1⟩ := hb.old))
    all_goals (go_ret; exact ⟨by simp [beq_false_of_ne hne, beq_false_of_ne hne2], (by repeat (first | exact Ext.refl _ | assumption | exact Ext.alloc _ _ | refine Ext.trans ?_ (by assumption) | refine Ext.trans ?_ (Ext.alloc _ _) | refine Ext.trans ?_ (Ext.drewN _ _) | refine Ext.trans ?_ (Ext.drew _)))⟩)
  · obtain rfl := hn hc
    clear hy hn
    have hne : u * u = k := by omega
    subst hne
    go_enter Try.func7, Try.ntmps7
    go_wp2_with (first
      | (go_at_call 11; refine (awake_any _).mono ?_; rintro e w1 ⟨rfl, hb1⟩; (first | replace hb := Ext.trans hb hb1 | replace hb := Ext.trans (Ext.trans hb (Ext.drewN _ _)) hb1 | replace hb := Ext.trans (Ext.trans hb (Ext.alloc _ _)) hb1 | have hb := hb1); clear hb1; obtain ⟨hc1, hf1⟩ := hb.old)
      | (go_at_call 27; refine (HC.out _).mono ?_; rintro e w1 ⟨rfl, hb1⟩; (first | replace hb := Ext.trans hb hb1 | replace hb := Ext.trans (Ext.trans hb (Ext.drewN _ _)) hb1 | replace hb := Ext.trans (Ext.trans hb (Ext.alloc _ _)) hb1 | have hb := hb1); clear hb1; obtain ⟨hc1, hf1⟩ := hb.old)
      | (go_at_call 12; (first | (with_reducible refine (H1.out _).mono ?_) | (with_reducible refine (H3.out _).mono ?_)); rintro e w1 ⟨rfl, hb1⟩; replace hb := Ext.trans hb hb1; clear hb1)
      | (go_at_call 14; refine (H2.out _).mono ?_; rintro e w1 ⟨rfl, hb1⟩; (first | replace hb := Ext.trans hb hb1 | replace hb := Ext.trans (Ext.trans hb (Ext.drewN _ _)) hb1 | replace hb := Ext.trans (Ext.trans hb (Ext.alloc _ _)) hb1 | have hb := hb1); clear hb1; obtain ⟨hc1, hf1⟩ := hb.old))
    all_goals (go_ret; exact ⟨by simp, (by repeat (first | exact Ext.refl _ | assumption | exact Ext.alloc _ _ | refine Ext.trans ?_ (by assumption) | refine Ext.trans ?_ (Ext.alloc _ _) | refine Ext.trans ?_ (Ext.drewN _ _) | refine Ext.trans ?_ (Ext.drew _)))⟩)

set_option maxRecDepth 100000 in
set_option maxHeartbeats 1000000 in
theorem axes_law (m d : Int) (w : World) : Calls Try.prog 9 #[I m, I d] w fun e w' => e = .returned (.bool true) ∧ Ext w w' := by
  obtain ⟨m0, m1⟩ := clp_bd m (lo := 0) (hi := 1073741824) (by omega)
  have HC := Lib.hid (fun w => clip_any m 0 1073741824 w (by omega))
  generalize clp m 0 1073741824 = k at *
  obtain ⟨d0, d1⟩ := clp_bd d (lo := -k) (hi := k) (by omega)
  have HD := Lib.hid (fun w => clip_any d (-k) k w (by omega))
  generalize clp d (-k) k = c at *
  have o1 : okS k := by unfold okS; omega
  have o2 : okS c := by unfold okS; omega
  have HR := Lib.hid (fun w => rest_is (rst_ok ⟨o1, o2⟩ (by omega)) w)
  obtain ⟨x0, x1⟩ := sq_bd o1
  obtain ⟨y0, y1⟩ := sq_bd o2
  have q : c * c ≤ k * k := by rw [nab (x := c)]; exact sq_le (by omega) (by omega)
  obtain ⟨r0, r1, r2⟩ := rt_sp (n := k * k - c * c) (by omega) (by omega)
  generalize rt (k * k - c * c) = r at *
  have r3 : r ≤ k := (le_sq m0 (by omega)).2
  have p0 : 0 ≤ r * r := Int.mul_nonneg r0 r0
  have p1 : (r + 1) * (r + 1) ≤ 1073741825 * 1073741825 := sq_le (by omega) (by omega)
  rw [errv0] at HR
  clear o1 o2
  go_enter Try.func9, Try.ntmps9
  go_wp2_with (first
    | (go_at_call 11; refine (awake_any _).mono ?_; rintro e w1 ⟨rfl, hb1⟩; (first | replace hb := Ext.trans hb hb1 | replace hb := Ext.trans (Ext.trans hb (Ext.drewN _ _)) hb1 | replace hb := Ext.trans (Ext.trans hb (Ext.alloc _ _)) hb1 | have hb := hb1); clear hb1; obtain ⟨hc1, hf1⟩ := hb.old)
    | (go_at_call 27; (first | (with_reducible refine (HC.out _).mono ?_) | (with_reducible refine (HD.out _).mono ?_)); rintro e w1 ⟨rfl, hb1⟩; replace hb := Ext.trans hb hb1; clear hb1)
    | (go_at_call 21; refine (HR.out _).mono ?_; rintro e w1 ⟨rfl, hb1⟩; (first | replace hb := Ext.trans hb hb1 | replace hb := Ext.trans (Ext.trans hb (Ext.drewN _ _)) hb1 | replace hb := Ext.trans (Ext.trans hb (Ext.alloc _ _)) hb1 | have hb := hb1); clear hb1; obtain ⟨hc1, hf1⟩ := hb.old))
  all_goals (go_ret; exact ⟨by simp; omega, (by repeat (first | exact Ext.refl _ | assumption | exact Ext.alloc _ _ | refine Ext.trans ?_ (by assumption) | refine Ext.trans ?_ (Ext.alloc _ _) | refine Ext.trans ?_ (Ext.drewN _ _) | refine Ext.trans ?_ (Ext.drew _)))⟩)
end Go.Proofs.Ytgedhbiechlkcaa
