/- The laws of package root: circles. -/
import Derived.Test.YtgedhbiechlkcaaRootg
namespace Go.Proofs.Ytgedhbiechlkcaa
open Go.RowKit

/-- The greater of x and -x, as the walk asks for it. -/
def Mx2 (x X : Int) : Prop := ∀ (ts : Array TypeId) (t : TypeId) (w : World), (Builtin.max_ ts t #[I x, I (-x)]).run Try.prog w = .ok (I X) w
theorem mx2 (x : Int) : ∀ (ts : Array TypeId) (t : TypeId) (w : World), (Builtin.max_ ts t #[I x, I (-x)]).run Try.prog w = .ok (I x.natAbs) w := by
  intro ts t w
  have e : (if x < -x then -x else x) = (x.natAbs : Int) := by split <;> omega
  simp [Builtin.max_, Builtin.max2, e]
theorem mx4 {x y b : Int} (h : -b ≤ x ∧ x ≤ b) (h' : -b ≤ y ∧ y ≤ b) : ∃ m : Int, (∀ (ts : Array TypeId) (t : TypeId) (w : World), (Builtin.max_ ts t #[I x, I (-x), I y, I (-y)]).run Try.prog w = .ok (I m) w) ∧ m ≤ b := by
  have ⟨m1, e1, b1⟩ : ∃ k, (if x < -x then -x else x) = k ∧ k ≤ b := ⟨_, rfl, by split <;> omega⟩
  have ⟨m2, e2, b2⟩ : ∃ k, (if m1 < y then y else m1) = k ∧ k ≤ b := ⟨_, rfl, by split <;> omega⟩
  have ⟨m3, e3, b3⟩ : ∃ k, (if m2 < -y then -y else m2) = k ∧ k ≤ b := ⟨_, rfl, by split <;> omega⟩
  refine ⟨m3, fun ts t w => ?_, b3⟩
  simp [Builtin.max_, Builtin.max2, e1, e2, e3]
/-- What is known of a scaled vector. -/
theorem scaled {x y m : Int} (hs : okS x ∧ okS y ∧ okS m) (m0 : 0 ≤ m) (hl : m * m < x * x + y * y) (hw : wiF x y m = (false, 0)) : ∃ u v : Int, scF x y m = (u, v, true, 0) ∧ okS u ∧ okS v ∧
    0 ≤ u * x ∧ 0 ≤ v * y ∧ (u.natAbs : Int) ≤ x.natAbs ∧ (v.natAbs : Int) ≤ y.natAbs ∧ u * u + v * v ≤ m * m ∧ (m < 3 ∨ (m - 3) * (m - 3) < u * u + v * v) := by
  obtain ⟨x0, x1⟩ := sq_bd hs.1
  obtain ⟨y0, y1⟩ := sq_bd hs.2.1
  have z0 := Int.mul_nonneg m0 m0
  have l0 := up_pos (n := x * x + y * y) (by omega) (by omega)
  obtain ⟨_, l1, l2⟩ := up_sp (n := x * x + y * y) (by omega) (by omega)
  replace l2 := l2 l0
  have e := sc_out hw
  generalize hl' : up (x * x + y * y) = l at *
  clear hl'
  have ml : m < l := by
    by_cases h : m < l
    · exact h
    · have := sq_le (a := l) (b := m) (by omega) (by omega); omega
  obtain ⟨a1, a2, a3, a4⟩ := tdiv_abs (x := x) (m := m) (l := l) m0 l0
  obtain ⟨b1, b2, b3, b4⟩ := tdiv_abs (x := y) (m := m) (l := l) m0 l0
  generalize (x * m).tdiv l = u at *
  generalize (y * m).tdiv l = v at *
  have au := le_of_mul (a := u.natAbs) (X := x.natAbs) l0 (by omega) (by omega) a1
  have av := le_of_mul (a := v.natAbs) (X := y.natAbs) l0 (by omega) (by omega) b1
  obtain ⟨⟨c1, c2⟩, ⟨d1, d2⟩, _⟩ := hs
  rw [nab (x := x), nab (x := y)] at l1 l2
  have i1 := circle_in (X := x.natAbs) (Y := y.natAbs) (a := u.natAbs) (b := v.natAbs) l0 (by omega) (by omega) m0 a1 b1 l1
  refine ⟨u, v, e, ⟨by omega, by omega⟩, ⟨by omega, by omega⟩, sign_mul a3 a4, sign_mul b3 b4, au, av, by rw [nab (x := u), nab (x := v)]; exact i1, ?_⟩
  by_cases h3 : m < 3
  · exact .inl h3
  · refine .inr ?_
    rw [nab (x := u), nab (x := v)]
    exact circle_out (X := x.natAbs) (Y := y.natAbs) (by omega) ml (by omega) (by omega) (by omega) (by omega) a2 b2 l2

set_option maxRecDepth 100000 in
set_option maxHeartbeats 1000000 in
theorem circle_law (x y m : Int) (w : World) : Calls Try.prog 8 #[I x, I y, I m] w fun e w' => e = .returned (.bool true) ∧ Ext w w' := by
  obtain ⟨x0, x1⟩ := clp_bd x (lo := -1073741824) (hi := 1073741824) (by omega)
  obtain ⟨y0, y1⟩ := clp_bd y (lo := -1073741824) (hi := 1073741824) (by omega)
  obtain ⟨m0, m1⟩ := clp_bd m (lo := 0) (hi := 1073741824) (by omega)
  have HX := Lib.hid (fun w => clip_any x (-1073741824) 1073741824 w (by omega))
  have HY := Lib.hid (fun w => clip_any y (-1073741824) 1073741824 w (by omega))
  have HM := Lib.hid (fun w => clip_any m 0 1073741824 w (by omega))
  generalize clp x (-1073741824) 1073741824 = a at *
  generalize clp y (-1073741824) 1073741824 = b at *
  generalize clp m 0 1073741824 = k at *
  have o1 : okS a := ⟨x0, x1⟩
  have o2 : okS b := ⟨y0, y1⟩
  have o3 : okS k := by unfold okS; omega
  obtain ⟨p0, p1⟩ := sq_bd o1
  obtain ⟨q0, q1⟩ := sq_bd o2
  obtain ⟨s0, s1⟩ := sq_bd o3
  have M1 := mx2 a
  have M2 := mx2 b
  rcases wi_cases a b k with ⟨h, -, -, hl⟩ | ⟨h, hs, -, hl⟩ | h
  · have H1 := Lib.hid (fun w => scale_is (sc_in h) w)
    obtain ⟨mm, M3, mb⟩ := mx4 (x := a) (y := b) (b := 1073741824) ⟨x0, x1⟩ ⟨y0, y1⟩
    generalize (a.natAbs : Int) = A at *
    generalize (b.natAbs : Int) = B at *
    rw [errv0] at H1
    clear h o1 o2 o3
    go_enter Try.func8, Try.ntmps8
    go_wp2_with (first
      | (go_at_call 11; refine (awake_any _).mono ?_; rintro e w1 ⟨rfl, hb1⟩; (first | replace hb := Ext.trans hb hb1 | replace hb := Ext.trans (Ext.trans hb (Ext.drewN _ _)) hb1 | replace hb := Ext.trans (Ext.trans hb (Ext.alloc _ _)) hb1 | have hb := hb1); clear hb1; obtain ⟨hc1, hf1⟩ := hb.old)
      | (go_at_call 27; (first | (with_reducible refine (HX.out _).mono ?_) | (with_reducible refine (HY.out _).mono ?_) | (with_reducible refine (HM.out _).mono ?_)); rintro e w1 ⟨rfl, hb1⟩; replace hb := Ext.trans hb hb1; clear hb1)
      | (go_at_call 24; refine (H1.out _).mono ?_; rintro e w1 ⟨rfl, hb1⟩; (first | replace hb := Ext.trans hb hb1 | replace hb := Ext.trans (Ext.trans hb (Ext.drewN _ _)) hb1 | replace hb := Ext.trans (Ext.trans hb (Ext.alloc _ _)) hb1 | have hb := hb1); clear hb1; obtain ⟨hc1, hf1⟩ := hb.old))
    all_goals (go_ret; exact ⟨by simp, (by repeat (first | exact Ext.refl _ | assumption | exact Ext.alloc _ _ | refine Ext.trans ?_ (by assumption) | refine Ext.trans ?_ (Ext.alloc _ _) | refine Ext.trans ?_ (Ext.drewN _ _) | refine Ext.trans ?_ (Ext.drew _)))⟩)
  · obtain ⟨u, v, e, u0, v0, ux, vy, hu, hv, hin, hout⟩ := scaled hs m0 hl h
    have H1 := Lib.hid (fun w => scale_is e w)
    have H2 := Lib.hid (fun w => scale_is (sc_in (x := u) (y := v) (m := k) (by rw [wi_ok ⟨u0, v0, o3⟩ (by omega), decide_eq_true hin])) w)
    obtain ⟨mm, M3, mb⟩ := mx4 (x := u) (y := v) (b := 1073741824) u0 v0
    have M4 := mx2 u
    have M5 := mx2 v
    obtain ⟨f0, f1⟩ := sq_bd u0
    obtain ⟨g0, g1⟩ := sq_bd v0
    obtain ⟨_, h1⟩ := mul_bd u0 o1
    obtain ⟨_, h2⟩ := mul_bd v0 o2
    obtain ⟨u1, u2⟩ := u0
    obtain ⟨v1, v2⟩ := v0
    generalize (a.natAbs : Int) = A at *
    generalize (b.natAbs : Int) = B at *
    generalize (u.natAbs : Int) = C at *
    generalize (v.natAbs : Int) = D at *
    rw [errv0] at H1 H2
    clear h o1 o2 hs hl e
    rcases hout with h3 | h3
    · clear o3
      go_enter Try.func8, Try.ntmps8
      go_wp2_with (first
        | (go_at_call 11; refine (awake_any _).mono ?_; rintro e w1 ⟨rfl, hb1⟩; (first | replace hb := Ext.trans hb hb1 | replace hb := Ext.trans (Ext.trans hb (Ext.drewN _ _)) hb1 | replace hb := Ext.trans (Ext.trans hb (Ext.alloc _ _)) hb1 | have hb := hb1); clear hb1; obtain ⟨hc1, hf1⟩ := hb.old)
        | (go_at_call 27; (first | (with_reducible refine (HX.out _).mono ?_) | (with_reducible refine (HY.out _).mono ?_) | (with_reducible refine (HM.out _).mono ?_)); rintro e w1 ⟨rfl, hb1⟩; replace hb := Ext.trans hb hb1; clear hb1)
        | (go_at_call 24; (first | (with_reducible refine (H1.out _).mono ?_) | (with_reducible refine (H2.out _).mono ?_)); rintro e w1 ⟨rfl, hb1⟩; replace hb := Ext.trans hb hb1; clear hb1))
      all_goals (go_ret; exact ⟨by simp, (by repeat (first | exact Ext.refl _ | assumption | exact Ext.alloc _ _ | refine Ext.trans ?_ (by assumption) | refine Ext.trans ?_ (Ext.alloc _ _) | refine Ext.trans ?_ (Ext.drewN _ _) | refine Ext.trans ?_ (Ext.drew _)))⟩)
    · obtain ⟨t0, t1⟩ := sq_bd (x := k - 3) (by unfold okS; omega)
      clear o3
      go_enter Try.func8, Try.ntmps8
      go_wp2_with (first
        | (go_at_call 11; refine (awake_any _).mono ?_; rintro e w1 ⟨rfl, hb1⟩; (first | replace hb := Ext.trans hb hb1 | replace hb := Ext.trans (Ext.trans hb (Ext.drewN _ _)) hb1 | replace hb := Ext.trans (Ext.trans hb (Ext.alloc _ _)) hb1 | have hb := hb1); clear hb1; obtain ⟨hc1, hf1⟩ := hb.old)
        | (go_at_call 27; (first | (with_reducible refine (HX.out _).mono ?_) | (with_reducible refine (HY.out _).mono ?_) | (with_reducible refine (HM.out _).mono ?_)); rintro e w1 ⟨rfl, hb1⟩; replace hb := Ext.trans hb hb1; clear hb1)
        | (go_at_call 24; (first | (with_reducible refine (H1.out _).mono ?_) | (with_reducible refine (H2.out _).mono ?_)); rintro e w1 ⟨rfl, hb1⟩; replace hb := Ext.trans hb hb1; clear hb1))
      all_goals (go_ret; exact ⟨by simp, (by repeat (first | exact Ext.refl _ | assumption | exact Ext.alloc _ _ | refine Ext.trans ?_ (by assumption) | refine Ext.trans ?_ (Ext.alloc _ _) | refine Ext.trans ?_ (Ext.drewN _ _) | refine Ext.trans ?_ (Ext.drew _)))⟩)
  · exfalso
    rw [wi_ok ⟨o1, o2, o3⟩ (by omega)] at h
    exact absurd (congrArg Prod.snd h) (by simp)
end Go.Proofs.Ytgedhbiechlkcaa
