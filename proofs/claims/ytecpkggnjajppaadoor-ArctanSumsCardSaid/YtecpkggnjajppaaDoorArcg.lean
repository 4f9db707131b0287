/- The reference of package arctan: products by parts, and two directions compared. -/
import Derived.Test.YtecpkggnjajppaaDoorArcf
import Derived.ChangeKeysEq
namespace Go.Proofs.YtecpkggnjajppaaDoor
open Go.RowKit

def prH (a b : Int) : Int := a * b / 1099511627776
def prL (a b : Int) : Int := a * b % 1099511627776
theorem pr_parts (a b : Int) : prH a b = a / 1048576 * (b / 1048576) + (a / 1048576 * (b % 1048576) + b / 1048576 * (a % 1048576)) / 1048576 + (a % 1048576 * (b % 1048576) + (a / 1048576 * (b % 1048576) + b / 1048576 * (a % 1048576)) % 1048576 * 1048576) / 1099511627776 ∧
    prL a b = (a % 1048576 * (b % 1048576) + (a / 1048576 * (b % 1048576) + b / 1048576 * (a % 1048576)) % 1048576 * 1048576) % 1099511627776 := by
  unfold prH prL
  obtain ⟨g, hg⟩ : ∃ g, a / 1048576 = g := ⟨_, rfl⟩
  obtain ⟨k, hk⟩ : ∃ k, a % 1048576 = k := ⟨_, rfl⟩
  obtain ⟨h, hh⟩ : ∃ h, b / 1048576 = h := ⟨_, rfl⟩
  obtain ⟨l, hl⟩ : ∃ l, b % 1048576 = l := ⟨_, rfl⟩
  have ea : a = g * 1048576 + k := by omega
  have eb : b = h * 1048576 + l := by omega
  rw [hg, hk, hh, hl]
  clear hg hk hh hl
  have e : a * b = g * h * 1099511627776 + (g * l + h * k) * 1048576 + k * l := by rw [ea, eb]; grind
  rw [e]
  generalize g * h = P; generalize g * l + h * k = M; generalize k * l = L
  omega
theorem part_bd' {a : Int} (h : -1099511627776 ≤ a ∧ a ≤ 1099511627776) : (-1048576 ≤ a / 1048576 ∧ a / 1048576 ≤ 1048576) ∧ 0 ≤ a % 1048576 ∧ a % 1048576 ≤ 1048575 := by omega
theorem mul_in {g l A B : Int} (hg : -A ≤ g ∧ g ≤ A) (hl : -B ≤ l ∧ l ≤ B) : -(A * B) ≤ g * l ∧ g * l ≤ A * B := by
  have key : ∀ g l : Int, 0 ≤ g → g ≤ A → -B ≤ l → l ≤ B → -(A * B) ≤ g * l ∧ g * l ≤ A * B := fun g l h0 h1 h2 h3 => by
    have a := Int.mul_le_mul_of_nonneg_left h2 h0
    have b := Int.mul_le_mul_of_nonneg_left h3 h0
    have c := Int.mul_le_mul_of_nonneg_right h1 (show 0 ≤ B by omega)
    rw [Int.mul_neg] at a; omega
  by_cases h : 0 ≤ g
  · exact key g l h hg.2 hl.1 hl.2
  · have := key (-g) l (by omega) (by omega) hl.1 hl.2
    rw [Int.neg_mul] at this; omega

set_option maxRecDepth 100000 in
set_option maxHeartbeats 1000000 in
theorem product_any (a b : Int) (w : World) (ha : -1099511627776 ≤ a ∧ a ≤ 1099511627776) (hb' : -1099511627776 ≤ b ∧ b ≤ 1099511627776) :
    Calls Tryd.prog 31 #[I a, I b] w fun e w' => e = .returned (.agg #[I (prH a b), I (prL a b)]) ∧ Ext w w' := by
  have HV := Lib.hid (pr_parts a b)
  obtain ⟨⟨a1, a2⟩, a3, a4⟩ := part_bd' ha
  obtain ⟨⟨b1, b2⟩, b3, b4⟩ := part_bd' hb'
  have hm : bits .and .i64 b 1048575 = b % 1048576 := and_mask (x := b) (k := 20) (by decide)
  have hm2 : bits .and .i64 a 1048575 = a % 1048576 := and_mask (x := a) (k := 20) (by decide)
  have m1 := mul_in (g := a / 1048576) (l := b % 1048576) (A := 1048576) (B := 1048576) ⟨a1, a2⟩ ⟨by omega, by omega⟩ 
  have m2 := mul_in (g := b / 1048576) (l := a % 1048576) (A := 1048576) (B := 1048576) ⟨b1, b2⟩ ⟨by omega, by omega⟩
  have m3 := mul_in (g := a % 1048576) (l := b % 1048576) (A := 1048576) (B := 1048576) ⟨by omega, by omega⟩ ⟨by omega, by omega⟩
  have m4 := mul_in (g := a / 1048576) (l := b / 1048576) (A := 1048576) (B := 1048576) ⟨a1, a2⟩ ⟨b1, b2⟩
  have m5 := Int.mul_nonneg a3 b3
  generalize hg : a / 1048576 = g at *
  generalize hk : a % 1048576 = k at *
  generalize hh : b / 1048576 = h at *
  generalize hl : b % 1048576 = l at *
  obtain ⟨p1, e1⟩ : ∃ p, g * l = p := ⟨_, rfl⟩
  obtain ⟨p2, e2⟩ : ∃ p, h * k = p := ⟨_, rfl⟩
  obtain ⟨p3, e3⟩ : ∃ p, k * l = p := ⟨_, rfl⟩
  obtain ⟨p4, e4⟩ : ∃ p, g * h = p := ⟨_, rfl⟩
  rw [e1, e2, e3, e4] at HV
  rw [e1] at m1; rw [e2] at m2; rw [e3] at m3 m5; rw [e4] at m4
  have hm3 : bits .and .i64 (p1 + p2) 1048575 = (p1 + p2) % 1048576 := and_mask (x := p1 + p2) (k := 20) (by decide)
  have hm4 : bits .and .i64 (p3 + (p1 + p2) % 1048576 * 1048576) 1099511627775 = (p3 + (p1 + p2) % 1048576 * 1048576) % 1099511627776 := and_mask (x := p3 + (p1 + p2) % 1048576 * 1048576) (k := 40) (by decide)
  go_enter Tryd.func31, Tryd.ntmps31
  go_wp2
  exact bodyPost_ret (v := .agg #[I (prH a b), I (prL a b)]) (by rw [HV.out.1, HV.out.2]; simp [results, Tryd.results31, go_sem]) rfl ⟨rfl, (by repeat (first | exact Ext.refl _ | assumption | exact Ext.alloc _ _ | refine Ext.trans ?_ (by assumption) | refine Ext.trans ?_ (Ext.alloc _ _) | refine Ext.trans ?_ (Ext.drewN _ _) | refine Ext.trans ?_ (Ext.drew _)))⟩

theorem eq2 (h1 l1 h2 l2 : Int) (w : World) : (Op.equalIn 10000 41 (.agg #[I h1, I l1]) (.agg #[I h2, I l2])).run Tryd.prog w = .ok (h1 == h2 && l1 == l2) w := by
  obtain ⟨i, hi⟩ : ∃ i, Tryd.prog.info? 3 = some i := Option.isSome_iff_exists.mp (by kernel_rfl)
  have hc : Tryd.prog.cellsOf 3 = 1 := by kernel_rfl
  have u3 := Tryd.underlying3
  have a3 := Tryd.isAgg3
  have z3 := Tryd.sizeOf3
  rw [show (10000 : Nat) = 9998 + 1 + 1 from rfl, run_equalIn_array w 9999 _ _ Tryd.underlying41 hi, hc]
  simp only [show List.range 2 = [0, 1] from rfl, Op.eqItems]
  go_simp
  by_cases e1 : h1 = h2 <;> by_cases e2 : l1 = l2 <;> simp [e1, e2]

theorem eq2_t (h1 l1 : Int) (w : World) : (Op.equalIn 10000 41 (.agg #[I h1, I l1]) (.agg #[I h1, I l1])).run Tryd.prog w = .ok true w := by
  rw [eq2]; simp
theorem eq2_f {h1 l1 h2 l2 : Int} (h : ¬ (h1 = h2 ∧ l1 = l2)) (w : World) : (Op.equalIn 10000 41 (.agg #[I h1, I l1]) (.agg #[I h2, I l2])).run Tryd.prog w = .ok false w := by
  rw [eq2]
  have : (h1 == h2 && l1 == l2) = false := by
    rw [Bool.and_eq_false_iff]
    by_cases k : h1 = h2
    · right; simpa using fun k' => h ⟨k, k'⟩
    · left; simpa using k
  rw [this]
theorem q_cross {q x y u v : Int} (h0 : 0 ≤ q) (h1 : q ≤ 3) : qy q x y * qx q u v - qy q u v * qx q x y = y * u - v * x := by
  obtain rfl | rfl | rfl | rfl : q = 0 ∨ q = 1 ∨ q = 2 ∨ q = 3 := by omega
  all_goals (simp [qx, qy] <;> grind)
theorem cmp0_eq {x y u v : Int} (h : qd x y = qd u v) : cmp0 x y u v = sgn (y * u - v * x) := by
  unfold cmp0; rw [← h, cmp_eq, q_cross (qd_bd x y).1 (qd_bd x y).2]
theorem cmp0_lt {x y u v : Int} (h : qd x y ≠ qd u v) : cmp0 x y u v = cmpi (qd x y) (qd u v) := cmp_lt h
theorem pr_cmp (x y u v : Int) : (prH x v = prH y u ∧ prL x v = prL y u → sgn (y * u - v * x) = 0) ∧ (prH y u < prH x v ∨ prH x v = prH y u ∧ prL y u < prL x v → sgn (y * u - v * x) = -1) ∧
    (prH x v < prH y u ∨ prH x v = prH y u ∧ prL x v < prL y u → sgn (y * u - v * x) = 1) := by
  unfold prH prL sgn
  rw [Int.mul_comm v x]
  generalize x * v = m; generalize y * u = n
  refine ⟨fun h => ?_, fun h => ?_, fun h => ?_⟩ <;> (repeat' split) <;> omega

set_option maxRecDepth 100000 in
set_option maxHeartbeats 1000000 in
theorem rcompare_any (x y u v : Int) (w : World) (hx : In63 x) (hy : In63 y) (hu : In63 u) (hv : In63 v) : Calls Tryd.prog 18 #[I x, I y, I u, I v] w fun e w' => e = .returned (I (cmpd x y u v)) ∧ Ext w w' := by
  have HA := Lib.hid (fun w => rsmall_any x y w hx hy)
  have HB := Lib.hid (fun w => rsmall_any u v w hu hv)
  have HV : Hid (cmpd x y u v = cmp0 (vx x y) (vy x y) (vx u v) (vy u v)) := rfl
  obtain ⟨a1, a2⟩ := v_bd hx hy
  obtain ⟨b1, b2⟩ := v_bd hu hv
  have n1 := v_ne (x := x) (y := y)
  have n2 := v_ne (x := u) (y := v)
  clear hx hy hu hv
  generalize vx x y = X at *
  generalize vy x y = Y at *
  generalize vx u v = U at *
  generalize vy u v = V at *
  have HC := Lib.hid (fun w => rquarter_any X Y w n1)
  have HD := Lib.hid (fun w => rquarter_any U V w n2)
  have HP := Lib.hid (fun w => product_any X V w a1 b2)
  have HR := Lib.hid (fun w => product_any Y U w a2 b1)
  have HS : Hid (qd X Y = qd U V → cmp0 X Y U V = sgn (Y * U - V * X)) := fun h => cmp0_eq h
  have HL : Hid (qd X Y ≠ qd U V → cmp0 X Y U V = cmpi (qd X Y) (qd U V)) := fun h => cmp0_lt h
  obtain ⟨s0, s1, s2⟩ := pr_cmp X Y U V
  generalize sgn (Y * U - V * X) = s at *
  generalize prH X V = h1 at *
  generalize prL X V = l1 at *
  generalize prH Y U = h2 at *
  generalize prL Y U = l2 at *
  generalize cmp0 X Y U V = z at *
  generalize qd X Y = p at *
  generalize qd U V = q at *
  clear a1 a2 b1 b2 n1 n2
  by_cases h : p = q
  · subst h
    have hz := HS.out rfl
    subst hz
    clear HS HL
    rcases (show (h1 = h2 ∧ l1 = l2) ∨ (h2 < h1) ∨ (h1 = h2 ∧ l2 < l1) ∨ (h1 < h2) ∨ (h1 = h2 ∧ l1 < l2) by omega) with ⟨k1, k2⟩ | k1 | ⟨k1, k2⟩ | k1 | ⟨k1, k2⟩
    · have HZ := Lib.hid (HV.out.trans (s0 ⟨k1, k2⟩))
      subst k1 k2
      have he := eq2_t h1 l1
      clear s0 s1 s2
      go_enter Tryd.func18, Tryd.ntmps18
      go_wp2_with (first
        | (go_at_call 26; (first | (with_reducible refine (HA.out _).mono ?_) | (with_reducible refine (HB.out _).mono ?_)); rintro e w1 ⟨rfl, hb1⟩; (first | replace hb := Ext.trans hb hb1 | have hb := hb1); clear hb1)
        | (go_at_call 27; (first | (with_reducible refine (HC.out _).mono ?_) | (with_reducible refine (HD.out _).mono ?_)); rintro e w2 ⟨rfl, hb1⟩; replace hb := Ext.trans hb hb1; clear hb1)
        | (go_at_call 31; (first | (with_reducible refine (HP.out _).mono ?_) | (with_reducible refine (HR.out _).mono ?_)); rintro e w3 ⟨rfl, hb1⟩; replace hb := Ext.trans hb hb1; clear hb1))
      go_ret
      exact ⟨by rw [HZ.out]; rfl, (by repeat (first | exact Ext.refl _ | assumption | exact Ext.alloc _ _ | refine Ext.trans ?_ (by assumption) | refine Ext.trans ?_ (Ext.alloc _ _) | refine Ext.trans ?_ (Ext.drewN _ _) | refine Ext.trans ?_ (Ext.drew _)))⟩
    · have HZ := Lib.hid (HV.out.trans (s1 (.inl k1)))
      have k3 : ¬ h1 = h2 := by omega
      have he := eq2_f (l1 := l1) (l2 := l2) (fun h => k3 h.1)
      clear s0 s1 s2
      go_enter Tryd.func18, Tryd.ntmps18
      go_wp2_with (first
        | (go_at_call 26; (first | (with_reducible refine (HA.out _).mono ?_) | (with_reducible refine (HB.out _).mono ?_)); rintro e w1 ⟨rfl, hb1⟩; (first | replace hb := Ext.trans hb hb1 | have hb := hb1); clear hb1)
        | (go_at_call 27; (first | (with_reducible refine (HC.out _).mono ?_) | (with_reducible refine (HD.out _).mono ?_)); rintro e w2 ⟨rfl, hb1⟩; replace hb := Ext.trans hb hb1; clear hb1)
        | (go_at_call 31; (first | (with_reducible refine (HP.out _).mono ?_) | (with_reducible refine (HR.out _).mono ?_)); rintro e w3 ⟨rfl, hb1⟩; replace hb := Ext.trans hb hb1; clear hb1))
      go_ret
      exact ⟨by rw [HZ.out]; rfl, (by repeat (first | exact Ext.refl _ | assumption | exact Ext.alloc _ _ | refine Ext.trans ?_ (by assumption) | refine Ext.trans ?_ (Ext.alloc _ _) | refine Ext.trans ?_ (Ext.drewN _ _) | refine Ext.trans ?_ (Ext.drew _)))⟩
    · have HZ := Lib.hid (HV.out.trans (s1 (.inr ⟨k1, k2⟩)))
      have k3 : ¬ l1 = l2 := by omega
      have he := eq2_f (h1 := h1) (h2 := h2) (fun h => k3 h.2)
      subst k1
      clear s0 s1 s2
      go_enter Tryd.func18, Tryd.ntmps18
      go_wp2_with (first
        | (go_at_call 26; (first | (with_reducible refine (HA.out _).mono ?_) | (with_reducible refine (HB.out _).mono ?_)); rintro e w1 ⟨rfl, hb1⟩; (first | replace hb := Ext.trans hb hb1 | have hb := hb1); clear hb1)
        | (go_at_call 27; (first | (with_reducible refine (HC.out _).mono ?_) | (with_reducible refine (HD.out _).mono ?_)); rintro e w2 ⟨rfl, hb1⟩; replace hb := Ext.trans hb hb1; clear hb1)
        | (go_at_call 31; (first | (with_reducible refine (HP.out _).mono ?_) | (with_reducible refine (HR.out _).mono ?_)); rintro e w3 ⟨rfl, hb1⟩; replace hb := Ext.trans hb hb1; clear hb1))
      go_ret
      exact ⟨by rw [HZ.out]; rfl, (by repeat (first | exact Ext.refl _ | assumption | exact Ext.alloc _ _ | refine Ext.trans ?_ (by assumption) | refine Ext.trans ?_ (Ext.alloc _ _) | refine Ext.trans ?_ (Ext.drewN _ _) | refine Ext.trans ?_ (Ext.drew _)))⟩
    · have HZ := Lib.hid (HV.out.trans (s2 (.inl k1)))
      have k3 : ¬ h1 = h2 := by omega
      have he := eq2_f (l1 := l1) (l2 := l2) (fun h => k3 h.1)
      have k4 : ¬ h2 < h1 := by omega
      clear s0 s1 s2
      go_enter Tryd.func18, Tryd.ntmps18
      go_wp2_with (first
        | (go_at_call 26; (first | (with_reducible refine (HA.out _).mono ?_) | (with_reducible refine (HB.out _).mono ?_)); rintro e w1 ⟨rfl, hb1⟩; (first | replace hb := Ext.trans hb hb1 | have hb := hb1); clear hb1)
        | (go_at_call 27; (first | (with_reducible refine (HC.out _).mono ?_) | (with_reducible refine (HD.out _).mono ?_)); rintro e w2 ⟨rfl, hb1⟩; replace hb := Ext.trans hb hb1; clear hb1)
        | (go_at_call 31; (first | (with_reducible refine (HP.out _).mono ?_) | (with_reducible refine (HR.out _).mono ?_)); rintro e w3 ⟨rfl, hb1⟩; replace hb := Ext.trans hb hb1; clear hb1))
      go_ret
      exact ⟨by rw [HZ.out]; rfl, (by repeat (first | exact Ext.refl _ | assumption | exact Ext.alloc _ _ | refine Ext.trans ?_ (by assumption) | refine Ext.trans ?_ (Ext.alloc _ _) | refine Ext.trans ?_ (Ext.drewN _ _) | refine Ext.trans ?_ (Ext.drew _)))⟩
    · have HZ := Lib.hid (HV.out.trans (s2 (.inr ⟨k1, k2⟩)))
      have k3 : ¬ l1 = l2 := by omega
      have he := eq2_f (h1 := h1) (h2 := h2) (fun h => k3 h.2)
      have k4 : ¬ l2 < l1 := by omega
      subst k1
      clear s0 s1 s2
      go_enter Tryd.func18, Tryd.ntmps18
      go_wp2_with (first
        | (go_at_call 26; (first | (with_reducible refine (HA.out _).mono ?_) | (with_reducible refine (HB.out _).mono ?_)); rintro e w1 ⟨rfl, hb1⟩; (first | replace hb := Ext.trans hb hb1 | have hb := hb1); clear hb1)
        | (go_at_call 27; (first | (with_reducible refine (HC.out _).mono ?_) | (with_reducible refine (HD.out _).mono ?_)); rintro e w2 ⟨rfl, hb1⟩; replace hb := Ext.trans hb hb1; clear hb1)
        | (go_at_call 31; (first | (with_reducible refine (HP.out _).mono ?_) | (with_reducible refine (HR.out _).mono ?_)); rintro e w3 ⟨rfl, hb1⟩; replace hb := Ext.trans hb hb1; clear hb1))
      go_ret
      exact ⟨by rw [HZ.out]; rfl, (by repeat (first | exact Ext.refl _ | assumption | exact Ext.alloc _ _ | refine Ext.trans ?_ (by assumption) | refine Ext.trans ?_ (Ext.alloc _ _) | refine Ext.trans ?_ (Ext.drewN _ _) | refine Ext.trans ?_ (Ext.drew _)))⟩
  · have hz := HL.out h
    have HZ := Lib.hid (HV.out.trans hz)
    clear HS HL hz HV s0 s1 s2 HP HR
    rcases (show p < q ∨ (¬ p < q ∧ q < p) by omega) with k | ⟨k, k'⟩
    · have HY : Hid (cmpi p q = -1) := by show cmpi p q = -1; unfold cmpi; rw [if_pos k]
      go_enter Tryd.func18, Tryd.ntmps18
      go_wp2_with (first
        | (go_at_call 26; (first | (with_reducible refine (HA.out _).mono ?_) | (with_reducible refine (HB.out _).mono ?_)); rintro e w1 ⟨rfl, hb1⟩; (first | replace hb := Ext.trans hb hb1 | have hb := hb1); clear hb1)
        | (go_at_call 27; (first | (with_reducible refine (HC.out _).mono ?_) | (with_reducible refine (HD.out _).mono ?_)); rintro e w2 ⟨rfl, hb1⟩; replace hb := Ext.trans hb hb1; clear hb1))
      go_ret
      exact ⟨by rw [HZ.out, HY.out]; rfl, (by repeat (first | exact Ext.refl _ | assumption | exact Ext.alloc _ _ | refine Ext.trans ?_ (by assumption) | refine Ext.trans ?_ (Ext.alloc _ _) | refine Ext.trans ?_ (Ext.drewN _ _) | refine Ext.trans ?_ (Ext.drew _)))⟩
    · have HY : Hid (cmpi p q = 1) := by show cmpi p q = 1; unfold cmpi; rw [if_neg k, if_pos k']
      go_enter Tryd.func18, Tryd.ntmps18
      go_wp2_with (first
        | (go_at_call 26; (first | (with_reducible refine (HA.out _).mono ?_) | (with_reducible refine (HB.out _).mono ?_)); rintro e w1 ⟨rfl, hb1⟩; (first | replace hb := Ext.trans hb hb1 | have hb := hb1); clear hb1)
        | (go_at_call 27; (first | (with_reducible refine (HC.out _).mono ?_) | (with_reducible refine (HD.out _).mono ?_)); rintro e w2 ⟨rfl, hb1⟩; replace hb := Ext.trans hb hb1; clear hb1))
      go_ret
      exact ⟨by rw [HZ.out, HY.out]; rfl, (by repeat (first | exact Ext.refl _ | assumption | exact Ext.alloc _ _ | refine Ext.trans ?_ (by assumption) | refine Ext.trans ?_ (Ext.alloc _ _) | refine Ext.trans ?_ (Ext.drewN _ _) | refine Ext.trans ?_ (Ext.drew _)))⟩
end Go.Proofs.YtecpkggnjajppaaDoor
