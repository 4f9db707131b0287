/- Sine and cosine: the plain mathematics of sums of angles. -/
import Derived.Test.YtphhbakadfjiiaaDoorSina
namespace Go.Proofs.YtphhbakadfjiiaaDoor
open Go.RowKit

/-! P6.3: sums of angles. -/
def gS (m : Int) : Int := if m ≤ 64 then T m else T (128 - m)
def gC (m : Int) : Int := if m ≤ 64 then T (64 - m) else -T (m - 64)
def absL (x b : Int) : Prop := -b ≤ x ∧ x ≤ b
instance (x b : Int) : Decidable (absL x b) := inferInstanceAs (Decidable (_ ∧ _))
theorem gS_lin {m h : Int} (h0 : 0 ≤ m) (h1 : m ≤ 127) (a0 : 0 ≤ h) (a1 : h ≤ 255) : absL (gS m * 256 + (gS (m + 1) - gS m) * h - 256 * sn (256 * m + h)) 255 := by
  by_cases hm : m ≤ 63
  · obtain ⟨-, e⟩ := rep_cs (a := 256 * m + h) (q := 0) (r := 256 * m + h) (by omega) (by omega) (by omega) (by omega) (by omega)
    rw [e]; unfold sinq gS; rw [if_pos rfl, if_pos (by omega), if_pos (by omega), qs_at h0 a0 a1]
    unfold btw absL
    generalize T m * 256 + (T (m + 1) - T m) * h = p
    omega
  · obtain ⟨-, e⟩ := rep_cs (a := 256 * m + h) (q := 1) (r := 256 * (m - 64) + h) (by omega) (by omega) (by omega) (by omega) (by omega)
    rw [e]; unfold sinq; rw [if_neg (by omega), if_pos rfl, qs_down (by omega) (by omega) a0 a1]
    have g1 : gS m = T (64 - (m - 64)) := by
      unfold gS; split
      · rw [show 64 - (m - 64) = m by omega]
      · rw [show 64 - (m - 64) = 128 - m by omega]
    have g2 : gS (m + 1) = T (63 - (m - 64)) := by
      unfold gS; rw [if_neg (by omega), show 128 - (m + 1) = 63 - (m - 64) by omega]
    rw [g1, g2]; unfold btw absL
    generalize T (64 - (m - 64)) * 256 + (T (63 - (m - 64)) - T (64 - (m - 64))) * h = p
    omega
theorem gC_lin {m h : Int} (h0 : 0 ≤ m) (h1 : m ≤ 127) (a0 : 0 ≤ h) (a1 : h ≤ 255) : absL (gC m * 256 + (gC (m + 1) - gC m) * h - 256 * cs (256 * m + h)) 255 := by
  by_cases hm : m ≤ 63
  · obtain ⟨e, -⟩ := rep_cs (a := 256 * m + h) (q := 0) (r := 256 * m + h) (by omega) (by omega) (by omega) (by omega) (by omega)
    rw [e]; unfold cosq gC; rw [if_pos rfl, if_pos (by omega), if_pos (by omega), qs_down h0 (by omega) a0 a1, show 64 - (m + 1) = 63 - m by omega]
    unfold btw absL
    generalize T (64 - m) * 256 + (T (63 - m) - T (64 - m)) * h = p
    omega
  · obtain ⟨e, -⟩ := rep_cs (a := 256 * m + h) (q := 1) (r := 256 * (m - 64) + h) (by omega) (by omega) (by omega) (by omega) (by omega)
    rw [e]; unfold cosq; rw [if_neg (by omega), if_pos rfl, qs_at (by omega) a0 a1]
    have g1 : gC m = -T (m - 64) := by
      unfold gC; split
      · rw [show m = 64 by omega]; decide +kernel
      · rfl
    have g2 : gC (m + 1) = -T (m - 64 + 1) := by
      unfold gC; rw [if_neg (by omega), show m + 1 - 64 = m - 64 + 1 by omega]
    rw [g1, g2]; unfold btw absL
    have e2 : -T (m - 64) * 256 + (-T (m - 64 + 1) - -T (m - 64)) * h = -(T (m - 64) * 256 + (T (m - 64 + 1) - T (m - 64)) * h) := by grind
    rw [e2]
    generalize T (m - 64) * 256 + (T (m - 64 + 1) - T (m - 64)) * h = p
    omega

/-- The parts of a product of two linear pieces, less what lies on one line. -/
theorem mul_err {w e E : Int} (h0 : 0 ≤ w) (h : absL e E) : -(E * w) ≤ e * w ∧ e * w ≤ E * w := by
  have a := Int.mul_le_mul_of_nonneg_right h.1 h0
  have b := Int.mul_le_mul_of_nonneg_right h.2 h0
  rw [Int.neg_mul] at a; exact ⟨a, b⟩
theorem cell_err {b0 b1 b2 b3 g0 g1 g2 f g G : Int} (f0 : 0 ≤ f) (f1 : f ≤ 255) (k0 : 0 ≤ g) (k1 : g ≤ 255)
    (e0 : absL (b0 - 32768 * g0) 80000) (e1 : absL (b1 - 32768 * g1) 80000) (e2 : absL (b2 - 32768 * g1) 80000) (e3 : absL (b3 - 32768 * g2) 80000) (hd : absL (g2 - 2 * g1 + g0) 20)
    (hG : if f + g ≤ 255 then G = g0 * 256 + (g1 - g0) * (f + g) else G = g1 * 256 + (g2 - g1) * (f + g - 256)) :
    absL (b0 * ((256 - f) * (256 - g)) + b1 * (f * (256 - g)) + b2 * ((256 - f) * g) + b3 * (f * g) - 8388608 * G) (80000 * 65536 + 655360 * 16384) := by
  have w0 := Int.mul_nonneg (show (0:Int) ≤ 256 - f by omega) (show (0:Int) ≤ 256 - g by omega)
  have w1 := Int.mul_nonneg f0 (show (0:Int) ≤ 256 - g by omega)
  have w2 := Int.mul_nonneg (show (0:Int) ≤ 256 - f by omega) k0
  have w3 := Int.mul_nonneg f0 k0
  have ws : (256 - f) * (256 - g) + f * (256 - g) + (256 - f) * g + f * g = 65536 := by grind
  have m0 := mul_err w0 e0
  have m1 := mul_err w1 e1
  have m2 := mul_err w2 e2
  have m3 := mul_err w3 e3
  split at hG
  · have q : f * g ≤ 16384 := by
      have a := Int.mul_le_mul_of_nonneg_left (show g ≤ 256 - f by omega) f0
      have sq : 0 ≤ (f - 128) * (f - 128) := by
        by_cases hh : 0 ≤ f - 128
        · exact Int.mul_nonneg hh hh
        · have := Int.mul_nonneg (show 0 ≤ -(f - 128) by omega) (show 0 ≤ -(f - 128) by omega); grind
      grind
    have m4 := mul_err w3 hd
    have e : b0 * ((256 - f) * (256 - g)) + b1 * (f * (256 - g)) + b2 * ((256 - f) * g) + b3 * (f * g) - 8388608 * G =
        (b0 - 32768 * g0) * ((256 - f) * (256 - g)) + (b1 - 32768 * g1) * (f * (256 - g)) + (b2 - 32768 * g1) * ((256 - f) * g) + (b3 - 32768 * g2) * (f * g) + 32768 * ((g2 - 2 * g1 + g0) * (f * g)) := by
      rw [hG]; grind
    rw [e]; unfold absL
    generalize (b0 - 32768 * g0) * ((256 - f) * (256 - g)) = x0 at *
    generalize (b1 - 32768 * g1) * (f * (256 - g)) = x1 at *
    generalize (b2 - 32768 * g1) * ((256 - f) * g) = x2 at *
    generalize (b3 - 32768 * g2) * (f * g) = x3 at *
    generalize (g2 - 2 * g1 + g0) * (f * g) = x4 at *
    generalize (256 - f) * (256 - g) = y0 at *
    generalize f * (256 - g) = y1 at *
    generalize (256 - f) * g = y2 at *
    generalize f * g = y3 at *
    clear e hG e0 e1 e2 e3 hd
    omega
  · have q : (256 - f) * (256 - g) ≤ 16384 := by
      have a := Int.mul_le_mul_of_nonneg_left (show 256 - g ≤ f by omega) (show (0:Int) ≤ 256 - f by omega)
      have sq : 0 ≤ (f - 128) * (f - 128) := by
        by_cases hh : 0 ≤ f - 128
        · exact Int.mul_nonneg hh hh
        · have := Int.mul_nonneg (show 0 ≤ -(f - 128) by omega) (show 0 ≤ -(f - 128) by omega); grind
      grind
    have m4 := mul_err w0 hd
    have e : b0 * ((256 - f) * (256 - g)) + b1 * (f * (256 - g)) + b2 * ((256 - f) * g) + b3 * (f * g) - 8388608 * G =
        (b0 - 32768 * g0) * ((256 - f) * (256 - g)) + (b1 - 32768 * g1) * (f * (256 - g)) + (b2 - 32768 * g1) * ((256 - f) * g) + (b3 - 32768 * g2) * (f * g) + 32768 * ((g2 - 2 * g1 + g0) * ((256 - f) * (256 - g))) := by
      rw [hG]; grind
    rw [e]; unfold absL
    generalize (b0 - 32768 * g0) * ((256 - f) * (256 - g)) = x0 at *
    generalize (b1 - 32768 * g1) * (f * (256 - g)) = x1 at *
    generalize (b2 - 32768 * g1) * ((256 - f) * g) = x2 at *
    generalize (b3 - 32768 * g2) * (f * g) = x3 at *
    generalize (g2 - 2 * g1 + g0) * ((256 - f) * (256 - g)) = x4 at *
    generalize (256 - f) * (256 - g) = y0 at *
    generalize f * (256 - g) = y1 at *
    generalize (256 - f) * g = y2 at *
    generalize f * g = y3 at *
    clear e hG e0 e1 e2 e3 hd
    omega
theorem sum_tab : ∀ k < 65, ∀ l < 65, (if k + l ≤ 64 then tn k * tn (64 - l) + tn (64 - k) * tn l ≤ 32768 * tn (k + l) + 80000 ∧ 32768 * tn (k + l) ≤ tn k * tn (64 - l) + tn (64 - k) * tn l + 80000 ∧ tn (64 - k) * tn (64 - l) ≤ tn k * tn l + 32768 * tn (64 - (k + l)) + 80000 ∧ tn k * tn l + 32768 * tn (64 - (k + l)) ≤ tn (64 - k) * tn (64 - l) + 80000
    else tn k * tn (64 - l) + tn (64 - k) * tn l ≤ 32768 * tn (128 - (k + l)) + 80000 ∧ 32768 * tn (128 - (k + l)) ≤ tn k * tn (64 - l) + tn (64 - k) * tn l + 80000 ∧ tn (64 - k) * tn (64 - l) + 32768 * tn (k + l - 64) ≤ tn k * tn l + 80000 ∧ tn k * tn l ≤ tn (64 - k) * tn (64 - l) + 32768 * tn (k + l - 64) + 80000) := by decide +kernel
theorem bend_tab : ∀ m : Fin 127, absL (gS ((m.val : Int) + 2) - 2 * gS ((m.val : Int) + 1) + gS m.val) 20 ∧ absL (gC ((m.val : Int) + 2) - 2 * gC ((m.val : Int) + 1) + gC m.val) 20 := by decide +kernel
theorem bend {m : Int} (h0 : 0 ≤ m) (h1 : m ≤ 126) : absL (gS (m + 2) - 2 * gS (m + 1) + gS m) 20 ∧ absL (gC (m + 2) - 2 * gC (m + 1) + gC m) 20 := by
  have := bend_tab ⟨m.toNat, by omega⟩
  simp only [Int.toNat_of_nonneg h0] at this
  exact this
theorem corner {k l : Int} (h0 : 0 ≤ k) (h1 : k ≤ 64) (h2 : 0 ≤ l) (h3 : l ≤ 64) :
    absL (T k * T (64 - l) + T (64 - k) * T l - 32768 * gS (k + l)) 80000 ∧ absL (T (64 - k) * T (64 - l) - T k * T l - 32768 * gC (k + l)) 80000 := by
  have s := sum_tab k.toNat (by omega) l.toNat (by omega)
  unfold absL gS gC T
  rw [show (64 - l).toNat = 64 - l.toNat by omega, show (64 - k).toNat = 64 - k.toNat by omega, show (k + l).toNat = k.toNat + l.toNat by omega, show (128 - (k + l)).toNat = 128 - (k.toNat + l.toNat) by omega, show (64 - (k + l)).toNat = 64 - (k.toNat + l.toNat) by omega, show (k + l - 64).toNat = k.toNat + l.toNat - 64 by omega]
  simp only [← Int.natCast_mul]
  by_cases hc : k + l ≤ 64
  · rw [if_pos hc, if_pos hc]; rw [if_pos (by omega)] at s
    generalize tn k.toNat * tn (64 - l.toNat) = x0 at *; generalize tn (64 - k.toNat) * tn l.toNat = x1 at *; generalize tn (64 - k.toNat) * tn (64 - l.toNat) = x2 at *; generalize tn k.toNat * tn l.toNat = x3 at *
    generalize tn (k.toNat + l.toNat) = x4 at *; generalize tn (64 - (k.toNat + l.toNat)) = x5 at *
    omega
  · rw [if_neg hc, if_neg hc]; rw [if_neg (by omega)] at s
    generalize tn k.toNat * tn (64 - l.toNat) = x0 at *; generalize tn (64 - k.toNat) * tn l.toNat = x1 at *; generalize tn (64 - k.toNat) * tn (64 - l.toNat) = x2 at *; generalize tn k.toNat * tn l.toNat = x3 at *
    generalize tn (128 - (k.toNat + l.toNat)) = x4 at *; generalize tn (k.toNat + l.toNat - 64) = x5 at *
    omega
/-- A product of two numbers that are cut by less than 256 of 8388608. -/
theorem cut_prod {L M x y : Int} (hx : 0 ≤ x) (hy : 0 ≤ y) (hL : 0 ≤ L - 256 * x ∧ L - 256 * x ≤ 255) (hM : 0 ≤ M - 256 * y ∧ M - 256 * y ≤ 255) (bL : L ≤ 8388608) (bM : M ≤ 8388608) :
    0 ≤ L * M - 65536 * (x * y) ∧ L * M - 65536 * (x * y) ≤ 4278190080 := by
  have e : L * M - 65536 * (x * y) = (L - 256 * x) * M + (256 * x) * (M - 256 * y) := by grind
  have a := Int.mul_nonneg hL.1 (show 0 ≤ M by omega)
  have b := Int.mul_nonneg (show 0 ≤ 256 * x by omega) hM.1
  have c := Int.mul_le_mul_of_nonneg_right hL.2 (show 0 ≤ M by omega)
  have d := Int.mul_le_mul_of_nonneg_left hM.2 (show 0 ≤ 256 * x by omega)
  rw [e]; omega
/-- Two angles of the first quarter. -/
theorem sum_q {r t : Int} (r0 : 0 ≤ r) (r1 : r ≤ 16383) (t0 : 0 ≤ t) (t1 : t ≤ 16383) :
    absL (qs r * qs (16384 - t) + qs (16384 - r) * qs t - 32768 * sn (r + t)) 655359 ∧ absL (qs (16384 - r) * qs (16384 - t) - qs r * qs t - 32768 * cs (r + t)) 655359 := by
  obtain ⟨k, f, k0, k1, f0, f1, rfl⟩ : ∃ k f : Int, 0 ≤ k ∧ k ≤ 63 ∧ 0 ≤ f ∧ f ≤ 255 ∧ r = 256 * k + f := ⟨r / 256, r % 256, by omega, by omega, by omega, by omega, by omega⟩
  obtain ⟨l, g, l0, l1, g0, g1, rfl⟩ : ∃ k f : Int, 0 ≤ k ∧ k ≤ 63 ∧ 0 ≤ f ∧ f ≤ 255 ∧ t = 256 * k + f := ⟨t / 256, t % 256, by omega, by omega, by omega, by omega, by omega⟩
  have es := qs_at k0 f0 f1
  have ec := qs_down k0 k1 f0 f1
  have es' := qs_at l0 g0 g1
  have ec' := qs_down l0 l1 g0 g1
  have bs := btw_bd (T_bd (k := k) (by omega) (by omega)) (T_bd (k := k + 1) (by omega) (by omega)) f0 f1
  have bc := btw_bd (T_bd (k := 64 - k) (by omega) (by omega)) (T_bd (k := 63 - k) (by omega) (by omega)) f0 f1
  have bs' := btw_bd (T_bd (k := l) (by omega) (by omega)) (T_bd (k := l + 1) (by omega) (by omega)) g0 g1
  have bc' := btw_bd (T_bd (k := 64 - l) (by omega) (by omega)) (T_bd (k := 63 - l) (by omega) (by omega)) g0 g1
  have c00 := corner (k := k) (l := l) (by omega) (by omega) (by omega) (by omega)
  have c10 := corner (k := k + 1) (l := l) (by omega) (by omega) (by omega) (by omega)
  have c01 := corner (k := k) (l := l + 1) (by omega) (by omega) (by omega) (by omega)
  have c11 := corner (k := k + 1) (l := l + 1) (by omega) (by omega) (by omega) (by omega)
  have hb := bend (m := k + l) (by omega) (by omega)
  rw [show 64 - (k + 1) = 63 - k by omega] at c10 c11
  rw [show 64 - (l + 1) = 63 - l by omega] at c01 c11
  rw [show k + 1 + l = k + l + 1 by omega] at c10
  rw [show k + (l + 1) = k + l + 1 by omega] at c01
  rw [show k + 1 + (l + 1) = k + l + 2 by omega] at c11
  have hs : ∃ G, (if f + g ≤ 255 then G = gS (k + l) * 256 + (gS (k + l + 1) - gS (k + l)) * (f + g) else G = gS (k + l + 1) * 256 + (gS (k + l + 2) - gS (k + l + 1)) * (f + g - 256)) ∧ absL (G - 256 * sn (256 * k + f + (256 * l + g))) 255 := by
    by_cases h : f + g ≤ 255
    · have := gS_lin (m := k + l) (h := f + g) (by omega) (by omega) (by omega) (by omega)
      rw [show 256 * (k + l) + (f + g) = 256 * k + f + (256 * l + g) by omega] at this
      exact ⟨_, by rw [if_pos h], this⟩
    · have := gS_lin (m := k + l + 1) (h := f + g - 256) (by omega) (by omega) (by omega) (by omega)
      rw [show 256 * (k + l + 1) + (f + g - 256) = 256 * k + f + (256 * l + g) by omega, show k + l + 1 + 1 = k + l + 2 by omega] at this
      exact ⟨_, by rw [if_neg h], this⟩
  have hc : ∃ G, (if f + g ≤ 255 then G = gC (k + l) * 256 + (gC (k + l + 1) - gC (k + l)) * (f + g) else G = gC (k + l + 1) * 256 + (gC (k + l + 2) - gC (k + l + 1)) * (f + g - 256)) ∧ absL (G - 256 * cs (256 * k + f + (256 * l + g))) 255 := by
    by_cases h : f + g ≤ 255
    · have := gC_lin (m := k + l) (h := f + g) (by omega) (by omega) (by omega) (by omega)
      rw [show 256 * (k + l) + (f + g) = 256 * k + f + (256 * l + g) by omega] at this
      exact ⟨_, by rw [if_pos h], this⟩
    · have := gC_lin (m := k + l + 1) (h := f + g - 256) (by omega) (by omega) (by omega) (by omega)
      rw [show 256 * (k + l + 1) + (f + g - 256) = 256 * k + f + (256 * l + g) by omega, show k + l + 1 + 1 = k + l + 2 by omega] at this
      exact ⟨_, by rw [if_neg h], this⟩
  obtain ⟨G, hG, dG⟩ := hs
  obtain ⟨K, hK, dK⟩ := hc
  have C1 := cell_err f0 f1 g0 g1 c00.1 c10.1 c01.1 c11.1 hb.1 hG
  have C2 := cell_err f0 f1 g0 g1 c00.2 c10.2 c01.2 c11.2 hb.2 hK
  rw [es, ec, es', ec']
  unfold btw
  generalize sn (256 * k + f + (256 * l + g)) = S at *
  generalize cs (256 * k + f + (256 * l + g)) = C at *
  clear c00 c10 c01 c11 hb hG hK es ec es' ec'
  generalize T k = A0 at *; generalize T (k + 1) = A1 at *; generalize T (64 - k) = B0 at *; generalize T (63 - k) = B1 at *
  generalize T l = A0' at *; generalize T (l + 1) = A1' at *; generalize T (64 - l) = B0' at *; generalize T (63 - l) = B1' at *
  have i1 : (A0 * B0' + B0 * A0') * ((256 - f) * (256 - g)) + (A1 * B0' + B1 * A0') * (f * (256 - g)) + (A0 * B1' + B0 * A1') * ((256 - f) * g) + (A1 * B1' + B1 * A1') * (f * g) = (A0 * 256 + (A1 - A0) * f) * (B0' * 256 + (B1' - B0') * g) + (B0 * 256 + (B1 - B0) * f) * (A0' * 256 + (A1' - A0') * g) := by grind
  have i2 : (B0 * B0' - A0 * A0') * ((256 - f) * (256 - g)) + (B1 * B0' - A1 * A0') * (f * (256 - g)) + (B0 * B1' - A0 * A1') * ((256 - f) * g) + (B1 * B1' - A1 * A1') * (f * g) = (B0 * 256 + (B1 - B0) * f) * (B0' * 256 + (B1' - B0') * g) - (A0 * 256 + (A1 - A0) * f) * (A0' * 256 + (A1' - A0') * g) := by grind
  rw [i1] at C1; rw [i2] at C2
  clear i1 i2
  generalize A0 * 256 + (A1 - A0) * f = P at *
  generalize B0 * 256 + (B1 - B0) * f = Q at *
  generalize A0' * 256 + (A1' - A0') * g = P' at *
  generalize B0' * 256 + (B1' - B0') * g = Q' at *
  clear A0 A1 B0 B1 A0' A1' B0' B1'
  have p1 := cut_prod (L := P) (M := Q') (x := P / 256) (y := Q' / 256) (by omega) (by omega) (by omega) (by omega) (by omega) (by omega)
  have p2 := cut_prod (L := Q) (M := P') (x := Q / 256) (y := P' / 256) (by omega) (by omega) (by omega) (by omega) (by omega) (by omega)
  have p3 := cut_prod (L := Q) (M := Q') (x := Q / 256) (y := Q' / 256) (by omega) (by omega) (by omega) (by omega) (by omega) (by omega)
  have p4 := cut_prod (L := P) (M := P') (x := P / 256) (y := P' / 256) (by omega) (by omega) (by omega) (by omega) (by omega) (by omega)
  generalize P / 256 * (Q' / 256) = u1 at *
  generalize Q / 256 * (P' / 256) = u2 at *
  generalize Q / 256 * (Q' / 256) = u3 at *
  generalize P / 256 * (P' / 256) = u4 at *
  generalize P * Q' = v1 at *
  generalize Q * P' = v2 at *
  generalize Q * Q' = v3 at *
  generalize P * P' = v4 at *
  unfold absL at *
  clear bs bc bs' bc' f0 f1 g0 g1 k0 k1 l0 l1 r0 r1 t0 t1
  constructor <;> omega
theorem sum_fact (a b : Int) : absL (sn a * cs b + cs a * sn b - sn (a + b) * 32768) 655359 := by
  obtain ⟨q, r, q0, q1, r0, r1, hr⟩ := rep_ex a
  obtain ⟨p, t, p0, p1, t0, t1, ht⟩ := rep_ex b
  obtain ⟨e1, e2⟩ := rep_cs q0 q1 r0 (by omega) hr
  obtain ⟨e3, e4⟩ := rep_cs p0 p1 t0 (by omega) ht
  obtain ⟨s1, s2⟩ := sum_q r0 r1 t0 t1
  obtain ⟨q2, t2, q20, q21, t20, t21, ht2⟩ := rep_ex (r + t)
  obtain ⟨e7, e8⟩ := rep_cs q20 q21 t20 (by omega) ht2
  have e9 := (rep_cs (a := a + b) (q := (q + p + q2) % 4) (r := t2) (by omega) (by omega) t20 (by omega) (by omega)).2
  have e10 : sn (a + b) = sinq ((q + p) % 4) (cs (r + t)) (sn (r + t)) := by
    rw [e9, e7, e8]
    generalize qs (16384 - t2) = x; generalize qs t2 = y
    clear e7 e8 e9 e1 e2 e3 e4 s1 s2 ht2 hr ht
    obtain rfl | rfl | rfl | rfl : q = 0 ∨ q = 1 ∨ q = 2 ∨ q = 3 := by omega
    all_goals (obtain rfl | rfl | rfl | rfl : p = 0 ∨ p = 1 ∨ p = 2 ∨ p = 3 := by omega)
    all_goals (obtain rfl | rfl | rfl | rfl : q2 = 0 ∨ q2 = 1 ∨ q2 = 2 ∨ q2 = 3 := by omega)
    all_goals simp [sinq, cosq]
  rw [e10, e1, e2, e3, e4]
  generalize qs (16384 - r) = x at *; generalize qs r = y at *; generalize qs (16384 - t) = z at *; generalize qs t = u at *
  generalize cs (r + t) = C at *; generalize sn (r + t) = S at *
  clear e7 e8 e9 e10 e1 e2 e3 e4 ht2 hr ht
  unfold absL at *
  obtain rfl | rfl | rfl | rfl : q = 0 ∨ q = 1 ∨ q = 2 ∨ q = 3 := by omega
  all_goals (obtain rfl | rfl | rfl | rfl : p = 0 ∨ p = 1 ∨ p = 2 ∨ p = 3 := by omega)
  all_goals (simp [sinq, cosq]; grind)
end Go.Proofs.YtphhbakadfjiiaaDoor
