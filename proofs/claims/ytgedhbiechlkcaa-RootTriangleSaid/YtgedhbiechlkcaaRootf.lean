/- Mathematics of the laws of package root. -/
import Derived.Test.YtgedhbiechlkcaaRoota
namespace Go.Proofs.Ytgedhbiechlkcaa

theorem nab {x : Int} : x * x = (x.natAbs : Int) * x.natAbs := by have := Int.natAbs_mul_self (a := x); rw [← Int.natCast_mul]; exact this.symm
theorem abs_lt_sq {a b : Int} (hb : 0 ≤ b) (h : a * a < b * b) : -b < a ∧ a < b := by
  have e := nab (x := a)
  have : ¬ b ≤ (a.natAbs : Int) := fun hh => by have := sq_le hb hh; omega
  omega
theorem le_sq {a b : Int} (hb : 0 ≤ b) (h : a * a ≤ b * b) : -b ≤ a ∧ a ≤ b := by
  have e := nab (x := a)
  have : ¬ b < (a.natAbs : Int) := fun hh => by
    have h1 := sq_le (a := b + 1) (b := a.natAbs) (by omega) (by omega)
    have e2 : (b + 1) * (b + 1) = b * b + 2 * b + 1 := by grind
    omega
  omega
theorem mul_mono {a b c : Int} (hc : 0 ≤ c) (h : a ≤ b) : a * c ≤ b * c := Int.mul_le_mul_of_nonneg_right h hc

/-- What truncation leaves of x * m / l, in absolute values. -/
theorem tdiv_abs {x m l : Int} (hm : 0 ≤ m) (hl : 0 < l) : let u := (x * m).tdiv l
    (u.natAbs : Int) * l ≤ x.natAbs * m ∧ x.natAbs * m ≤ u.natAbs * l + (l - 1) ∧ (0 ≤ x → 0 ≤ u) ∧ (x ≤ 0 → u ≤ 0) := by
  intro u
  have e1 : u.natAbs = (x.natAbs * m.natAbs) / l.natAbs := by show ((x * m).tdiv l).natAbs = _; rw [Int.natAbs_tdiv, Int.natAbs_mul]; rfl
  have e2 : (x.natAbs : Int) * m = ((x.natAbs * m.natAbs : Nat) : Int) := by rw [Int.natCast_mul]; congr 1; omega
  have e3 : (u.natAbs : Int) * l = ((l.natAbs * ((x.natAbs * m.natAbs) / l.natAbs) : Nat) : Int) := by rw [e1, Int.natCast_mul, Int.mul_comm]; congr 1; omega
  have h1 := Nat.div_add_mod (x.natAbs * m.natAbs) l.natAbs
  have h2 := Nat.mod_lt (x.natAbs * m.natAbs) (y := l.natAbs) (by omega)
  refine ⟨by rw [e2, e3]; omega, by rw [e2, e3]; omega, fun h => ?_, fun h => ?_⟩
  · exact Int.tdiv_nonneg (Int.mul_nonneg h hm) (by omega)
  · have : (0:Int) ≤ ((-x) * m).tdiv l := Int.tdiv_nonneg (Int.mul_nonneg (by omega) hm) (by omega)
    rw [Int.neg_mul, Int.neg_tdiv] at this
    show (x * m).tdiv l ≤ 0
    omega
theorem sign_mul {x u : Int} (h1 : 0 ≤ x → 0 ≤ u) (h2 : x ≤ 0 → u ≤ 0) : 0 ≤ u * x := by
  by_cases h : 0 ≤ x
  · exact Int.mul_nonneg (h1 h) h
  · have := Int.mul_nonneg (show 0 ≤ -u by have := h2 (by omega); omega) (show 0 ≤ -x by omega)
    rw [Int.neg_mul_neg] at this; exact this
/-- A scaled vector is within the length. -/
theorem circle_in {X Y a b m l : Int} (hl : 0 < l) (a0 : 0 ≤ a) (b0 : 0 ≤ b) (m0 : 0 ≤ m) (h1 : a * l ≤ X * m) (h2 : b * l ≤ Y * m) (h : X * X + Y * Y ≤ l * l) : a * a + b * b ≤ m * m := by
  have p1 := sq_le (Int.mul_nonneg a0 (Int.le_of_lt hl)) h1
  have p2 := sq_le (Int.mul_nonneg b0 (Int.le_of_lt hl)) h2
  have p3 := mul_mono (Int.mul_nonneg m0 m0) h
  have e1 : (a * a + b * b) * (l * l) ≤ (m * m) * (l * l) := by
    have q1 : (a * a + b * b) * (l * l) = a * l * (a * l) + b * l * (b * l) := by grind
    have q2 : (X * X + Y * Y) * (m * m) = X * m * (X * m) + Y * m * (Y * m) := by grind
    have q3 : l * l * (m * m) = m * m * (l * l) := by grind
    omega
  exact Int.le_of_mul_le_mul_right e1 (Int.mul_pos hl hl)
theorem le_of_mul {a X m l : Int} (hl : 0 < l) (X0 : 0 ≤ X) (hml : m ≤ l) (h1 : a * l ≤ X * m) : a ≤ X := by
  have : a * l ≤ X * l := by have := Int.mul_le_mul_of_nonneg_left hml X0; omega
  exact Int.le_of_mul_le_mul_right this hl
/-- A scaled vector is longer than the length less 3. -/
theorem circle_out {X Y a b m l : Int} (hm : 3 ≤ m) (hml : m < l) (a0 : 0 ≤ a) (b0 : 0 ≤ b) (X0 : 0 ≤ X) (Y0 : 0 ≤ Y) (h1 : X * m ≤ a * l + (l - 1)) (h2 : Y * m ≤ b * l + (l - 1)) (h : (l - 1) * (l - 1) < X * X + Y * Y) : (m - 3) * (m - 3) < a * a + b * b := by
  by_cases hc : (m - 3) * (m - 3) < a * a + b * b
  · exact hc
  exfalso
  obtain ⟨k, rfl⟩ : ∃ k, l = k + 1 := ⟨l - 1, by omega⟩
  obtain ⟨s, rfl⟩ : ∃ s, m = s + 3 := ⟨m - 3, by omega⟩
  rw [show s + 3 - 3 = s by omega] at hc
  rw [show k + 1 - 1 = k by omega] at h1 h2 h
  have hk : s + 3 ≤ k := by omega
  have s0 : 0 ≤ s := by omega
  have p1 := sq_le (Int.mul_nonneg X0 (show 0 ≤ s + 3 by omega)) h1
  have p2 := sq_le (Int.mul_nonneg Y0 (show 0 ≤ s + 3 by omega)) h2
  have p3 : k * k * ((s + 3) * (s + 3)) ≤ (X * X + Y * Y) * ((s + 3) * (s + 3)) := mul_mono (Int.mul_nonneg (by omega) (by omega)) (by omega)
  have hab : 2 * (a + b) ≤ 3 * s := by
    have e : (2 * (a + b)) * (2 * (a + b)) ≤ (3 * s) * (3 * s) := by
      have q := Int.mul_nonneg a0 b0
      have q1 : (2 * (a + b)) * (2 * (a + b)) = 4 * (a * a + b * b) + 8 * (a * b) := by grind
      have q2 : (3 * s) * (3 * s) = 9 * (s * s) := by grind
      have q3 : 0 ≤ (a - b) * (a - b) := by rw [nab]; exact Int.mul_nonneg (by omega) (by omega)
      have q4 : (a - b) * (a - b) = a * a + b * b - 2 * (a * b) := by grind
      have q5 := Int.mul_nonneg a0 a0
      have q6 := Int.mul_nonneg b0 b0
      omega
    have := (le_sq (by omega) e).2
    omega
  have p4 : (a * a + b * b) * ((k + 1) * (k + 1)) ≤ s * s * ((k + 1) * (k + 1)) := mul_mono (Int.mul_nonneg (by omega) (by omega)) (by omega)
  have p5 : 2 * (a + b) * (k * (k + 1)) ≤ 3 * s * (k * (k + 1)) := mul_mono (Int.mul_nonneg (by omega) (by omega)) hab
  have q1 : X * (s + 3) * (X * (s + 3)) + Y * (s + 3) * (Y * (s + 3)) = (X * X + Y * Y) * ((s + 3) * (s + 3)) := by grind
  have q2 : (a * (k + 1) + k) * (a * (k + 1) + k) + (b * (k + 1) + k) * (b * (k + 1) + k) = (a * a + b * b) * ((k + 1) * (k + 1)) + 2 * (a + b) * (k * (k + 1)) + 2 * (k * k) := by grind
  have m1 : k * k * ((s + 3) * (s + 3)) ≤ s * s * ((k + 1) * (k + 1)) + 3 * s * (k * (k + 1)) + 2 * (k * k) := by omega
  -- in k*k*s, k*k, k*s*s, s*s, k*s
  have e1 : k * k * ((s + 3) * (s + 3)) = k * k * (s * s) + 6 * (k * k * s) + 9 * (k * k) := by grind
  have e2 : s * s * ((k + 1) * (k + 1)) = k * k * (s * s) + 2 * (k * s * s) + s * s := by grind
  have e3 : 3 * s * (k * (k + 1)) = 3 * (k * k * s) + 3 * (k * s) := by grind
  have f1 : k * s * s ≤ k * s * k := Int.mul_le_mul_of_nonneg_left (by omega) (Int.mul_nonneg (by omega) s0)
  have f2 : k * s * k = k * k * s := by grind
  have f3 : s * s ≤ k * k := sq_le s0 (by omega)
  have f4 : k * s ≤ k * k := Int.mul_le_mul_of_nonneg_left (by omega) (by omega)
  have f5 : 9 ≤ k * k := sq_le (a := 3) (by omega) (by omega)
  have f6 : 0 ≤ k * k * s := Int.mul_nonneg (by omega) s0
  omega
/-- The triangle inequality, of roots. -/
theorem triangle {p q r s x y z : Int} (x0 : 0 ≤ x) (y0 : 0 ≤ y) (hx : p * p + q * q ≤ x * x) (hy : r * r + s * s ≤ y * y) (hz : z * z ≤ (p + r) * (p + r) + (q + s) * (q + s)) : z ≤ x + y := by
  have c1 : (p * r + q * s) * (p * r + q * s) ≤ (x * y) * (x * y) := by
    have e : (p * p + q * q) * (r * r + s * s) = (p * r + q * s) * (p * r + q * s) + (p * s - q * r) * (p * s - q * r) := by grind
    have e2 : 0 ≤ (p * s - q * r) * (p * s - q * r) := by rw [nab]; exact Int.mul_nonneg (by omega) (by omega)
    have n1 : ∀ t : Int, 0 ≤ t * t := fun t => by rw [nab]; exact Int.mul_nonneg (by omega) (by omega)
    have e3 : (p * p + q * q) * (r * r + s * s) ≤ (x * x) * (y * y) := Int.mul_le_mul hx hy (by have := n1 r; have := n1 s; omega) (n1 x)
    have e4 : x * x * (y * y) = x * y * (x * y) := by grind
    omega
  have c2 := (le_sq (Int.mul_nonneg x0 y0) c1).2
  have c3 : z * z ≤ (x + y) * (x + y) := by
    have e1 : (p + r) * (p + r) + (q + s) * (q + s) = (p * p + q * q) + (r * r + s * s) + 2 * (p * r + q * s) := by grind
    have e2 : (x + y) * (x + y) = x * x + y * y + 2 * (x * y) := by grind
    omega
  exact (le_sq (by omega) c3).2
theorem rt_mono {a b : Int} (h : a ≤ b) (hb : b ≤ 9223372036854775807) : rt a ≤ rt b := by
  by_cases h0 : a < 0
  · rw [rt_neg h0]; exact (rt_bd hb).1
  · obtain ⟨a1, a2, _⟩ := rt_sp (n := a) (by omega) (by omega)
    obtain ⟨b1, _, b3⟩ := rt_sp (n := b) (by omega) hb
    exact le_of_sq b1 a2 (by omega)
end Go.Proofs.Ytgedhbiechlkcaa
