/- Sums of angles: all angles, and vectors that are turned. -/
import Derived.Test.YtecpkggnjajppaaDoorArco
import Derived.Test.YtecpkggnjajppaaDoorArch
namespace Go.Proofs.YtecpkggnjajppaaDoor
open Go.RowKit

theorem gD_mod {a b : Int} (h : (a - b) % 65536 = 0) : gD a = gD b := by unfold gD; obtain ⟨e1, e2⟩ := sn_mod h; rw [e1, e2]
theorem gD_quarter (a : Int) : gD (a + 16384) = gm (gD a) ⟨0, 1⟩ := by unfold gD; rw [cs_quarter, sn_quarter]; exact Gi.same (by simp [gm]) (by simp [gm])
theorem gD_turns (a : Int) (n : Nat) : gD (a + 16384 * n) = gm (gD a) (gp ⟨0, 1⟩ n) := by
  induction n with
  | zero => rw [show gp ⟨0, 1⟩ 0 = ⟨1, 0⟩ from rfl, gm_one]; exact gD_mod (by omega)
  | succ n ih => rw [show a + 16384 * ((n + 1 : Nat) : Int) = a + 16384 * (n : Int) + 16384 by omega, gD_quarter, ih, gm_assoc]; rfl
theorem unit (n : Nat) : gm (gc (gp ⟨0, 1⟩ n)) (gp ⟨0, 1⟩ n) = ⟨1, 0⟩ := by
  induction n with
  | zero => rfl
  | succ n ih =>
    show gm (gc (gm (gp ⟨0, 1⟩ n) ⟨0, 1⟩)) (gm (gp ⟨0, 1⟩ n) ⟨0, 1⟩) = _
    rw [gc_gm]
    have e : gm (gm (gc (gp ⟨0, 1⟩ n)) (gc ⟨0, 1⟩)) (gm (gp ⟨0, 1⟩ n) ⟨0, 1⟩) = gm (gm (gc (gp ⟨0, 1⟩ n)) (gp ⟨0, 1⟩ n)) (gm (gc ⟨0, 1⟩) ⟨0, 1⟩) := by ac_rfl
    rw [e, ih]; rfl
theorem gW_turns (a b j : Int) (p q : Nat) : gW (a + 16384 * p) (b + 16384 * q) (j + 16384 * (p + q : Nat)) = gW a b j := by
  unfold gW
  rw [gD_turns, gD_turns, gD_turns, gp_add, gc_gm, gc_gm, gc_gm, gc_gm (gD a)]
  have e : gm (gm (gm (gc (gD a)) (gc (gp ⟨0, 1⟩ p))) (gm (gc (gD b)) (gc (gp ⟨0, 1⟩ q)))) (gm (gD j) (gm (gp ⟨0, 1⟩ p) (gp ⟨0, 1⟩ q))) =
    gm (gm (gm (gc (gD a)) (gc (gD b))) (gD j)) (gm (gm (gc (gp ⟨0, 1⟩ p)) (gp ⟨0, 1⟩ p)) (gm (gc (gp ⟨0, 1⟩ q)) (gp ⟨0, 1⟩ q))) := by ac_rfl
  rw [e, unit, unit, show gm (⟨1, 0⟩ : Gi) ⟨1, 0⟩ = ⟨1, 0⟩ from rfl, gm_one]
theorem core_all (a b : Int) (m : Nat) (m1 : 3 ≤ m) (m2 : m < 5) : 0 < (gW a b (a + b + m)).im ∧ 0 < (gW a b (a + b + m)).re ∧ (gW a b (a + b + m)).re ≤ 8000 * (gW a b (a + b + m)).im := by
  obtain ⟨p, k1, f1, a1, a2, ha⟩ : ∃ p k1 f1 : Nat, k1 < 64 ∧ f1 < 256 ∧ (a - (((256 * k1 + f1 : Nat) : Int) + 16384 * p)) % 65536 = 0 := ⟨(a % 65536).toNat / 16384, (a % 65536).toNat % 16384 / 256, (a % 65536).toNat % 256, by omega, by omega, by omega⟩
  obtain ⟨q, k2, f2, b1, b2, hb⟩ : ∃ p k1 f1 : Nat, k1 < 64 ∧ f1 < 256 ∧ (b - (((256 * k1 + f1 : Nat) : Int) + 16384 * p)) % 65536 = 0 := ⟨(b % 65536).toNat / 16384, (b % 65536).toNat % 16384 / 256, (b % 65536).toNat % 256, by omega, by omega, by omega⟩
  have e : gW a b (a + b + m) = gW ((256 * k1 + f1 : Nat) : Int) ((256 * k2 + f2 : Nat) : Int) ((256 * k1 + f1 + (256 * k2 + f2) + m : Nat) : Int) := by
    rw [← gW_turns ((256 * k1 + f1 : Nat) : Int) ((256 * k2 + f2 : Nat) : Int) _ p q]
    unfold gW
    rw [gD_mod ha, gD_mod hb, gD_mod (a := a + b + m) (b := ((256 * k1 + f1 + (256 * k2 + f2) + m : Nat) : Int) + 16384 * (p + q : Nat)) (by omega)]
  rw [e]; exact core a1 a2 b1 b2 m1 m2

/-- How far the product lies to the right of that direction. -/
theorem far_all (a b : Int) (m : Nat) (m1 : 3 ≤ m) (m2 : m < 5) : 4000000000 ≤ (gW a b (a + b + m)).im := by
  obtain ⟨w1, w2, w3⟩ := core_all a b m m1 m2
  have l1 := (len_fact a).1
  have l2 := (len_fact b).1
  have l3 := (len_fact (a + b + m)).1
  have e : (gW a b (a + b + m)).re * (gW a b (a + b + m)).re + (gW a b (a + b + m)).im * (gW a b (a + b + m)).im = (cs a * cs a + sn a * sn a) * (cs b * cs b + sn b * sn b) * (cs (a + b + m) * cs (a + b + m) + sn (a + b + m) * sn (a + b + m)) := by
    simp only [gW, gm, gc, gD]; grind
  generalize (gW a b (a + b + m)).re = x at *
  generalize (gW a b (a + b + m)).im = y at *
  generalize cs a * cs a + sn a * sn a = p at *
  generalize cs b * cs b + sn b * sn b = q at *
  generalize cs (a + b + m) * cs (a + b + m) + sn (a + b + m) * sn (a + b + m) = r at *
  rcases (show 4000000000 ≤ y ∨ y ≤ 3999999999 by omega) with k | k
  · exact k
  · exfalso
    have h1 : 1073348644 * 1073348644 ≤ p * q := Int.mul_le_mul l1 l2 (by omega) (by omega)
    have h2 : 1073348644 * 1073348644 * 1073348644 ≤ p * q * r := Int.mul_le_mul h1 l3 (by omega) (by omega)
    have h3 : y * y ≤ 3999999999 * 3999999999 := Int.mul_le_mul k k (by omega) (by omega)
    have h4 : x * x ≤ 8000 * 3999999999 * (8000 * 3999999999) := Int.mul_le_mul (by omega) (by omega) (by omega) (by omega)
    omega

/-! A vector between its angle's direction and the next one, turned. -/
def W (a b j : Int) : Int := (gW a b j).im
theorem W_is (a b j : Int) : W a b j = (cs a * cs b - sn a * sn b) * sn j - (sn a * cs b + cs a * sn b) * cs j := by simp only [W, gW, gm, gc, gD]; grind
theorem W_neg (a b j : Int) : W (-a) (-b) (-j) = -W a b j := by rw [W_is, W_is]; simp only [cs_neg, sn_neg]; grind
theorem turned {A a j x y : Int} : (cs A * sn (A + 1) - sn A * cs (A + 1)) * crs j (cs a * x - sn a * y) (sn a * x + cs a * y) = -(-crs (A + 1) x y * W A a j + crs A x y * W (A + 1) a j) := by
  rw [W_is, W_is]; unfold crs; grind
theorem comb {A x y : Int} : (cs A * sn (A + 1) - sn A * cs (A + 1)) * x = -crs (A + 1) x y * cs A + crs A x y * cs (A + 1) ∧ (cs A * sn (A + 1) - sn A * cs (A + 1)) * y = -crs (A + 1) x y * sn A + crs A x y * sn (A + 1) := by
  unfold crs; constructor <;> grind
/-- A sum of parts of two directions is as long as its parts at most. -/
theorem parts_bd {D p q c d z : Int} (hD : 0 < D) (hp : 0 ≤ p) (hq : 0 ≤ q) (hc : -32768 ≤ c ∧ c ≤ 32768) (hd : -32768 ≤ d ∧ d ≤ 32768) (e : D * z = p * c + q * d) (hz : 1048576 ≤ z ∨ z ≤ -1048576) : 32 * D ≤ p + q := by
  have m1 := Int.mul_le_mul_of_nonneg_left hc.1 hp
  have m2 := Int.mul_le_mul_of_nonneg_left hc.2 hp
  have m3 := Int.mul_le_mul_of_nonneg_left hd.1 hq
  have m4 := Int.mul_le_mul_of_nonneg_left hd.2 hq
  rcases hz with h | h
  · have := Int.mul_le_mul_of_nonneg_left h (Int.le_of_lt hD); omega
  · have := Int.mul_le_mul_of_nonneg_left h (Int.le_of_lt hD); omega
theorem quo_part (X : Int) : ∃ r, X = 32768 * X.tdiv 32768 + r ∧ -32767 ≤ r ∧ r ≤ 32767 := by
  refine ⟨X - 32768 * X.tdiv 32768, by omega, ?_⟩
  by_cases h : 0 ≤ X
  · rw [Int.tdiv_eq_ediv_of_nonneg h]; omega
  · rw [show X.tdiv 32768 = -((-X).tdiv 32768) by rw [Int.neg_tdiv, Int.neg_neg], Int.tdiv_eq_ediv_of_nonneg (show 0 ≤ -X by omega)]; omega
theorem rest_bd {j r s : Int} (hr : -32767 ≤ r ∧ r ≤ 32767) (hs : -32767 ≤ s ∧ s ≤ 32767) : -2147418112 ≤ crs j r s ∧ crs j r s ≤ 2147418112 := by
  have hc := cs_bd j
  have hd := sn_bd j
  unfold crs
  generalize cs j = c at *; generalize sn j = d at *
  have b1 : ∀ {c r : Int}, -32768 ≤ c → c ≤ 32768 → -32767 ≤ r → r ≤ 32767 → -1073709056 ≤ c * r ∧ c * r ≤ 1073709056 := fun {c r} h1 h2 h3 h4 => by
    have : (c * r).natAbs ≤ 32768 * 32767 := by rw [Int.natAbs_mul]; exact Nat.mul_le_mul (by omega) (by omega)
    omega
  have := b1 hc.1 hc.2 hs.1 hs.2
  have := b1 hd.1 hd.2 hr.1 hr.2
  omega

theorem turned_bd {x y a : Int} (hx : -1073741824 ≤ x ∧ x ≤ 1073741824) (hy : -1073741824 ≤ y ∧ y ≤ 1073741824) (hl : 1048576 ≤ x ∨ x ≤ -1048576 ∨ 1048576 ≤ y ∨ y ≤ -1048576) :
    crs (ang x y + a + 4) ((cs a * x - sn a * y).tdiv 32768) ((sn a * x + cs a * y).tdiv 32768) < 0 ∧ 0 ≤ crs (ang x y + a - 3) ((cs a * x - sn a * y).tdiv 32768) ((sn a * x + cs a * y).tdiv 32768) := by
  have h0 : ¬ (x = 0 ∧ y = 0) := by omega
  obtain ⟨A0, A1, -⟩ := bounds_law h0 (not_big (by omega) (by omega))
  generalize ang x y = A at *
  have hD := cross_fact (a := A) (d := 1) (by omega) (by omega)
  obtain ⟨c1, c2⟩ := comb (A := A) (x := x) (y := y)
  have t1 := turned (A := A) (a := a) (j := A + a + 4) (x := x) (y := y)
  have t2 := turned (A := A) (a := a) (j := A + a - 3) (x := x) (y := y)
  have f1 : 4000000000 ≤ W A a (A + a + 4) := far_all A a 4 (by omega) (by omega)
  have f2 : 4000000000 ≤ W (A + 1) a (A + a + 4) := by have := far_all (A + 1) a 3 (by omega) (by omega); rw [show A + 1 + a + ((3 : Nat) : Int) = A + a + 4 by omega] at this; exact this
  have f3 : W A a (A + a - 3) ≤ -4000000000 := by
    have : 4000000000 ≤ W (-A) (-a) (-A + -a + ((3 : Nat) : Int)) := far_all (-A) (-a) 3 (by omega) (by omega)
    rw [show -A + -a + ((3 : Nat) : Int) = -(A + a - 3) by omega, W_neg] at this; omega
  have f4 : W (A + 1) a (A + a - 3) ≤ -4000000000 := by
    have : 4000000000 ≤ W (-(A + 1)) (-a) (-(A + 1) + -a + ((4 : Nat) : Int)) := far_all (-(A + 1)) (-a) 4 (by omega) (by omega)
    rw [show -(A + 1) + -a + ((4 : Nat) : Int) = -(A + a - 3) by omega, W_neg] at this; omega
  generalize hp : -crs (A + 1) x y = p at *
  generalize crs A x y = q at *
  generalize cs A * sn (A + 1) - sn A * cs (A + 1) = D at *
  have p0 : 0 < p := by omega
  have hpq : 32 * D ≤ p + q := by
    rcases (show (1048576 ≤ x ∨ x ≤ -1048576) ∨ (1048576 ≤ y ∨ y ≤ -1048576) by omega) with h | h
    · exact parts_bd hD (Int.le_of_lt p0) A0 (cs_bd A) (cs_bd (A + 1)) c1 h
    · exact parts_bd hD (Int.le_of_lt p0) A0 (sn_bd A) (sn_bd (A + 1)) c2 h
  obtain ⟨r, e1, r1⟩ := quo_part (cs a * x - sn a * y)
  obtain ⟨s, e2, s1⟩ := quo_part (sn a * x + cs a * y)
  generalize cs a * x - sn a * y = X at *
  generalize sn a * x + cs a * y = Y at *
  generalize X.tdiv 32768 = X' at *
  generalize Y.tdiv 32768 = Y' at *
  have split : ∀ j, crs j X Y = 32768 * crs j X' Y' + crs j r s := fun j => by rw [e1, e2]; unfold crs; grind
  have d1 := rest_bd (j := A + a + 4) r1 s1
  have d2 := rest_bd (j := A + a - 3) r1 s1
  rw [split] at t1 t2
  have m1 := Int.mul_le_mul_of_nonneg_left f1 (Int.le_of_lt p0)
  have m2 := Int.mul_le_mul_of_nonneg_left f2 A0
  have m3 := Int.mul_le_mul_of_nonneg_left f3 (Int.le_of_lt p0)
  have m4 := Int.mul_le_mul_of_nonneg_left f4 A0
  generalize crs (A + a + 4) X' Y' = u at *
  generalize crs (A + a - 3) X' Y' = v at *
  constructor
  · rcases (show u < 0 ∨ 0 ≤ u by omega) with k | k
    · exact k
    · have := Int.mul_le_mul_of_nonneg_left (show -2147418112 ≤ 32768 * u + crs (A + a + 4) r s by omega) (Int.le_of_lt hD)
      omega
  · rcases (show 0 ≤ v ∨ v < 0 by omega) with k | k
    · exact k
    · have := Int.mul_le_mul_of_nonneg_left (show 32768 * v + crs (A + a - 3) r s ≤ 2147418112 by omega) (Int.le_of_lt hD)
      omega

/-- Between two directions seven units apart there is one of seven angles. -/
theorem one_of {n X Y : Int} (hb : ¬ big X Y) (h1 : crs (n + 4) X Y < 0) (h2 : 0 ≤ crs (n - 3) X Y) : ∃ i, -3 ≤ i ∧ i ≤ 3 ∧ ang X Y = nrm (n + i) := by
  have go : ∀ i, -3 ≤ i → i ≤ 3 → 0 ≤ crs (n + i) X Y → crs (n + i + 1) X Y < 0 → ∃ i, -3 ≤ i ∧ i ≤ 3 ∧ ang X Y = nrm (n + i) := fun i a b c d => ⟨i, a, b, ang_is hb c d⟩
  rw [show n - 3 = n + -3 by omega] at h2
  by_cases k1 : crs (n + -3 + 1) X Y < 0
  · exact go (-3) (by omega) (by omega) h2 k1
  by_cases k2 : crs (n + -2 + 1) X Y < 0
  · exact go (-2) (by omega) (by omega) (by rw [show n + -2 = n + -3 + 1 by omega]; omega) k2
  by_cases k3 : crs (n + -1 + 1) X Y < 0
  · exact go (-1) (by omega) (by omega) (by rw [show n + -1 = n + -2 + 1 by omega]; omega) k3
  by_cases k4 : crs (n + 0 + 1) X Y < 0
  · exact go 0 (by omega) (by omega) (by rw [show n + 0 = n + -1 + 1 by omega]; omega) k4
  by_cases k5 : crs (n + 1 + 1) X Y < 0
  · exact go 1 (by omega) (by omega) (by rw [show n + 1 = n + 0 + 1 by omega]; omega) k5
  by_cases k6 : crs (n + 2 + 1) X Y < 0
  · exact go 2 (by omega) (by omega) (by rw [show n + 2 = n + 1 + 1 by omega]; omega) k6
  · exact go 3 (by omega) (by omega) (by rw [show n + 3 = n + 2 + 1 by omega]; omega) (by rw [show n + 3 + 1 = n + 4 by omega]; exact h1)
theorem sums_law {x y a : Int} (hx : -1073741824 ≤ x ∧ x ≤ 1073741824) (hy : -1073741824 ≤ y ∧ y ≤ 1073741824) (hl : 1048576 ≤ x ∨ x ≤ -1048576 ∨ 1048576 ≤ y ∨ y ≤ -1048576)
    (hb : ¬ big ((cs a * x - sn a * y).tdiv 32768) ((sn a * x + cs a * y).tdiv 32768)) : -3 ≤ dff (ang ((cs a * x - sn a * y).tdiv 32768) ((sn a * x + cs a * y).tdiv 32768)) (ang x y + nrm a) ∧ dff (ang ((cs a * x - sn a * y).tdiv 32768) ((sn a * x + cs a * y).tdiv 32768)) (ang x y + nrm a) ≤ 3 := by
  obtain ⟨h1, h2⟩ := turned_bd (a := a) hx hy hl
  obtain ⟨i, i0, i1, e⟩ := one_of hb h1 h2
  rw [e]; unfold dff nrm; omega
end Go.Proofs.YtecpkggnjajppaaDoor
