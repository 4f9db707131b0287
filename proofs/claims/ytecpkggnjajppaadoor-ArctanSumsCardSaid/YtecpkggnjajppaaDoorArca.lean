/- The angle of a vector: the plain mathematics. -/
import Derived.Test.YtecpkggnjajppaaDoorSina
namespace Go.Proofs.YtecpkggnjajppaaDoor
open Go.RowKit

def gr (P : Nat → Bool) : Nat → Nat
  | 0 => 0
  | n + 1 => if P (n + 1) = true then n + 1 else gr P n
def atD (x y : Int) (r : Nat) : Bool := decide (qs r * x ≤ qs (16384 - r) * y)
/-- The angle of a vector of the first quarter. -/
def fa (x y : Int) : Int := gr (atD x y) 16383

theorem gr_le (P : Nat → Bool) (n : Nat) : gr P n ≤ n := by
  induction n with
  | zero => exact Nat.le_refl _
  | succ n ih => unfold gr; split <;> omega
theorem gr_at (P : Nat → Bool) (h0 : P 0 = true) (n : Nat) : P (gr P n) = true := by
  induction n with
  | zero => exact h0
  | succ n ih => unfold gr; split <;> assumption
theorem gr_gt (P : Nat → Bool) (n : Nat) : ∀ k, gr P n < k → k ≤ n → P k = false := by
  induction n with
  | zero => intro k h1 h2; unfold gr at h1; omega
  | succ n ih =>
    intro k h1 h2
    unfold gr at h1
    split at h1
    · omega
    · by_cases h : k = n + 1
      · subst h; simpa using ‹¬ P (n + 1) = true›
      · exact ih k h1 (by omega)

theorem qs_le {r t : Int} (h0 : 0 ≤ r) (h : r ≤ t) (h1 : t ≤ 16384) : qs r ≤ qs t := by
  have := qs_mono (r := r) (t - r).toNat h0 (by omega)
  rwa [show r + ((t - r).toNat : Int) = t by omega] at this
theorem fa_bd (x y : Int) : 0 ≤ fa x y ∧ fa x y ≤ 16383 := by
  have := gr_le (atD x y) 16383; unfold fa; omega
theorem fa_at {x y : Int} (hy : 0 ≤ y) : qs (fa x y) * x ≤ qs (16384 - fa x y) * y := by
  have := gr_at (atD x y) (by unfold atD; rw [show ((0 : Nat) : Int) = 0 by rfl, show (16384 : Int) - 0 = 16384 by rfl, qs_0, qs_q]; simp; omega) 16383
  unfold atD at this; exact of_decide_eq_true this
theorem fa_next {x y : Int} (hx : 0 < x) : qs (16384 - (fa x y + 1)) * y < qs (fa x y + 1) * x := by
  by_cases h : fa x y = 16383
  · rw [h, show (16384 : Int) - (16383 + 1) = 0 by rfl, show (16383 : Int) + 1 = 16384 by rfl, qs_0, qs_q]; omega
  · have b := fa_bd x y
    have := gr_gt (atD x y) 16383 ((fa x y).toNat + 1) (by unfold fa; omega) (by omega)
    unfold atD at this
    have := of_decide_eq_false this
    rw [show (((fa x y).toNat + 1 : Nat) : Int) = fa x y + 1 by omega] at this
    omega
theorem at_down {x y r t : Int} (hx : 0 < x) (hy : 0 ≤ y) (h0 : 0 ≤ r) (h : r ≤ t) (h1 : t ≤ 16384) (H : qs t * x ≤ qs (16384 - t) * y) : qs r * x ≤ qs (16384 - r) * y := by
  have a := Int.mul_le_mul_of_nonneg_right (qs_le h0 h h1) (show 0 ≤ x by omega)
  have b := Int.mul_le_mul_of_nonneg_right (qs_le (r := 16384 - t) (t := 16384 - r) (by omega) (by omega) (by omega)) hy
  omega
theorem fa_uniq {x y r : Int} (hx : 0 < x) (hy : 0 ≤ y) (h0 : 0 ≤ r) (h1 : r ≤ 16383) (A : qs r * x ≤ qs (16384 - r) * y) (B : qs (16384 - (r + 1)) * y < qs (r + 1) * x) : fa x y = r := by
  have b := fa_bd x y
  have a' := fa_at (x := x) hy
  have b' := fa_next (y := y) hx
  by_cases h : fa x y < r
  · have := at_down hx hy (r := fa x y + 1) (t := r) (by omega) (by omega) (by omega) A; omega
  · by_cases h' : r < fa x y
    · have := at_down hx hy (r := r + 1) (t := fa x y) (by omega) (by omega) (by omega) a'; omega
    · omega

/-! Quarters. -/
def qd (x y : Int) : Int := if 0 < x ∧ 0 ≤ y then 0 else if x ≤ 0 ∧ 0 < y then 1 else if x < 0 ∧ y ≤ 0 then 2 else 3
def qx (q x y : Int) : Int := if q = 0 then x else if q = 1 then y else if q = 2 then -x else -y
def qy (q x y : Int) : Int := if q = 0 then y else if q = 1 then -x else if q = 2 then -y else x
theorem qd_bd (x y : Int) : 0 ≤ qd x y ∧ qd x y ≤ 3 := by unfold qd; (repeat' split) <;> omega
theorem qd_of {q x y : Int} (h0 : 0 ≤ q) (h1 : q ≤ 3) (hx : 0 < qx q x y) (hy : 0 ≤ qy q x y) : qd x y = q := by
  obtain rfl | rfl | rfl | rfl : q = 0 ∨ q = 1 ∨ q = 2 ∨ q = 3 := by omega
  all_goals (simp [qx, qy] at hx hy; unfold qd; (repeat' split) <;> omega)
theorem qd_pos {x y : Int} (h : ¬ (x = 0 ∧ y = 0)) : 0 < qx (qd x y) x y ∧ 0 ≤ qy (qd x y) x y := by
  by_cases h1 : 0 < x ∧ 0 ≤ y
  · have e : qd x y = 0 := by unfold qd; rw [if_pos h1]
    rw [e]; simp [qx, qy]; omega
  · by_cases h2 : x ≤ 0 ∧ 0 < y
    · have e : qd x y = 1 := by unfold qd; rw [if_neg h1, if_pos h2]
      rw [e]; simp [qx, qy]; omega
    · by_cases h3 : x < 0 ∧ y ≤ 0
      · have e : qd x y = 2 := by unfold qd; rw [if_neg h1, if_neg h2, if_pos h3]
        rw [e]; simp [qx, qy]; omega
      · have e : qd x y = 3 := by unfold qd; rw [if_neg h1, if_neg h2, if_neg h3]
        rw [e]; simp [qx, qy]; omega
theorem q_bd {q x y b : Int} (h0 : -b ≤ x ∧ x ≤ b) (h1 : -b ≤ y ∧ y ≤ b) : (-b ≤ qx q x y ∧ qx q x y ≤ b) ∧ -b ≤ qy q x y ∧ qy q x y ≤ b := by
  unfold qx qy; (repeat' split) <;> omega

/-- The angle of a vector that is not 0 and not shortened. -/
def ang0 (x y : Int) : Int := 16384 * qd x y + fa (qx (qd x y) x y) (qy (qd x y) x y)
theorem ang0_bd (x y : Int) : 0 ≤ ang0 x y ∧ ang0 x y ≤ 65535 := by
  have := qd_bd x y; have := fa_bd (qx (qd x y) x y) (qy (qd x y) x y); unfold ang0; omega

/-! Cross products with the directions. -/
def crs (a x y : Int) : Int := cs a * y - sn a * x
def dot (a x y : Int) : Int := cs a * x + sn a * y
theorem crs_q {a q r x y : Int} (hq : 0 ≤ q) (hq' : q ≤ 3) (h0 : 0 ≤ r) (h1 : r ≤ 16384) (h : (a - 16384 * q - r) % 65536 = 0) :
    crs a x y = qs (16384 - r) * qy q x y - qs r * qx q x y ∧ dot a x y = qs (16384 - r) * qx q x y + qs r * qy q x y := by
  obtain ⟨e1, e2⟩ := rep_cs hq hq' h0 h1 h
  unfold crs dot; rw [e1, e2]
  generalize qs (16384 - r) = c; generalize qs r = s
  obtain rfl | rfl | rfl | rfl : q = 0 ∨ q = 1 ∨ q = 2 ∨ q = 3 := by omega
  all_goals (simp [qx, qy, cosq, sinq] <;> grind)

theorem cone_pos {C S U V X Y : Int} (hS : 0 ≤ S) (hU : 0 ≤ U) (hV : 0 < V) (hC' : 0 < C) (h : 0 < C * V - S * U) (A : 0 ≤ C * Y - S * X) (B : U * Y - V * X < 0) : 0 < X ∧ 0 ≤ Y := by
  have p1 := Int.mul_nonneg hU A
  have p2 := Int.mul_pos hC' (show 0 < V * X - U * Y by omega)
  have e1 : U * (C * Y - S * X) + C * (V * X - U * Y) = (C * V - S * U) * X := by grind
  have p3 := Int.mul_nonneg (Int.le_of_lt hV) A
  have p4 := Int.mul_nonneg hS (show 0 ≤ V * X - U * Y by omega)
  have e2 : V * (C * Y - S * X) + S * (V * X - U * Y) = (C * V - S * U) * Y := by grind
  constructor
  · rcases (show 0 < X ∨ X ≤ 0 by omega) with k | k
    · exact k
    · have := Int.mul_nonneg (Int.le_of_lt h) (show 0 ≤ -X by omega); rw [Int.mul_neg] at this; omega
  · rcases (show Y < 0 ∨ 0 ≤ Y by omega) with k | k
    · have := Int.mul_pos h (show 0 < -Y by omega); rw [Int.mul_neg] at this; omega
    · exact k

theorem ang_uniq {x y k : Int} (A : 0 ≤ crs k x y) (B : crs (k + 1) x y < 0) : ang0 x y = nrm k := by
  obtain ⟨q, r, hq, hq', h0, h1, h⟩ := rep_ex k
  rw [(crs_q hq hq' h0 (by omega) h).1] at A
  rw [(crs_q (a := k + 1) hq hq' (r := r + 1) (by omega) (by omega) (by omega)).1] at B
  have t := turn_q h0 h1
  have b1 := (qs_bd (r := r) h0 (by omega)).1
  have b2 := (qs_bd (r := 16384 - (r + 1)) (by omega) (by omega)).1
  have b3 := (qs_bd (r := r + 1) (by omega) (by omega)).1
  have hV : 0 < qs (r + 1) := by
    rcases (show 0 < qs (r + 1) ∨ qs (r + 1) ≤ 0 by omega) with k | k
    · exact k
    · have e : qs (r + 1) = 0 := by omega
      have := Int.mul_nonneg b1 b2
      rw [e, Int.mul_zero] at t; omega
  obtain ⟨hx, hy⟩ := cone_pos b1 b2 hV (pos_q h0 h1) (by omega) A B
  have e := qd_of hq hq' hx hy
  have f := fa_uniq hx hy h0 h1 (by omega) (by omega)
  unfold ang0; rw [e, f]; unfold nrm; omega
theorem ang_at {x y : Int} (h : ¬ (x = 0 ∧ y = 0)) : 0 ≤ crs (ang0 x y) x y ∧ crs (ang0 x y + 1) x y < 0 ∧ 0 < dot (ang0 x y) x y := by
  obtain ⟨hx, hy⟩ := qd_pos h
  obtain ⟨hq, hq'⟩ := qd_bd x y
  have a := fa_at (x := qx (qd x y) x y) hy
  have b := fa_next (y := qy (qd x y) x y) hx
  obtain ⟨f0, f1⟩ := fa_bd (qx (qd x y) x y) (qy (qd x y) x y)
  have e : ang0 x y = 16384 * qd x y + fa (qx (qd x y) x y) (qy (qd x y) x y) := rfl
  generalize ang0 x y = k at *
  generalize fa (qx (qd x y) x y) (qy (qd x y) x y) = r at *
  obtain ⟨c1, c2⟩ := crs_q (a := k) (x := x) (y := y) hq hq' f0 (by omega) (by omega)
  obtain ⟨c3, -⟩ := crs_q (a := k + 1) (x := x) (y := y) hq hq' (r := r + 1) (by omega) (by omega) (by omega)
  rw [c1, c2, c3]
  refine ⟨by omega, by omega, ?_⟩
  have m1 := Int.mul_pos (pos_q f0 f1) hx
  have m2 := Int.mul_nonneg (qs_bd (r := r) f0 (by omega)).1 hy
  omega

/-! Shortened vectors. -/
def big (x y : Int) : Prop := 1099511627776 < x ∨ x < -1099511627776 ∨ 1099511627776 < y ∨ y < -1099511627776
instance (x y : Int) : Decidable (big x y) := inferInstanceAs (Decidable (_ ∨ _))
def shx : Nat → Int → Int → Int
  | 0, x, _ => x
  | n + 1, x, y => if big x y then shx n (x.tdiv 2) (y.tdiv 2) else x
def shy : Nat → Int → Int → Int
  | 0, _, y => y
  | n + 1, x, y => if big x y then shy n (x.tdiv 2) (y.tdiv 2) else y
theorem sh_small {x y : Int} (h : ¬ big x y) (n : Nat) : shx n x y = x ∧ shy n x y = y := by
  cases n with
  | zero => exact ⟨rfl, rfl⟩
  | succ n => unfold shx shy; rw [if_neg h, if_neg h]; exact ⟨rfl, rfl⟩
theorem sh_step {x y : Int} (h : big x y) (n : Nat) : shx (n + 1) x y = shx n (x.tdiv 2) (y.tdiv 2) ∧ shy (n + 1) x y = shy n (x.tdiv 2) (y.tdiv 2) := by
  constructor
  · show (if big x y then _ else _) = _; rw [if_pos h]
  · show (if big x y then _ else _) = _; rw [if_pos h]
/-- A vector of 64-bit ints, less and less so. -/
def Fits (n : Nat) (x y : Int) : Prop := -(1099511627776 * 2 ^ n) ≤ x ∧ x ≤ 1099511627776 * 2 ^ n ∧ -(1099511627776 * 2 ^ n) ≤ y ∧ y ≤ 1099511627776 * 2 ^ n
theorem fits_not {x y : Int} (h : Fits 0 x y) : ¬ big x y := by unfold Fits at h; unfold big; omega
theorem tdiv2 (x : Int) : x.tdiv 2 = if 0 ≤ x then x / 2 else -(-x / 2) := by
  split
  · exact Int.tdiv_eq_ediv_of_nonneg (by omega)
  · rw [show x.tdiv 2 = -((-x).tdiv 2) by rw [Int.neg_tdiv, Int.neg_neg], Int.tdiv_eq_ediv_of_nonneg (by omega)]
theorem fits_step {n : Nat} {x y : Int} (h : Fits (n + 1) x y) : Fits n (x.tdiv 2) (y.tdiv 2) := by
  unfold Fits at *
  rw [Int.pow_succ] at h
  rw [tdiv2, tdiv2]
  generalize (2 : Int) ^ n = p at *
  split <;> split <;> omega
theorem big_step {x y : Int} (h : big x y) : ¬ (x.tdiv 2 = 0 ∧ y.tdiv 2 = 0) := by
  rw [tdiv2, tdiv2]; unfold big at h; split <;> split <;> omega
theorem sh_fits (n : Nat) : ∀ x y, Fits n x y → ¬ big (shx n x y) (shy n x y) := by
  induction n with
  | zero => intro x y h; exact fits_not h
  | succ n ih =>
    intro x y h
    by_cases hb : big x y
    · obtain ⟨e1, e2⟩ := sh_step hb n; rw [e1, e2]; exact ih _ _ (fits_step h)
    · obtain ⟨e1, e2⟩ := sh_small hb (n + 1); rw [e1, e2]; exact hb
theorem sh_ne (n : Nat) : ∀ x y, ¬ (x = 0 ∧ y = 0) → ¬ (shx n x y = 0 ∧ shy n x y = 0) := by
  induction n with
  | zero => intro x y h; exact h
  | succ n ih =>
    intro x y h
    by_cases hb : big x y
    · obtain ⟨e1, e2⟩ := sh_step hb n; rw [e1, e2]; exact ih _ _ (big_step hb)
    · obtain ⟨e1, e2⟩ := sh_small hb (n + 1); rw [e1, e2]; exact h

/-- The vector whose direction is meant. -/
def vx (x y : Int) : Int := if x = 0 ∧ y = 0 then 1 else shx 23 x y
def vy (x y : Int) : Int := if x = 0 ∧ y = 0 then 0 else shy 23 x y
theorem vx_0 : vx 0 0 = 1 ∧ vy 0 0 = 0 := by unfold vx vy; simp
theorem v_of {x y : Int} (h : ¬ (x = 0 ∧ y = 0)) : vx x y = shx 23 x y ∧ vy x y = shy 23 x y := by unfold vx vy; rw [if_neg h, if_neg h]; exact ⟨rfl, rfl⟩
theorem v_small {x y : Int} (h : ¬ (x = 0 ∧ y = 0)) (hb : ¬ big x y) : vx x y = x ∧ vy x y = y := by
  obtain ⟨e1, e2⟩ := v_of h; obtain ⟨e3, e4⟩ := sh_small hb 23; rw [e1, e2, e3, e4]; exact ⟨rfl, rfl⟩
theorem fits_i64 {x y : Int} (hx : -9223372036854775808 ≤ x ∧ x ≤ 9223372036854775807) (hy : -9223372036854775808 ≤ y ∧ y ≤ 9223372036854775807) : Fits 23 x y := by
  unfold Fits; omega
theorem v_ne {x y : Int} : ¬ (vx x y = 0 ∧ vy x y = 0) := by
  by_cases h : x = 0 ∧ y = 0
  · obtain ⟨rfl, rfl⟩ := h; rw [vx_0.1]; omega
  · obtain ⟨e1, e2⟩ := v_of h; rw [e1, e2]; exact sh_ne 23 x y h
theorem v_bd {x y : Int} (hx : -9223372036854775808 ≤ x ∧ x ≤ 9223372036854775807) (hy : -9223372036854775808 ≤ y ∧ y ≤ 9223372036854775807) : (-1099511627776 ≤ vx x y ∧ vx x y ≤ 1099511627776) ∧ -1099511627776 ≤ vy x y ∧ vy x y ≤ 1099511627776 := by
  by_cases h : x = 0 ∧ y = 0
  · obtain ⟨rfl, rfl⟩ := h; rw [vx_0.1, vx_0.2]; omega
  · obtain ⟨e1, e2⟩ := v_of h; have := sh_fits 23 x y (fits_i64 hx hy); rw [e1, e2]; unfold big at this; omega

/-- The angle of any vector. -/
def ang (x y : Int) : Int := ang0 (vx x y) (vy x y)
theorem ang_bd (x y : Int) : 0 ≤ ang x y ∧ ang x y ≤ 65535 := ang0_bd _ _
theorem ang_small {x y : Int} (h : ¬ (x = 0 ∧ y = 0)) (hb : ¬ big x y) : ang x y = ang0 x y := by
  unfold ang; obtain ⟨e1, e2⟩ := v_small h hb; rw [e1, e2]
theorem ang_is {x y k : Int} (hb : ¬ big x y) (A : 0 ≤ crs k x y) (B : crs (k + 1) x y < 0) : ang x y = nrm k := by
  have h : ¬ (x = 0 ∧ y = 0) := by rintro ⟨rfl, rfl⟩; unfold crs at B; simp at B
  rw [ang_small h hb]; exact ang_uniq A B

/-- Two directions compared. -/
def sgn (d : Int) : Int := if d < 0 then -1 else if d = 0 then 0 else 1
def cmpq (p X Y q U V : Int) : Int := if p < q then -1 else if q < p then 1 else sgn (Y * U - V * X)
def cmp0 (x y u v : Int) : Int := cmpq (qd x y) (qx (qd x y) x y) (qy (qd x y) x y) (qd u v) (qx (qd u v) u v) (qy (qd u v) u v)
def cmpd (x y u v : Int) : Int := cmp0 (vx x y) (vy x y) (vx u v) (vy u v)
end Go.Proofs.YtecpkggnjajppaaDoor
