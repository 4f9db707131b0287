/- Sums of angles: directions multiplied. -/
import Derived.Test.YtecpkggnjajppaaDoorArcm
namespace Go.Proofs.YtecpkggnjajppaaDoor
open Go.RowKit

structure Gi where
  re : Int
  im : Int
theorem Gi.same {a b : Gi} (h : a.re = b.re) (h' : a.im = b.im) : a = b := by cases a; cases b; simp at h h'; simp [h, h']
def gm (a b : Gi) : Gi := ⟨a.re * b.re - a.im * b.im, a.re * b.im + a.im * b.re⟩
def gc (a : Gi) : Gi := ⟨a.re, -a.im⟩
def gp (a : Gi) : Nat → Gi
  | 0 => ⟨1, 0⟩
  | n + 1 => gm (gp a n) a
theorem gm_comm (a b : Gi) : gm a b = gm b a := Gi.same (by simp only [gm]; grind) (by simp only [gm]; grind)
theorem gm_assoc (a b c : Gi) : gm (gm a b) c = gm a (gm b c) := Gi.same (by simp only [gm]; grind) (by simp only [gm]; grind)
theorem gm_one (a : Gi) : gm a ⟨1, 0⟩ = a := Gi.same (by simp [gm]) (by simp [gm])
theorem gc_gm (a b : Gi) : gc (gm a b) = gm (gc a) (gc b) := Gi.same (by simp only [gm, gc]; grind) (by simp only [gm, gc]; grind)
theorem gc_gc (a : Gi) : gc (gc a) = a := Gi.same rfl (by simp [gc])
theorem gp_add (a : Gi) (m n : Nat) : gp a (m + n) = gm (gp a m) (gp a n) := by
  induction n with
  | zero => exact (gm_one _).symm
  | succ n ih => show gm (gp a (m + n)) a = gm (gp a m) (gm (gp a n) a); rw [ih, gm_assoc]
instance : Std.Associative gm := ⟨gm_assoc⟩
instance : Std.Commutative gm := ⟨gm_comm⟩

def gU : Gi := ⟨6314, 155⟩
def gV : Gi := ⟨20861, 2⟩
def gD (a : Int) : Gi := ⟨cs a, sn a⟩
/-- Within 1/K of the direction of the first axis. -/
def Near (K : Int) (g : Gi) : Prop := 0 < g.re ∧ -g.re ≤ K * g.im ∧ K * g.im ≤ g.re
theorem near_tst {z : Gi} {a : Nat} (h : tst z.re z.im (cs a) (sn a) = true) : Near 18700 (gm (gc z) (gD a)) := by
  unfold tst at h
  simp only [Bool.and_eq_true, decide_eq_true_eq] at h
  have e1 : (gm (gc z) (gD a)).re = z.re * cs a + z.im * sn a := by simp only [gm, gc, gD]; grind
  have e2 : (gm (gc z) (gD a)).im = z.re * sn a - z.im * cs a := by simp only [gm, gc, gD]; grind
  unfold Near; rw [e1, e2]; exact h
theorem chk_at (n : Nat) : ∀ (a : Nat) (z : Gi), chk n a z.re z.im = true → ∀ f, f < n → Near 18700 (gm (gc (gm z (gp gV f))) (gD ((a + f : Nat) : Int))) := by
  induction n with
  | zero => intro a z h f hf; omega
  | succ n ih =>
    intro a z h f hf
    unfold chk at h
    rw [Bool.and_eq_true] at h
    cases f with
    | zero => show Near 18700 (gm (gc (gm z ⟨1, 0⟩)) _); rw [gm_one]; exact near_tst h.1
    | succ f =>
      have := ih (a + 1) (gm z gV) h.2 f (by omega)
      rw [show a + 1 + f = a + (f + 1) by omega, gm_assoc, gm_comm gV] at this
      exact this
theorem chk2_at (n : Nat) : ∀ (k : Nat) (z : Gi), chk2 n k z.re z.im = true → ∀ j, j < n → chk 256 (256 * (k + j)) (gm z (gp gU j)).re (gm z (gp gU j)).im = true := by
  induction n with
  | zero => intro k z h j hj; omega
  | succ n ih =>
    intro k z h j hj
    unfold chk2 at h
    rw [Bool.and_eq_true] at h
    cases j with
    | zero => rw [show gp gU 0 = ⟨1, 0⟩ from rfl, gm_one]; exact h.1
    | succ j =>
      have := ih (k + 1) (gm z gU) h.2 j (by omega)
      rw [show k + 1 + j = k + (j + 1) by omega, gm_assoc, gm_comm gU] at this
      exact this
def gZ (k f : Nat) : Gi := gm (gp gU k) (gp gV f)
theorem near_all {k f : Nat} (hk : k < 129) (hf : f < 256) : Near 18700 (gm (gc (gZ k f)) (gD ((256 * k + f : Nat) : Int))) := by
  have h := chk2_at 129 0 ⟨1, 0⟩ chk_all k hk
  rw [gm_comm, gm_one, Nat.zero_add] at h
  exact chk_at 256 _ _ h f hf

/-- Angles near the first axis add up. -/
theorem near_mul {K L M : Int} {a b : Gi} (hK : 0 < K) (hL : 0 < L) (hM : 0 < M) (h : M * (K + L) ≤ K * L - 1) (ha : Near K a) (hb : Near L b) : Near M (gm a b) := by
  obtain ⟨a0, a1, a2⟩ := ha
  obtain ⟨b0, b1, b2⟩ := hb
  obtain ⟨x, y⟩ := a
  obtain ⟨u, v⟩ := b
  simp only [Near, gm] at *
  have p := Int.mul_pos a0 b0
  have hKL := Int.mul_pos hK hL
  have bd : ∀ {s t S T : Int}, -S ≤ s → s ≤ S → -T ≤ t → t ≤ T → 0 < S → -(S * T) ≤ s * t ∧ s * t ≤ S * T := fun {s t S T} c1 c2 c3 c4 c5 => by
    have m1 := Int.mul_nonneg (show 0 ≤ S + s by omega) (show 0 ≤ T + t by omega)
    have m2 := Int.mul_nonneg (show 0 ≤ S - s by omega) (show 0 ≤ T - t by omega)
    have m3 := Int.mul_nonneg (show 0 ≤ S + s by omega) (show 0 ≤ T - t by omega)
    have m4 := Int.mul_nonneg (show 0 ≤ S - s by omega) (show 0 ≤ T + t by omega)
    constructor <;> grind
  have q := bd a1 a2 b1 b2 a0
  have i1 := Int.mul_le_mul_of_nonneg_left a2 (show 0 ≤ u by omega)
  have i2 := Int.mul_le_mul_of_nonneg_left a1 (show 0 ≤ u by omega)
  have i3 := Int.mul_le_mul_of_nonneg_left b2 (show 0 ≤ x by omega)
  have i4 := Int.mul_le_mul_of_nonneg_left b1 (show 0 ≤ x by omega)
  have hp := Int.mul_le_mul_of_nonneg_right h (Int.le_of_lt p)
  have r1 : (K * L - 1) * (x * u) ≤ (K * L) * (x * u - y * v) := by grind
  have r2 : (K * L) * (x * v + y * u) ≤ (K + L) * (x * u) := by
    have t1 := Int.mul_le_mul_of_nonneg_left i3 (Int.le_of_lt hK)
    have t2 := Int.mul_le_mul_of_nonneg_left i1 (Int.le_of_lt hL)
    grind
  have r3 : -((K + L) * (x * u)) ≤ (K * L) * (x * v + y * u) := by
    have t1 := Int.mul_le_mul_of_nonneg_left i4 (Int.le_of_lt hK)
    have t2 := Int.mul_le_mul_of_nonneg_left i2 (Int.le_of_lt hL)
    grind
  have r4 := Int.mul_le_mul_of_nonneg_left r2 (Int.le_of_lt hM)
  have r5 := Int.mul_le_mul_of_nonneg_left r3 (Int.le_of_lt hM)
  have hKL1 : 0 < K * L - 1 := by
    have := Int.mul_pos hM (show 0 < K + L by omega); omega
  have pos := Int.mul_pos hKL1 p
  have canc : ∀ {z : Int}, 0 < K * L * z → 0 < z := fun {z} hz => by
    rcases (show 0 < z ∨ z ≤ 0 by omega) with k | k
    · exact k
    · have := Int.mul_nonneg (Int.le_of_lt hKL) (show 0 ≤ -z by omega); rw [Int.mul_neg] at this; omega
  have canc' : ∀ {z : Int}, 0 ≤ K * L * z → 0 ≤ z := fun {z} hz => by
    rcases (show 0 ≤ z ∨ z < 0 by omega) with k | k
    · exact k
    · have := Int.mul_pos hKL (show 0 < -z by omega); rw [Int.mul_neg] at this; omega
  refine ⟨canc (by omega), ?_, ?_⟩
  · have := canc' (z := M * (x * v + y * u) + (x * u - y * v)) (by grind)
    omega
  · have := canc' (z := (x * u - y * v) - M * (x * v + y * u)) (by grind)
    omega
end Go.Proofs.YtecpkggnjajppaaDoor
