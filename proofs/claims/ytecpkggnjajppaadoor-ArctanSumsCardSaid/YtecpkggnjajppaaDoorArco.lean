/- Sums of angles: the product of two directions against a direction behind the sum. -/
import Derived.Test.YtecpkggnjajppaaDoorArcn
namespace Go.Proofs.YtecpkggnjajppaaDoor
open Go.RowKit

theorem near_gc {K : Int} {g : Gi} (h : Near K g) : Near K (gc g) := by
  obtain ⟨a, b, c⟩ := h
  refine ⟨a, ?_, ?_⟩
  · show -g.re ≤ K * -g.im; rw [Int.mul_neg]; omega
  · show K * -g.im ≤ g.re; rw [Int.mul_neg]; omega

/-- What the powers leave between a sum and the direction m units behind it. -/
def gM (m c : Nat) : Gi := gm (gm (gp gV m) (gp gU c)) (gc (gp gV (256 * c)))
def okM3 (m c : Nat) : Bool := decide (0 < (gM m c).re) && (decide (0 < (gM m c).im) && (decide ((gM m c).im < 6232 * (gM m c).re) && decide (6232 * (gM m c).re + (gM m c).im ≤ 8000 * (6232 * (gM m c).im - (gM m c).re))))
theorem okM_all : ∀ m < 5, 3 ≤ m → ∀ c < 3, okM3 m c = true := by decide +kernel

theorem powers {k1 f1 k2 f2 m k3 f3 c : Nat} (hk : k3 = k1 + k2 + c) (hf : f1 + f2 + m = f3 + 256 * c) :
    gm (gm (gZ k1 f1) (gZ k2 f2)) (gm (gp gV m) (gp gU c)) = gm (gZ k3 f3) (gp gV (256 * c)) := by
  have e1 : gp gU k3 = gm (gm (gp gU k1) (gp gU k2)) (gp gU c) := by rw [hk, gp_add, gp_add]
  have e2 : gm (gp gV f3) (gp gV (256 * c)) = gm (gm (gp gV f1) (gp gV f2)) (gp gV m) := by rw [← gp_add, ← hf, gp_add, gp_add]
  have e3 : gm (gZ k3 f3) (gp gV (256 * c)) = gm (gp gU k3) (gm (gp gV f3) (gp gV (256 * c))) := by unfold gZ; rw [gm_assoc]
  rw [e3, e1, e2]
  unfold gZ
  ac_rfl

/-- The product of the directions of a and b against that of j. -/
def gW (a b j : Int) : Gi := gm (gc (gm (gD a) (gD b))) (gD j)
theorem mid_eq (A B C a b d P Q : Gi) (h : gm (gm A B) P = gm C Q) : gm (gm (gc (gm (gm (gc A) a) (gm (gc B) b))) (gm (gc C) d)) (gm P (gc Q)) = gm (gm (gc (gm a b)) d) (gm (gm C Q) (gc (gm C Q))) := by
  rw [gc_gm, gc_gm (gc A), gc_gm (gc B), gc_gc, gc_gc, gc_gm a, gc_gm C]
  have e : gm (gm (gm (gm A (gc a)) (gm B (gc b))) (gm (gc C) d)) (gm P (gc Q)) = gm (gm (gm (gc a) (gc b)) d) (gm (gm (gm A B) P) (gm (gc C) (gc Q))) := by ac_rfl
  rw [e, h]

theorem core {k1 f1 k2 f2 m : Nat} (a1 : k1 < 64) (a2 : f1 < 256) (b1 : k2 < 64) (b2 : f2 < 256) (m1 : 3 ≤ m) (m2 : m < 5) :
    0 < (gW ((256 * k1 + f1 : Nat) : Int) ((256 * k2 + f2 : Nat) : Int) ((256 * k1 + f1 + (256 * k2 + f2) + m : Nat) : Int)).im ∧
    0 < (gW ((256 * k1 + f1 : Nat) : Int) ((256 * k2 + f2 : Nat) : Int) ((256 * k1 + f1 + (256 * k2 + f2) + m : Nat) : Int)).re ∧
    (gW ((256 * k1 + f1 : Nat) : Int) ((256 * k2 + f2 : Nat) : Int) ((256 * k1 + f1 + (256 * k2 + f2) + m : Nat) : Int)).re ≤ 8000 * (gW ((256 * k1 + f1 : Nat) : Int) ((256 * k2 + f2 : Nat) : Int) ((256 * k1 + f1 + (256 * k2 + f2) + m : Nat) : Int)).im := by
  obtain ⟨c, f3, hc, hf, hf3⟩ : ∃ c f3 : Nat, c < 3 ∧ f1 + f2 + m = f3 + 256 * c ∧ f3 < 256 := ⟨(f1 + f2 + m) / 256, (f1 + f2 + m) % 256, by omega, by omega, by omega⟩
  obtain ⟨k3, hk⟩ : ∃ k3, k3 = k1 + k2 + c := ⟨_, rfl⟩
  have hk3 : k3 < 129 := by omega
  have n1 := near_all (k := k1) (f := f1) (by omega) a2
  have n2 := near_all (k := k2) (f := f2) (by omega) b2
  have n3 := near_all hk3 hf3
  have hp := powers hk hf
  rw [show 256 * k1 + f1 + (256 * k2 + f2) + m = 256 * k3 + f3 by omega]
  generalize ((256 * k1 + f1 : Nat) : Int) = a at *
  generalize ((256 * k2 + f2 : Nat) : Int) = b at *
  generalize ((256 * k3 + f3 : Nat) : Int) = j at *
  have e := mid_eq _ _ _ (gD a) (gD b) (gD j) _ _ hp
  have N := near_mul (K := 9349) (L := 18700) (M := 6232) (by omega) (by omega) (by omega) (by omega) (near_gc (near_mul (K := 18700) (L := 18700) (M := 9349) (by omega) (by omega) (by omega) (by omega) n1 n2)) n3
  have ok := okM_all m m2 m1 c hc
  unfold okM3 at ok
  simp only [Bool.and_eq_true, decide_eq_true_eq] at ok
  obtain ⟨o1, o2, o3, o4⟩ := ok
  change gm _ (gM m c) = gm (gW a b j) _ at e
  generalize gm (gZ k3 f3) (gp gV (256 * c)) = R at e
  generalize gm (gc (gm (gm (gc (gZ k1 f1)) (gD a)) (gm (gc (gZ k2 f2)) (gD b)))) (gm (gc (gZ k3 f3)) (gD j)) = H at *
  generalize gM m c = M at *
  generalize gW a b j = W at *
  obtain ⟨h0, h1, h2⟩ := N
  obtain ⟨n, hn⟩ : ∃ n, R.re * R.re + R.im * R.im = n := ⟨_, rfl⟩
  have sq : ∀ x : Int, 0 ≤ x * x := fun x => by
    by_cases hh : 0 ≤ x
    · exact Int.mul_nonneg hh hh
    · have := Int.mul_nonneg (show 0 ≤ -x by omega) (show 0 ≤ -x by omega); rwa [Int.neg_mul_neg] at this
  have n0 : 0 ≤ n := by have := sq R.re; have := sq R.im; omega
  have er : H.re * M.re - H.im * M.im = W.re * n := by
    have := congrArg Gi.re e
    simp only [gm, gc] at this
    rw [← hn]; grind
  have ei : H.re * M.im + H.im * M.re = W.im * n := by
    have := congrArg Gi.im e
    simp only [gm, gc] at this
    rw [← hn]; grind
  have t1 := Int.mul_le_mul_of_nonneg_right h1 (Int.le_of_lt o1)
  have t2 := Int.mul_le_mul_of_nonneg_right h2 (Int.le_of_lt o2)
  have g1 : H.re * (6232 * M.im - M.re) ≤ 6232 * (W.im * n) := by rw [← ei]; grind
  have g2 : H.re * (6232 * M.re - M.im) ≤ 6232 * (W.re * n) := by rw [← er]; grind
  have t3 := Int.mul_le_mul_of_nonneg_right h1 (Int.le_of_lt o2)
  have g3 : 6232 * (W.re * n) ≤ H.re * (6232 * M.re + M.im) := by rw [← er]; grind
  have g4 := Int.mul_le_mul_of_nonneg_left o4 (Int.le_of_lt h0)
  have g5 : H.re * (8000 * (6232 * M.im - M.re)) = 8000 * (H.re * (6232 * M.im - M.re)) := by grind
  have p1 := Int.mul_pos h0 (show 0 < 6232 * M.im - M.re by omega)
  have p2 := Int.mul_pos h0 (show 0 < 6232 * M.re - M.im by omega)
  have canc : ∀ {z : Int}, 0 < z * n → 0 < z := fun {z} hz => by
    rcases (show 0 < z ∨ z ≤ 0 by omega) with k | k
    · exact k
    · have := Int.mul_nonneg (show 0 ≤ -z by omega) n0; rw [Int.neg_mul] at this; omega
  have w1 : 0 < W.im := canc (by omega)
  have w2 : 0 < W.re := canc (by omega)
  refine ⟨w1, w2, ?_⟩
  rcases (show W.re ≤ 8000 * W.im ∨ 0 < W.re - 8000 * W.im by omega) with k | k
  · exact k
  · have np : 0 < n := by
      rcases (show 0 < n ∨ n = 0 by omega) with k | k
      · exact k
      · rw [k, Int.mul_zero] at g1; omega
    have := Int.mul_pos k np
    have e2 : (W.re - 8000 * W.im) * n = W.re * n - 8000 * (W.im * n) := by grind
    rw [e2] at this; omega
end Go.Proofs.YtecpkggnjajppaaDoor
