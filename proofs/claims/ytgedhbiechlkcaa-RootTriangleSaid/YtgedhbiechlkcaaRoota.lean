/- Mathematics of integer square roots. -/
import Derived.Test.YtgedhbiechlkcaaNum
namespace Go.Proofs.Ytgedhbiechlkcaa

/-- The search for a root from the highest bit down, k bits left. -/
def rtG (n : Int) : Nat → Int → Int
  | 0, r => r
  | k + 1, r => if (r + 2 ^ k) * (r + 2 ^ k) ≤ n then rtG n k (r + 2 ^ k) else rtG n k r
/-- The greatest number whose square is at most n; 0 below 0. -/
def rt (n : Int) : Int := if n < 0 then 0 else rtG n 32 0
/-- r is the root of n. -/
def Rt (n r : Int) : Prop := 0 ≤ r ∧ r * r ≤ n ∧ n < (r + 1) * (r + 1)

theorem two_succ (k : Nat) : (2 : Int) ^ (k + 1) = 2 ^ k + 2 ^ k := by rw [Int.pow_succ]; omega
theorem rtG_sp (n : Int) : ∀ (k : Nat) (r : Int), 0 ≤ r → r * r ≤ n → n < (r + 2 ^ k) * (r + 2 ^ k) → Rt n (rtG n k r)
  | 0, r, h0, h1, h2 => ⟨h0, h1, by simpa [rtG] using h2⟩
  | k + 1, r, h0, h1, h2 => by
    have p := pow_pos k
    rw [two_succ] at h2
    simp only [rtG]
    split
    · rename_i h; exact rtG_sp n k _ (by omega) h (by rw [show r + 2 ^ k + 2 ^ k = r + (2 ^ k + 2 ^ k) by omega]; exact h2)
    · rename_i h; exact rtG_sp n k r h0 h1 (by omega)
theorem rt_sp {n : Int} (h0 : 0 ≤ n) (h1 : n ≤ 9223372036854775807) : Rt n (rt n) := by
  unfold rt; rw [if_neg (by omega)]
  exact rtG_sp n 32 0 (by omega) (by omega) (by rw [show (0 + (2 : Int) ^ 32) * (0 + 2 ^ 32) = 18446744073709551616 by decide]; omega)
theorem sq_le {a b : Int} (h0 : 0 ≤ a) (h : a ≤ b) : a * a ≤ b * b := Int.mul_le_mul h h h0 (by omega)
theorem le_of_sq {a b n : Int} (hb : 0 ≤ b) (h1 : a * a ≤ n) (h2 : n < (b + 1) * (b + 1)) : a ≤ b := by
  by_cases h : a ≤ b
  · exact h
  · have := sq_le (a := b + 1) (b := a) (by omega) (by omega); omega
theorem Rt.uniq {n r s : Int} (h : Rt n r) (k : Rt n s) : r = s := by
  have a := le_of_sq k.1 h.2.1 k.2.2
  have b := le_of_sq h.1 k.2.1 h.2.2
  omega
theorem rt_is {n r : Int} (h1 : n ≤ 9223372036854775807) (h : Rt n r) : rt n = r :=
  Rt.uniq (rt_sp (by have := h.2.1; have := Int.mul_nonneg h.1 h.1; omega) h1) h
theorem rt_neg {n : Int} (h : n < 0) : rt n = 0 := by unfold rt; rw [if_pos h]
theorem rt_bd {n : Int} (h1 : n ≤ 9223372036854775807) : 0 ≤ rt n ∧ rt n ≤ 3037000499 := by
  by_cases h : n < 0
  · rw [rt_neg h]; omega
  · obtain ⟨a, b, _⟩ := rt_sp (by omega) h1
    exact ⟨a, le_of_sq (by omega) (Int.le_trans b h1) (by omega)⟩
theorem rtG_ge (n : Int) : ∀ (k : Nat) (r : Int), r ≤ rtG n k r
  | 0, r => by simp [rtG]
  | k + 1, r => by
    have p := pow_pos k
    simp only [rtG]; split
    · have := rtG_ge n k (r + 2 ^ k); omega
    · exact rtG_ge n k r

/-- The least number of at least 0 whose square is at least n. -/
def up (n : Int) : Int := if rt n * rt n < n then rt n + 1 else rt n
/-- u is the root of n, rounded up. -/
def Ru (n u : Int) : Prop := 0 ≤ u ∧ n ≤ u * u ∧ (0 < u → (u - 1) * (u - 1) < n)
theorem up_neg {n : Int} (h : n ≤ 0) : up n = 0 := by
  unfold up
  by_cases h2 : n < 0
  · rw [rt_neg h2]; omega
  · obtain rfl : n = 0 := by omega
    rw [rt_is (r := 0) (by omega) ⟨by omega, by omega, by omega⟩]; omega
theorem up_sp {n : Int} (h0 : 0 ≤ n) (h1 : n ≤ 9223372036854775807) : Ru n (up n) := by
  obtain ⟨a, b, c⟩ := rt_sp h0 h1
  unfold up
  split
  · rename_i h
    exact ⟨by omega, by omega, fun _ => by rw [show rt n + 1 - 1 = rt n by omega]; exact h⟩
  · rename_i h
    refine ⟨a, by omega, fun hp => ?_⟩
    have e : (rt n - 1) * (rt n - 1) = rt n * rt n - 2 * rt n + 1 := by grind
    omega
theorem Ru.uniq {n r s : Int} (h : Ru n r) (k : Ru n s) : r = s := by
  obtain ⟨a, b, c⟩ := h
  obtain ⟨d, e, f⟩ := k
  have key : ∀ {x y : Int}, 0 ≤ x → n ≤ x * x → 0 ≤ y → (0 < y → (y - 1) * (y - 1) < n) → y ≤ x := by
    intro x y hx h1 hy h2
    by_cases h : y ≤ x
    · exact h
    · have := h2 (by omega)
      have := sq_le (a := x) (b := y - 1) hx (by omega)
      omega
  have := key a b d f
  have := key d e a c
  omega
theorem up_is {n r : Int} (h0 : 0 ≤ n) (h1 : n ≤ 9223372036854775807) (h : Ru n r) : up n = r := (up_sp h0 h1).uniq h
theorem up_bd {n : Int} (h1 : n ≤ 9223372036854775807) : 0 ≤ up n ∧ up n ≤ 3037000500 := by
  have := rt_bd h1; unfold up; split <;> omega
end Go.Proofs.Ytgedhbiechlkcaa
