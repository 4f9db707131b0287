/- Division bit by bit: the plain mathematics. -/
import Derived.Test.YtimpgdkeiopboaaDoorMbig
namespace Go.Proofs.YtimpgdkeiopboaaDoor

theorem dbl_step {S X x r c c' d pk : Nat} (h : S + c * pk = 2 * X + d) (h2 : r + c' * 4294967296 = 2 * x + c) : S + r * pk + c' * (4294967296 * pk) = 2 * (X + x * pk) + d := by
  have e : (r + c' * 4294967296) * pk = (2 * x + c) * pk := by rw [h2]
  grind
theorem dbl_word {x c : Nat} (hx : x < 4294967296) (hc : c ≤ 1) : x * 2 % 4294967296 ||| c = x * 2 % 4294967296 + c ∧ x * 2 % 4294967296 + c < 4294967296 ∧ x / 2147483648 ≤ 1 ∧ (x * 2 % 4294967296 + c) + x / 2147483648 * 4294967296 = 2 * x + c := by
  have e := or_add (a := c) (b := x % 2147483648) (p := 1) (by omega)
  rw [Nat.or_comm] at e
  have e2 : x * 2 % 4294967296 = x % 2147483648 * 2 ^ 1 := by omega
  rw [e2, e]
  omega
theorem bit_top (m s : Nat) : m / 2 ^ s = 2 * (m / 2 ^ (s + 1)) + m / 2 ^ s % 2 := by
  have : m / 2 ^ (s + 1) = m / 2 ^ s / 2 := by rw [Nat.pow_succ, Nat.div_div_eq_div_mul]
  omega
theorem div_lt' {m s K n R d : Nat} (h : m / 2 ^ (s + 1) = K * n + R) (hd : m / 2 ^ s % 2 = d) : m / 2 ^ s = 2 * K * n + (2 * R + d) := by
  rw [bit_top, h, hd]; grind
theorem div_ge' {m s K n R d : Nat} (h : m / 2 ^ (s + 1) = K * n + R) (hd : m / 2 ^ s % 2 = d) (hn : n ≤ 2 * R + d) : m / 2 ^ s = (2 * K + 1) * n + (2 * R + d - n) := by
  have := div_lt' h hd
  rw [this]
  have e : (2 * K + 1) * n = 2 * K * n + n := by grind
  rw [e]; omega
theorem q_word (K s : Nat) : dg (K * 2 ^ (s + 1)) (s / 32) = K % 2 ^ (31 - s % 32) * 2 ^ (s % 32 + 1) := by
  unfold dg
  have e : K * 2 ^ (s + 1) = K * 2 ^ (s % 32 + 1) * pB (s / 32) := by
    rw [pB_two, Nat.mul_assoc, ← Nat.pow_add]; congr 2; omega
  rw [e, Nat.mul_div_cancel _ (pB_pos _)]
  have e2 : 4294967296 = 2 ^ (31 - s % 32) * 2 ^ (s % 32 + 1) := by
    rw [← Nat.pow_add, show 31 - s % 32 + (s % 32 + 1) = 32 by omega]
  rw [e2, Nat.mul_mod_mul_right]
theorem q_or (K s : Nat) : dg (K * 2 ^ (s + 1)) (s / 32) ||| 2 ^ (s % 32) = dg (K * 2 ^ (s + 1)) (s / 32) + 2 ^ (s % 32) ∧ dg (K * 2 ^ (s + 1)) (s / 32) + 2 ^ (s % 32) < 4294967296 := by
  rw [q_word]
  have h1 : 2 ^ (s % 32) < 2 ^ (s % 32 + 1) := by rw [Nat.pow_succ]; have := p2_pos (s % 32); omega
  have e := or_add (a := 2 ^ (s % 32)) (b := K % 2 ^ (31 - s % 32)) (p := s % 32 + 1) h1
  rw [Nat.or_comm] at e
  refine ⟨by rw [e, Nat.add_comm], ?_⟩
  have h2 : K % 2 ^ (31 - s % 32) + 1 ≤ 2 ^ (31 - s % 32) := Nat.mod_lt _ (p2_pos _)
  have h3 := Nat.mul_le_mul_right (2 ^ (s % 32 + 1)) h2
  rw [← Nat.pow_add, show 31 - s % 32 + (s % 32 + 1) = 32 by omega, Nat.add_mul, Nat.one_mul] at h3
  have : (2 : Nat) ^ 32 = 4294967296 := by decide
  omega
theorem valN_upd_in {f : Nat → Nat} {k v : Nat} (n : Nat) (hk : k < n) (h : f k ≤ v) : valN (upd f k v) n = valN f n + (v - f k) * pB k := by
  induction n with
  | zero => omega
  | succ n ih =>
    by_cases he : k = n
    · subst he
      rw [valN_upd, valN, Nat.add_assoc, ← Nat.add_mul, Nat.add_sub_cancel' h]
    · rw [valN, valN, ih (by omega), upd_ne _ (by omega)]; omega
theorem q_val (K s : Nat) : K * 2 ^ (s + 1) + 2 ^ (s % 32) * pB (s / 32) = (2 * K + 1) * 2 ^ s := by
  have := two_pow_split s
  rw [Nat.mul_comm (2 ^ (s % 32)), ← this, Nat.pow_succ]; grind
theorem q_val0 (K s : Nat) : K * 2 ^ (s + 1) = 2 * K * 2 ^ s := by rw [Nat.pow_succ]; grind
end Go.Proofs.YtimpgdkeiopboaaDoor
