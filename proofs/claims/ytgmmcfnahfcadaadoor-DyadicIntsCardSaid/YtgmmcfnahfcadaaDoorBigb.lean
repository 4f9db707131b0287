/- Plain mathematics: shifts and quotients of words. -/
import Derived.Test.YtgmmcfnahfcadaaDoorBig
namespace Go.Proofs.YtgmmcfnahfcadaaDoor

theorem two_pow_split (n : Nat) : 2 ^ n = pB (n / 32) * 2 ^ (n % 32) := by
  rw [pB_two, ← Nat.pow_add]; congr 1; omega
theorem p2_pos (n : Nat) : 0 < 2 ^ n := Nat.pow_pos (by decide)
theorem p2_split {p : Nat} (h : p ≤ 32) : 2 ^ p * 2 ^ (32 - p) = 4294967296 := by
  rw [← Nat.pow_add, show p + (32 - p) = 32 by omega]
theorem p2_le {p q : Nat} (h : p ≤ q) : 2 ^ p ≤ 2 ^ q := Nat.pow_le_pow_right (by decide) h

theorem dg_shr (m n i : Nat) : dg (m / 2 ^ n) i = (dg m (n / 32 + i) + dg m (n / 32 + i + 1) * 4294967296) / 2 ^ (n % 32) % 4294967296 := by
  have hs := p2_split (p := n % 32) (by omega)
  have hp := p2_pos (n % 32)
  rw [two_pow_split, ← Nat.div_div_eq_div_mul, ← dg_div m, show n / 32 + i + 1 = n / 32 + (i + 1) by omega, ← dg_div m]
  generalize m / pB (n / 32) = M
  generalize hP : 2 ^ (n % 32) = P at *
  generalize 2 ^ (32 - n % 32) = T at *
  have h1 := div_pB_succ M i
  have h2 := div_pB_succ M (i + 1)
  generalize M / pB (i + 1 + 1) = Q2 at *
  have e : M / P / pB i = M / pB i / P := by rw [Nat.div_div_eq_div_mul, Nat.mul_comm, ← Nat.div_div_eq_div_mul]
  show M / P / pB i % 4294967296 = _
  rw [e, h1, h2]
  generalize dg M (i + 1) = d1
  generalize dg M i = d0
  have e2 : (Q2 * 4294967296 + d1) * 4294967296 + d0 = P * (Q2 * T * 4294967296) + (d0 + d1 * 4294967296) := by
    have : P * (Q2 * T * 4294967296) = Q2 * 4294967296 * 4294967296 := by
      rw [← Nat.mul_assoc P, Nat.mul_left_comm P, hs]
    omega
  rw [e2, Nat.mul_add_div hp]; omega

theorem or_add {a b p : Nat} (h : a < 2 ^ p) : a ||| b * 2 ^ p = a + b * 2 ^ p := by
  rw [Nat.mul_comm, Nat.or_comm, ← Nat.two_pow_add_eq_or_of_lt h]; omega

/-- What the code makes of two words that lie side by side. -/
theorem shr_or {x y p : Nat} (hx : x < 4294967296) (hp : p < 32) : x / 2 ^ p ||| y * 4294967296 / 2 ^ p % 4294967296 = (x + y * 4294967296) / 2 ^ p % 4294967296 := by
  have hs := p2_split (p := p) (by omega)
  have h0 := p2_pos p
  have ho := fun (a b : Nat) => @or_add a b (32 - p)
  have h1 := p2_pos (32 - p)
  generalize 2 ^ p = P at *
  generalize 2 ^ (32 - p) = T at *
  have e0 : y * 4294967296 = P * (y * T) := by rw [Nat.mul_left_comm, hs]
  have e1 : y * 4294967296 / P = y * T := by rw [e0, Nat.mul_div_cancel_left _ h0]
  have e2 : (x + y * 4294967296) / P = y * T + x / P := by
    rw [e0, Nat.add_comm, Nat.mul_add_div h0]
  have e3 : x / P < T := (Nat.div_lt_iff_lt_mul h0).2 (by rw [Nat.mul_comm, hs]; exact hx)
  have e4 : y * T % 4294967296 = (y % P) * T := by
    rw [← hs, Nat.mul_mod_mul_right]
  have h5 := Nat.mod_lt y h0
  have h6 : (y % P) * T ≤ (P - 1) * T := Nat.mul_le_mul_right _ (by omega)
  have h7 : (P - 1) * T + T = 4294967296 := by rw [← hs, ← Nat.succ_mul]; congr 1; omega
  rw [e1, e2, e4, ho _ _ e3, ← Nat.mod_add_mod, e4]
  generalize (y % P) * T = Z at *
  generalize (P - 1) * T = U at *
  rw [Nat.mod_eq_of_lt (by omega)]
  omega

theorem bit_dg (m i : Nat) : dg m (i / 32) / 2 ^ (i % 32) % 2 = m / 2 ^ i % 2 := by
  have hs := p2_split (p := i % 32) (by omega)
  have hp := p2_pos (i % 32)
  rw [two_pow_split i, ← Nat.div_div_eq_div_mul]
  unfold dg
  generalize m / pB (i / 32) = M
  obtain ⟨T, hT⟩ : ∃ T, 2 ^ (32 - i % 32) = 2 * T := ⟨2 ^ (31 - i % 32), by rw [show 32 - i % 32 = 31 - i % 32 + 1 by omega, Nat.pow_succ, Nat.mul_comm]⟩
  rw [hT] at hs
  have h1 := Nat.div_add_mod M 4294967296
  generalize M / 4294967296 = Q at *
  have e : M = 2 ^ (i % 32) * (2 * (T * Q)) + M % 4294967296 := by
    have : 2 ^ (i % 32) * (2 * (T * Q)) = 4294967296 * Q := by rw [← hs]; simp only [Nat.mul_assoc]
    omega
  conv => rhs; rw [e, Nat.mul_add_div hp]
  omega

/-- The step of a shift to the left. -/
theorem shl_step {m n i S c : Nat} (hS : S + c * pB (n / 32 + i) = m % pB i * 2 ^ n) :
    S + (c + dg m i * 2 ^ (n % 32)) % 4294967296 * pB (n / 32 + i) + (c + dg m i * 2 ^ (n % 32)) / 4294967296 * pB (n / 32 + (i + 1)) = m % pB (i + 1) * 2 ^ n := by
  have h1 := Nat.div_add_mod (c + dg m i * 2 ^ (n % 32)) 4294967296
  rw [mod_pB_succ, Nat.add_mul, ← hS, show n / 32 + (i + 1) = n / 32 + i + 1 by omega, pB_succ]
  generalize (c + dg m i * 2 ^ (n % 32)) / 4294967296 = q at *
  generalize (c + dg m i * 2 ^ (n % 32)) % 4294967296 = r at *
  have e : dg m i * pB i * 2 ^ n = dg m i * 2 ^ (n % 32) * pB (n / 32 + i) := by
    rw [two_pow_split, pB_add]
    generalize dg m i = a; generalize pB i = b; generalize pB (n / 32) = c; generalize 2 ^ (n % 32) = d
    simp only [Nat.mul_comm, Nat.mul_left_comm]
  rw [e]
  have h2 := congrArg (· * pB (n / 32 + i)) h1
  simp only [Nat.add_mul] at h2
  rw [← Nat.mul_assoc, Nat.mul_comm q]
  omega
theorem shl_carry {m n i c : Nat} (hc : c < 2 ^ (n % 32)) : (c + dg m i * 2 ^ (n % 32)) / 4294967296 < 2 ^ (n % 32) := by
  have hs := p2_split (p := n % 32) (by omega)
  have hd := dg_lt m i
  rw [Nat.div_lt_iff_lt_mul (by decide)]
  have : dg m i * 2 ^ (n % 32) ≤ 4294967295 * 2 ^ (n % 32) := Nat.mul_le_mul_right _ (by omega)
  omega
/-- What the code does with the pair: or, where the lower bits are free. -/
theorem shl_or {x c p : Nat} (hp : p < 32) (hc : c < 2 ^ p) : c ||| x * 2 ^ p % 4294967296 = (c + x * 2 ^ p) % 4294967296 ∧ x * 2 ^ p / 4294967296 = (c + x * 2 ^ p) / 4294967296 := by
  have hs := p2_split (p := p) (by omega)
  have ho := fun (b : Nat) => @or_add c b p hc
  have h0 := p2_pos (32 - p)
  have h1 := p2_pos p
  generalize 2 ^ p = P at *
  generalize 2 ^ (32 - p) = T at *
  have e4 : x * P % 4294967296 = (x % T) * P := by
    rw [← hs, Nat.mul_comm P T, Nat.mul_mod_mul_right]
  have h5 := Nat.mod_lt x h0
  have hb : (x % T) * P ≤ (T - 1) * P := Nat.mul_le_mul_right _ (by omega)
  have h7 : (T - 1) * P + P = 4294967296 := by rw [← hs, ← Nat.succ_mul, Nat.mul_comm P]; congr 1; omega
  have hm := Nat.div_add_mod (x * P) 4294967296
  rw [e4, ho]
  rw [e4] at hm
  generalize (x % T) * P = Z at *
  generalize (T - 1) * P = U at *
  generalize x * P = V at *
  omega

/-! ### Quotients -/
theorem quo_le {M N f n1 : Nat} (k : Nat) (hM : M < (f + 1) * pB k) (hN : n1 * pB k ≤ N) (h1 : 0 < n1) (t : Nat) (ht : t * N ≤ M) : t ≤ f / n1 := by
  rw [Nat.le_div_iff_mul_le h1]
  rcases Nat.lt_or_ge f (t * n1) with h | h
  · have a : (f + 1) * pB k ≤ t * n1 * pB k := Nat.mul_le_mul_right _ h
    have b : t * (n1 * pB k) ≤ t * N := Nat.mul_le_mul_left _ hN
    rw [← Nat.mul_assoc] at b
    omega
  · exact h
/-- One step of taking off times * n: carry counts what is still to be taken. -/
theorem take_step {S X c x x' r c' t pk Y : Nat} (h : S + t * Y = X + c * pk) (h2 : r + (c + t * x) = x' + c' * 4294967296) : S + r * pk + t * (Y + x * pk) = X + x' * pk + c' * (4294967296 * pk) := by
  have e := congrArg (· * pk) h2
  simp only [Nat.add_mul] at e
  rw [← Nat.mul_assoc, Nat.mul_add, ← Nat.mul_assoc t]
  omega

end Go.Proofs.YtgmmcfnahfcadaaDoor
