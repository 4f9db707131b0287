/- Decimal texts of natural numbers, by groups of nine digits. Plain mathematics. -/
import Derived.Lib.ItoaNum
import Derived.Lib.Repeat
namespace Go.Proofs.YtcdkkohklhmpgaaGreatDoor

abbrev GG : Nat := 1000000000
def padk : Nat → Nat → List UInt8
  | 0, _ => []
  | k + 1, g => padk k (g / 10) ++ [UInt8.ofNat (48 + g % 10)]
theorem dec_big {u : Nat} (h : ¬ u < 10) : Lib.decDigits u = Lib.decDigits (u / 10) ++ [UInt8.ofNat (48 + u % 10)] := by rw [Lib.decDigits, dif_neg h]
theorem dec_small {u : Nat} (h : u < 10) : Lib.decDigits u = [UInt8.ofNat (48 + u)] := by rw [Lib.decDigits, dif_pos h]
theorem dec_split : ∀ (k q g : Nat), 0 < q → g < 10 ^ k → Lib.decDigits (q * 10 ^ k + g) = Lib.decDigits q ++ padk k g
  | 0, q, g, _, hg => by
    have : g = 0 := by simp at hg; exact hg
    subst this
    simp [padk]
  | k + 1, q, g, hq, hg => by
    have h10 : q * 10 ^ (k + 1) = q * 10 ^ k * 10 := by rw [Nat.pow_succ, Nat.mul_assoc]
    have hp : 1 ≤ q * 10 ^ k := Nat.mul_pos hq (Nat.pow_pos (by decide))
    rw [h10]
    rw [dec_big (by omega)]
    have e1 : (q * 10 ^ k * 10 + g) / 10 = q * 10 ^ k + g / 10 := by omega
    have e2 : (q * 10 ^ k * 10 + g) % 10 = g % 10 := by omega
    have hg2 : g / 10 < 10 ^ k := by rw [Nat.pow_succ] at hg; omega
    rw [e1, e2, dec_split k q (g / 10) hq hg2, padk, List.append_assoc]
theorem padk_zero : ∀ k, padk k 0 = Lib.repeatL [48] k
  | 0 => rfl
  | k + 1 => by
    rw [padk, Nat.zero_div, padk_zero k]
    have h : ∀ j, Lib.repeatL [48] j ++ [(48 : UInt8)] = (48 : UInt8) :: Lib.repeatL [48] j := by
      intro j
      induction j with
      | zero => rfl
      | succ j ih => show (48 : UInt8) :: (Lib.repeatL [48] j ++ [48]) = _; rw [ih]; rfl
    exact h k
theorem padk_eq : ∀ (k g : Nat), 0 < k → g < 10 ^ k → Lib.nDigits g ≤ k ∧ padk k g = Lib.repeatL [48] (k - Lib.nDigits g) ++ Lib.decDigits g
  | 0, _, h, _ => by omega
  | k + 1, g, _, hg => by
    by_cases h : g < 10
    · rw [Lib.nDigits_small h, dec_small h, padk, show g / 10 = 0 by omega, padk_zero, show g % 10 = g by omega]
      exact ⟨by omega, rfl⟩
    · have hk : 0 < k := by
        rcases Nat.eq_zero_or_pos k with h0 | h0
        · subst h0; simp at hg; omega
        · exact h0
      obtain ⟨h1, h2⟩ := padk_eq k (g / 10) hk (by rw [Nat.pow_succ] at hg; omega)
      rw [Lib.nDigits_big h, dec_big h, padk, h2, List.append_assoc, show k + 1 - (Lib.nDigits (g / 10) + 1) = k - Lib.nDigits (g / 10) by omega]
      exact ⟨by omega, rfl⟩
theorem dec_group {q g : Nat} (hq : 0 < q) (hg : g < GG) : Lib.nDigits g ≤ 9 ∧ Lib.decDigits (q * GG + g) = Lib.decDigits q ++ (Lib.repeatL [48] (9 - Lib.nDigits g) ++ Lib.decDigits g) := by
  have h9 : (10 : Nat) ^ 9 = GG := by decide
  have h := padk_eq 9 g (by decide) (by rw [h9]; exact hg)
  refine ⟨h.1, ?_⟩
  rw [← h.2, ← h9]
  exact dec_split 9 q g hq (by rw [h9]; exact hg)
theorem repeatL_one : ∀ c, (Lib.repeatL [48] c).length = c
  | 0 => rfl
  | c + 1 => by show (Lib.repeatL [48] c).length + 1 = _; rw [repeatL_one c]

/-- How many groups of nine digits a number has. -/
def gl (m : Nat) : Nat := if h : m = 0 then 0 else gl (m / GG) + 1
termination_by m
decreasing_by exact Nat.div_lt_self (by omega) (by decide)
theorem gl_zero : gl 0 = 0 := by rw [gl, dif_pos rfl]
theorem gl_pos {m : Nat} (h : m ≠ 0) : gl m = gl (m / GG) + 1 := by rw [gl, dif_neg h]
theorem gl_div : ∀ (j m : Nat), m / GG ^ j ≠ 0 → gl m = gl (m / GG ^ j) + j
  | 0, m, _ => by simp
  | j + 1, m, h => by
    have e : m / GG ^ (j + 1) = m / GG ^ j / GG := by rw [Nat.pow_succ, Nat.div_div_eq_div_mul]
    have h0 : m / GG ^ j ≠ 0 := fun e0 => h (by rw [e, e0, Nat.zero_div])
    rw [gl_div j m h0, gl_pos h0, e]; omega
theorem gl_of {j m : Nat} (h : m / GG ^ j = 0) (hp : j ≠ 0 → m / GG ^ (j - 1) ≠ 0) : gl m = j := by
  cases j with
  | zero => simp at h; subst h; exact gl_zero
  | succ j =>
    have h0 := hp (by omega)
    rw [show j + 1 - 1 = j by omega] at h0
    have e : m / GG ^ (j + 1) = m / GG ^ j / GG := by rw [Nat.pow_succ, Nat.div_div_eq_div_mul]
    rw [gl_div j m h0, gl_pos h0, ← e, h, gl_zero]; omega
theorem gd_lt (x : Nat) : x % GG < GG := Nat.mod_lt _ (by decide)
theorem gl_le : ∀ (m : Nat), gl m ≤ m := by
  intro m
  induction m using Nat.strongRecOn with
  | ind m ih =>
    by_cases h : m = 0
    · subst h; rw [gl_zero]; exact Nat.le_refl _
    · rw [gl_pos h]
      have h1 := ih (m / GG) (Nat.div_lt_self (by omega) (by decide))
      have : m / GG < m := Nat.div_lt_self (by omega) (by decide)
      omega
/-- The top of a number: its text grows by a group. -/
theorem top_step {m i n : Nat} (hi : i < n) : m / GG ^ (n - (i + 1)) = m / GG ^ (n - i) * GG + m / GG ^ (n - (i + 1)) % GG := by
  have e : m / GG ^ (n - i) = m / GG ^ (n - (i + 1)) / GG := by
    rw [show n - i = n - (i + 1) + 1 by omega, Nat.pow_succ, Nat.div_div_eq_div_mul]
  have h := Nat.div_add_mod (m / GG ^ (n - (i + 1))) GG
  rw [e, Nat.mul_comm]; exact h.symm
theorem top_pos {m i n : Nat} (hn : gl m = n) (hi : 0 < i) (hin : i ≤ n) : 0 < m / GG ^ (n - i) := by
  rcases Nat.eq_zero_or_pos (m / GG ^ (n - i)) with h | h
  · exfalso
    -- then fewer groups
    have : ∀ j, m / GG ^ j = 0 → gl m ≤ j := by
      intro j
      induction j with
      | zero => intro h; simp at h; subst h; rw [gl_zero]; omega
      | succ j ih =>
        intro h
        by_cases h0 : m / GG ^ j = 0
        · have := ih h0; omega
        · have e : m / GG ^ (j + 1) = m / GG ^ j / GG := by rw [Nat.pow_succ, Nat.div_div_eq_div_mul]
          rw [gl_div j m h0, gl_pos h0, ← e, h, gl_zero]; omega
    have := this _ h
    omega
  · exact h
theorem top_zero {m n : Nat} (hn : gl m = n) : m / GG ^ n = 0 := by
  subst hn
  induction m using Nat.strongRecOn with
  | ind m ih =>
    by_cases h : m = 0
    · subst h; simp
    · rw [gl_pos h, Nat.pow_succ, Nat.mul_comm, ← Nat.div_div_eq_div_mul]
      exact ih _ (Nat.div_lt_self (by omega) (by decide))

/-- Division by a small number, from the top: one word. -/
theorem div_step {r D B low d k : Nat} (hD : 0 < D) (hlow : r / B ^ (k + 1) % D = low) (hd : r / B ^ k % B = d) :
    r / B ^ k / D = r / B ^ (k + 1) / D * B + (low * B + d) / D ∧ r / B ^ k % D = (low * B + d) % D := by
  have e1 : r / B ^ (k + 1) = r / B ^ k / B := by rw [Nat.pow_succ, Nat.div_div_eq_div_mul]
  have e2 := Nat.div_add_mod (r / B ^ k) B
  rw [← e1, hd] at e2
  have e3 := Nat.div_add_mod (r / B ^ (k + 1)) D
  rw [hlow] at e3
  generalize r / B ^ (k + 1) / D = q at *
  generalize r / B ^ (k + 1) = x at *
  rw [← e2, ← e3]
  have e4 : B * (D * q + low) + d = D * (q * B) + (low * B + d) := by
    rw [Nat.mul_add, Nat.mul_comm B low, Nat.add_assoc]; congr 1
    simp only [Nat.mul_comm, Nat.mul_left_comm]
  rw [e4, Nat.mul_add_div hD, Nat.mul_add_mod]
  exact ⟨rfl, rfl⟩
theorem div_digit {D B low d : Nat} (hD : 0 < D) (hl : low < D) (hd : d < B) : (low * B + d) / D < B := by
  rw [Nat.div_lt_iff_lt_mul hD]
  have : (low + 1) * B ≤ D * B := Nat.mul_le_mul_right _ hl
  rw [Nat.add_mul] at this
  rw [Nat.mul_comm B D]; omega

end Go.Proofs.YtcdkkohklhmpgaaGreatDoor
