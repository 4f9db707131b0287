/- Plain mathematics: natural numbers as words of 32 bits. -/

namespace Go.Proofs.YtkocmdpfknoiaaaGreatDoor

/-! ### Big -/
section
/-- 2^(32 i) -/
def pB (i : Nat) : Nat := 4294967296 ^ i
theorem pB_zero : pB 0 = 1 := rfl
theorem pB_succ (i : Nat) : pB (i + 1) = 4294967296 * pB i := by unfold pB; rw [Nat.pow_succ, Nat.mul_comm]
theorem pB_pos (i : Nat) : 0 < pB i := Nat.pow_pos (by decide)
theorem pB_add (i j : Nat) : pB (i + j) = pB i * pB j := Nat.pow_add _ _ _
theorem pB_le {i j : Nat} (h : i ≤ j) : pB i ≤ pB j := Nat.pow_le_pow_right (by decide) h
theorem pB_two (i : Nat) : pB i = 2 ^ (32 * i) := by
  unfold pB; rw [Nat.pow_mul]

/-- The word i of m. -/
def dg (m i : Nat) : Nat := m / pB i % 4294967296
/-- How many words m has. -/
def len (m : Nat) : Nat := if h : m = 0 then 0 else len (m / 4294967296) + 1
decreasing_by exact Nat.div_lt_self (by omega) (by decide)

theorem len_zero : len 0 = 0 := by unfold len; simp
theorem len_pos {m : Nat} (h : m ≠ 0) : len m = len (m / 4294967296) + 1 := by
  rw [len]; simp [h]
theorem len_eq_zero {m : Nat} : len m = 0 ↔ m = 0 := by
  constructor
  · intro h; rcases Nat.eq_zero_or_pos m with h0 | h0
    · exact h0
    · rw [len_pos (by omega)] at h; omega
  · rintro rfl; exact len_zero
theorem dg_lt (m i : Nat) : dg m i < 4294967296 := Nat.mod_lt _ (by decide)

theorem lt_pB_len (m : Nat) : m < pB (len m) := by
  induction m using Nat.strongRecOn with
  | ind m ih =>
    by_cases h : m = 0
    · subst h; exact pB_pos _
    · rw [len_pos h, pB_succ]
      have := ih (m / 4294967296) (Nat.div_lt_self (by omega) (by decide))
      omega
theorem len_le {m n : Nat} (h : m < pB n) : len m ≤ n := by
  induction n generalizing m with
  | zero => rw [pB_zero] at h; have : m = 0 := by omega
            subst this; rw [len_zero]; omega
  | succ n ih =>
    by_cases h0 : m = 0
    · subst h0; rw [len_zero]; omega
    · rw [len_pos h0]; rw [pB_succ] at h
      have := ih (m := m / 4294967296) (by omega)
      omega
theorem lt_pB {m n : Nat} (h : len m ≤ n) : m < pB n := Nat.lt_of_lt_of_le (lt_pB_len m) (pB_le h)
theorem pB_le_of_lt_len {m n : Nat} (h : n < len m) : pB n ≤ m := by
  rcases Nat.lt_or_ge m (pB n) with h1 | h1
  · have := len_le h1; omega
  · exact h1
theorem len_mono {m n : Nat} (h : m ≤ n) : len m ≤ len n := len_le (Nat.lt_of_le_of_lt h (lt_pB_len n))

theorem div_pB_succ (m i : Nat) : m / pB i = m / pB (i + 1) * 4294967296 + dg m i := by
  unfold dg; rw [pB_succ, Nat.mul_comm 4294967296 (pB i), ← Nat.div_div_eq_div_mul]; omega
theorem mod_pB_succ (m i : Nat) : m % pB (i + 1) = m % pB i + dg m i * pB i := by
  have h1 := Nat.div_add_mod m (pB i)
  have h2 := Nat.div_add_mod m (pB (i + 1))
  have h3 := div_pB_succ m i
  rw [h3, Nat.mul_add] at h1
  have e : pB i * (m / pB (i + 1) * 4294967296) = pB (i + 1) * (m / pB (i + 1)) := by
    rw [pB_succ, Nat.mul_comm (m / _), ← Nat.mul_assoc, Nat.mul_comm (pB i)]
  rw [e] at h1
  rw [Nat.mul_comm (dg m i)]
  omega

/-- The number of the first words of f. -/
def valN (f : Nat → Nat) : Nat → Nat
  | 0 => 0
  | k + 1 => valN f k + f k * pB k
theorem valN_dg (m k : Nat) : valN (dg m) k = m % pB k := by
  induction k with
  | zero => simp [valN, pB_zero, Nat.mod_one]
  | succ k ih => rw [valN, ih, mod_pB_succ]
theorem valN_dg_all {m k : Nat} (h : len m ≤ k) : valN (dg m) k = m := by
  rw [valN_dg, Nat.mod_eq_of_lt (lt_pB h)]
theorem valN_lt {f : Nat → Nat} {k : Nat} (h : ∀ i, i < k → f i < 4294967296) : valN f k < pB k := by
  induction k with
  | zero => simp [valN, pB_zero]
  | succ k ih =>
    have := ih (fun i hi => h i (by omega))
    have hk := h k (by omega)
    rw [valN, pB_succ]
    have : f k * pB k ≤ 4294967295 * pB k := Nat.mul_le_mul_right _ (by omega)
    omega
theorem valN_congr {f g : Nat → Nat} {k : Nat} (h : ∀ i, i < k → f i = g i) : valN f k = valN g k := by
  induction k with
  | zero => rfl
  | succ k ih => rw [valN, valN, ih (fun i hi => h i (by omega)), h k (by omega)]
theorem dg_valN {f : Nat → Nat} {n i : Nat} (h : ∀ i, i < n → f i < 4294967296) (hi : i < n) : dg (valN f n) i = f i := by
  induction n with
  | zero => omega
  | succ n ih =>
    have hb := valN_lt (f := f) (k := n) (fun i hi => h i (by omega))
    have hn := h n (by omega)
    rw [valN]
    by_cases e : i = n
    · subst e
      unfold dg
      rw [Nat.add_comm, Nat.mul_comm, Nat.mul_add_div (pB_pos _), Nat.div_eq_of_lt hb]
      simp; omega
    · have hlt : i < n := by omega
      have hp : f n * pB n = pB i * (f n * pB (n - i - 1) * 4294967296) := by
        have : pB n = pB i * pB (n - i - 1 + 1) := by rw [← pB_add]; congr 1; omega
        rw [this, pB_succ]
        generalize pB i = a; generalize pB (n - i - 1) = b
        rw [Nat.mul_left_comm, Nat.mul_assoc, Nat.mul_comm b]
      have := ih (fun i hi => h i (by omega)) hlt
      unfold dg at this ⊢
      rw [Nat.add_comm, hp, Nat.mul_add_div (pB_pos _)]
      omega
theorem valN_zeros {f : Nat → Nat} {t n : Nat} (ht : t ≤ n) (h : ∀ i, t ≤ i → i < n → f i = 0) : valN f n = valN f t := by
  induction n with
  | zero => have : t = 0 := by omega
            subst this; rfl
  | succ n ih =>
    by_cases e : t = n + 1
    · subst e; rfl
    · rw [valN, ih (by omega) (fun i h1 h2 => h i h1 (by omega)), h n (by omega) (by omega)]; simp
/-- Where the words from t on are 0 and the one before is not, t is the length. -/
theorem len_valN {f : Nat → Nat} {t n : Nat} (hb : ∀ i, i < n → f i < 4294967296) (ht : t ≤ n) (h : ∀ i, t ≤ i → i < n → f i = 0) (h0 : t = 0 ∨ f (t - 1) ≠ 0) : len (valN f n) = t := by
  rw [valN_zeros ht h]
  have hl := len_le (valN_lt (f := f) (k := t) (fun i hi => hb i (by omega)))
  rcases h0 with rfl | h0
  · omega
  · by_cases e : t = 0
    · subst e; omega
    · obtain ⟨s, rfl⟩ : ∃ s, t = s + 1 := ⟨t - 1, by omega⟩
      simp at h0
      have : pB s ≤ valN f (s + 1) := by
        rw [valN]
        have : 1 * pB s ≤ f s * pB s := Nat.mul_le_mul_right _ (by omega)
        omega
      rcases Nat.lt_or_ge s (len (valN f (s + 1))) with h1 | h1
      · omega
      · have := lt_pB h1; omega
theorem dg_top {m : Nat} (h : m ≠ 0) : dg m (len m - 1) ≠ 0 := by
  have h1 : 0 < len m := by have := len_pos h; omega
  have h2 := pB_le_of_lt_len (m := m) (n := len m - 1) (by omega)
  have h3 := lt_pB_len m
  rw [show len m = len m - 1 + 1 by omega, pB_succ] at h3
  unfold dg
  have h4 : m / pB (len m - 1) < 4294967296 := (Nat.div_lt_iff_lt_mul (pB_pos _)).2 h3
  have h5 : 1 ≤ m / pB (len m - 1) := (Nat.le_div_iff_mul_le (pB_pos _)).2 (by omega)
  rw [Nat.mod_eq_of_lt h4]; omega
theorem dg_high {m i : Nat} (h : len m ≤ i) : dg m i = 0 := by
  unfold dg; rw [Nat.div_eq_of_lt (lt_pB h)]
theorem dg_zero (m : Nat) : dg m 0 = m % 4294967296 := by unfold dg; rw [pB_zero, Nat.div_one]
theorem dg_div (m k i : Nat) : dg (m / pB k) i = dg m (k + i) := by
  unfold dg; rw [Nat.div_div_eq_div_mul, pB_add]
theorem ext_dg {m n : Nat} (h : ∀ i, dg m i = dg n i) : m = n := by
  have a := valN_dg_all (m := m) (k := max (len m) (len n)) (by omega)
  have b := valN_dg_all (m := n) (k := max (len m) (len n)) (by omega)
  exact a.symm.trans ((valN_congr fun i _ => h i).trans b)
theorem len_div (m k : Nat) : len (m / pB k) = len m - k := by
  by_cases h : len m ≤ k
  · rw [Nat.div_eq_of_lt (lt_pB h), len_zero]; omega
  · apply Nat.le_antisymm
    · apply len_le
      rw [Nat.div_lt_iff_lt_mul (pB_pos _), ← pB_add]; exact lt_pB (by omega)
    · have h1 := pB_le_of_lt_len (m := m) (n := len m - 1) (by omega)
      rcases Nat.lt_or_ge (len (m / pB k)) (len m - k) with h2 | h2
      · have h3 := lt_pB (m := m / pB k) (n := len m - k - 1) (by omega)
        rw [Nat.div_lt_iff_lt_mul (pB_pos _), ← pB_add, show len m - k - 1 + k = len m - 1 by omega] at h3
        omega
      · exact h2

/-- Comparison from the top. -/
theorem cmp_len {m n : Nat} (h : len m < len n) : m < n := by
  have := pB_le_of_lt_len (m := n) (n := len m) h
  have := lt_pB_len m
  omega
theorem lt_of_div {m n p : Nat} (h : m / p < n / p) : m < n := by
  rcases Nat.lt_or_ge m n with h1 | h1
  · exact h1
  · have := Nat.div_le_div_right (c := p) h1; omega
theorem cmp_dg {m n i : Nat} (h : m / pB (i + 1) = n / pB (i + 1)) (hd : dg m i < dg n i) : m < n := by
  refine lt_of_div (p := pB i) ?_
  rw [div_pB_succ m, div_pB_succ n, h]; omega
theorem cmp_step {m n i : Nat} (h : m / pB (i + 1) = n / pB (i + 1)) (hd : dg m i = dg n i) : m / pB i = n / pB i := by
  rw [div_pB_succ m, div_pB_succ n, h, hd]
theorem cmp_end {m n : Nat} (h : m / pB 0 = n / pB 0) : m = n := by simpa [pB_zero] using h
theorem cmp_start {m n : Nat} (h : len m = len n) : m / pB (len m) = n / pB (len m) := by
  rw [Nat.div_eq_of_lt (lt_pB_len m), Nat.div_eq_of_lt (lt_pB (by omega))]
def cmpF (m n : Nat) : Int := if m < n then -1 else if n < m then 1 else 0
theorem cmp_lt {m n : Nat} (h : m < n) : cmpF m n = -1 := by unfold cmpF; rw [if_pos h]
theorem cmp_gt {m n : Nat} (h : n < m) : cmpF m n = 1 := by unfold cmpF; rw [if_neg (by omega), if_pos h]
theorem cmp_eq {m n : Nat} (h : m = n) : cmpF m n = 0 := by subst h; unfold cmpF; simp

/-- Writing one word. -/
def upd (f : Nat → Nat) (k v : Nat) : Nat → Nat := fun i => if i = k then v else f i
theorem upd_same (f : Nat → Nat) (k v : Nat) : upd f k v k = v := by simp [upd]
theorem upd_ne (f : Nat → Nat) {k v i : Nat} (h : i ≠ k) : upd f k v i = f i := by simp [upd, h]
theorem valN_upd_ge (f : Nat → Nat) {k v n : Nat} (h : n ≤ k) : valN (upd f k v) n = valN f n := valN_congr fun i hi => upd_ne f (by omega)
theorem valN_upd (f : Nat → Nat) (k v : Nat) : valN (upd f k v) (k + 1) = valN f k + v * pB k := by
  rw [valN, valN_upd_ge f (Nat.le_refl _), upd_same]
theorem upd_lt {f : Nat → Nat} {k v n : Nat} (h : ∀ i, i < n → f i < 4294967296) (hv : v < 4294967296) : ∀ i, i < n → upd f k v i < 4294967296 := by
  intro i hi; unfold upd; split
  · exact hv
  · exact h i hi

/-- One step of a sum with a carry: s + c' * B is x + y + c. -/
theorem add_step {S x y c s c' pk X Y : Nat} (h : S + c * pk = X + Y) (h2 : s + c' * 4294967296 = x + y + c) : S + s * pk + c' * (4294967296 * pk) = X + x * pk + (Y + y * pk) := by
  have e := congrArg (· * pk) h2
  simp only [Nat.add_mul] at e
  rw [← Nat.mul_assoc]
  omega
theorem sub_step {S x y c s c' pk X Y : Nat} (h : S + Y = X + c * pk) (h2 : s + y + c = x + c' * 4294967296) : S + s * pk + (Y + y * pk) = X + x * pk + c' * (4294967296 * pk) := by
  have e := congrArg (· * pk) h2
  simp only [Nat.add_mul] at e
  rw [← Nat.mul_assoc]
  omega
end

/-! ### Bigb -/
section
theorem two_pow_split (n : Nat) : 2 ^ n = pB (n / 32) * 2 ^ (n % 32) := by
  rw [pB_two, ← Nat.pow_add]; congr 1; omega
theorem p2_pos (n : Nat) : 0 < 2 ^ n := Nat.pow_pos (by decide)
theorem p2_split {p : Nat} (h : p ≤ 32) : 2 ^ p * 2 ^ (32 - p) = 4294967296 := by
  rw [← Nat.pow_add, show p + (32 - p) = 32 by omega]
theorem p2_le {p q : Nat} (h : p ≤ q) : 2 ^ p ≤ 2 ^ q := Nat.pow_le_pow_right (by decide) h

theorem dg_shr (m n i : Nat) : dg (m / 2 ^ n) i = (dg m (n / 32 + i) + dg m (n / 32 + i + 1) * 4294967296) / 2 ^ (n % 32) % 4294967296 := by
  have hs := p2_split (p := n % 32) (by omega)
  have hp := p2_pos (n % 32)
  rw [two_pow_split, ← Nat.div_div_eq_div_mul, ← dg_div m, show n / 32 + i + 1 = n / 32 + (i + 1) by omega, ← dg_div m]
  generalize m / pB (n / 32) = M
  generalize hP : 2 ^ (n % 32) = P at *
  generalize 2 ^ (32 - n % 32) = T at *
  have h1 := div_pB_succ M i
  have h2 := div_pB_succ M (i + 1)
  generalize M / pB (i + 1 + 1) = Q2 at *
  have e : M / P / pB i = M / pB i / P := by rw [Nat.div_div_eq_div_mul, Nat.mul_comm, ← Nat.div_div_eq_div_mul]
  show M / P / pB i % 4294967296 = _
  rw [e, h1, h2]
  generalize dg M (i + 1) = d1
  generalize dg M i = d0
  have e2 : (Q2 * 4294967296 + d1) * 4294967296 + d0 = P * (Q2 * T * 4294967296) + (d0 + d1 * 4294967296) := by
    have : P * (Q2 * T * 4294967296) = Q2 * 4294967296 * 4294967296 := by
      rw [← Nat.mul_assoc P, Nat.mul_left_comm P, hs]
    omega
  rw [e2, Nat.mul_add_div hp]; omega

theorem or_add {a b p : Nat} (h : a < 2 ^ p) : a ||| b * 2 ^ p = a + b * 2 ^ p := by
  rw [Nat.mul_comm, Nat.or_comm, ← Nat.two_pow_add_eq_or_of_lt h]; omega

/-- What the code makes of two words that lie side by side. -/
theorem shr_or {x y p : Nat} (hx : x < 4294967296) (hp : p < 32) : x / 2 ^ p ||| y * 4294967296 / 2 ^ p % 4294967296 = (x + y * 4294967296) / 2 ^ p % 4294967296 := by
  have hs := p2_split (p := p) (by omega)
  have h0 := p2_pos p
  have ho := fun (a b : Nat) => @or_add a b (32 - p)
  have h1 := p2_pos (32 - p)
  generalize 2 ^ p = P at *
  generalize 2 ^ (32 - p) = T at *
  have e0 : y * 4294967296 = P * (y * T) := by rw [Nat.mul_left_comm, hs]
  have e1 : y * 4294967296 / P = y * T := by rw [e0, Nat.mul_div_cancel_left _ h0]
  have e2 : (x + y * 4294967296) / P = y * T + x / P := by
    rw [e0, Nat.add_comm, Nat.mul_add_div h0]
  have e3 : x / P < T := (Nat.div_lt_iff_lt_mul h0).2 (by rw [Nat.mul_comm, hs]; exact hx)
  have e4 : y * T % 4294967296 = (y % P) * T := by
    rw [← hs, Nat.mul_mod_mul_right]
  have h5 := Nat.mod_lt y h0
  have h6 : (y % P) * T ≤ (P - 1) * T := Nat.mul_le_mul_right _ (by omega)
  have h7 : (P - 1) * T + T = 4294967296 := by rw [← hs, ← Nat.succ_mul]; congr 1; omega
  rw [e1, e2, e4, ho _ _ e3, ← Nat.mod_add_mod, e4]
  generalize (y % P) * T = Z at *
  generalize (P - 1) * T = U at *
  rw [Nat.mod_eq_of_lt (by omega)]
  omega

theorem bit_dg (m i : Nat) : dg m (i / 32) / 2 ^ (i % 32) % 2 = m / 2 ^ i % 2 := by
  have hs := p2_split (p := i % 32) (by omega)
  have hp := p2_pos (i % 32)
  rw [two_pow_split i, ← Nat.div_div_eq_div_mul]
  unfold dg
  generalize m / pB (i / 32) = M
  obtain ⟨T, hT⟩ : ∃ T, 2 ^ (32 - i % 32) = 2 * T := ⟨2 ^ (31 - i % 32), by rw [show 32 - i % 32 = 31 - i % 32 + 1 by omega, Nat.pow_succ, Nat.mul_comm]⟩
  rw [hT] at hs
  have h1 := Nat.div_add_mod M 4294967296
  generalize M / 4294967296 = Q at *
  have e : M = 2 ^ (i % 32) * (2 * (T * Q)) + M % 4294967296 := by
    have : 2 ^ (i % 32) * (2 * (T * Q)) = 4294967296 * Q := by rw [← hs]; simp only [Nat.mul_assoc]
    omega
  conv => rhs; rw [e, Nat.mul_add_div hp]
  omega

/-- The step of a shift to the left. -/
theorem shl_step {m n i S c : Nat} (hS : S + c * pB (n / 32 + i) = m % pB i * 2 ^ n) :
    S + (c + dg m i * 2 ^ (n % 32)) % 4294967296 * pB (n / 32 + i) + (c + dg m i * 2 ^ (n % 32)) / 4294967296 * pB (n / 32 + (i + 1)) = m % pB (i + 1) * 2 ^ n := by
  have h1 := Nat.div_add_mod (c + dg m i * 2 ^ (n % 32)) 4294967296
  rw [mod_pB_succ, Nat.add_mul, ← hS, show n / 32 + (i + 1) = n / 32 + i + 1 by omega, pB_succ]
  generalize (c + dg m i * 2 ^ (n % 32)) / 4294967296 = q at *
  generalize (c + dg m i * 2 ^ (n % 32)) % 4294967296 = r at *
  have e : dg m i * pB i * 2 ^ n = dg m i * 2 ^ (n % 32) * pB (n / 32 + i) := by
    rw [two_pow_split, pB_add]
    generalize dg m i = a; generalize pB i = b; generalize pB (n / 32) = c; generalize 2 ^ (n % 32) = d
    simp only [Nat.mul_comm, Nat.mul_left_comm]
  rw [e]
  have h2 := congrArg (· * pB (n / 32 + i)) h1
  simp only [Nat.add_mul] at h2
  rw [← Nat.mul_assoc, Nat.mul_comm q]
  omega
theorem shl_carry {m n i c : Nat} (hc : c < 2 ^ (n % 32)) : (c + dg m i * 2 ^ (n % 32)) / 4294967296 < 2 ^ (n % 32) := by
  have hs := p2_split (p := n % 32) (by omega)
  have hd := dg_lt m i
  rw [Nat.div_lt_iff_lt_mul (by decide)]
  have : dg m i * 2 ^ (n % 32) ≤ 4294967295 * 2 ^ (n % 32) := Nat.mul_le_mul_right _ (by omega)
  omega
/-- What the code does with the pair: or, where the lower bits are free. -/
theorem shl_or {x c p : Nat} (hp : p < 32) (hc : c < 2 ^ p) : c ||| x * 2 ^ p % 4294967296 = (c + x * 2 ^ p) % 4294967296 ∧ x * 2 ^ p / 4294967296 = (c + x * 2 ^ p) / 4294967296 := by
  have hs := p2_split (p := p) (by omega)
  have ho := fun (b : Nat) => @or_add c b p hc
  have h0 := p2_pos (32 - p)
  have h1 := p2_pos p
  generalize 2 ^ p = P at *
  generalize 2 ^ (32 - p) = T at *
  have e4 : x * P % 4294967296 = (x % T) * P := by
    rw [← hs, Nat.mul_comm P T, Nat.mul_mod_mul_right]
  have h5 := Nat.mod_lt x h0
  have hb : (x % T) * P ≤ (T - 1) * P := Nat.mul_le_mul_right _ (by omega)
  have h7 : (T - 1) * P + P = 4294967296 := by rw [← hs, ← Nat.succ_mul, Nat.mul_comm P]; congr 1; omega
  have hm := Nat.div_add_mod (x * P) 4294967296
  rw [e4, ho]
  rw [e4] at hm
  generalize (x % T) * P = Z at *
  generalize (T - 1) * P = U at *
  generalize x * P = V at *
  omega

/-! ### Quotients -/
theorem quo_le {M N f n1 : Nat} (k : Nat) (hM : M < (f + 1) * pB k) (hN : n1 * pB k ≤ N) (h1 : 0 < n1) (t : Nat) (ht : t * N ≤ M) : t ≤ f / n1 := by
  rw [Nat.le_div_iff_mul_le h1]
  rcases Nat.lt_or_ge f (t * n1) with h | h
  · have a : (f + 1) * pB k ≤ t * n1 * pB k := Nat.mul_le_mul_right _ h
    have b : t * (n1 * pB k) ≤ t * N := Nat.mul_le_mul_left _ hN
    rw [← Nat.mul_assoc] at b
    omega
  · exact h
/-- One step of taking off times * n: carry counts what is still to be taken. -/
theorem take_step {S X c x x' r c' t pk Y : Nat} (h : S + t * Y = X + c * pk) (h2 : r + (c + t * x) = x' + c' * 4294967296) : S + r * pk + t * (Y + x * pk) = X + x' * pk + c' * (4294967296 * pk) := by
  have e := congrArg (· * pk) h2
  simp only [Nat.add_mul] at e
  rw [← Nat.mul_assoc, Nat.mul_add, ← Nat.mul_assoc t]
  omega
end

/-! ### Bigc -/
section
/-- How often 2 divides m, at most k times. -/
def hv : Nat → Nat → Nat
  | _, 0 => 0
  | m, k + 1 => if m % 2 = 0 then hv (m / 2) k + 1 else 0
theorem hv_le (m k : Nat) : hv m k ≤ k := by
  induction k generalizing m with
  | zero => simp [hv]
  | succ k ih =>
    unfold hv; split
    · have := ih (m / 2); omega
    · omega
theorem div_two_pow_succ (m i : Nat) : m / 2 ^ (i + 1) = m / 2 / 2 ^ i := by
  rw [Nat.pow_succ, Nat.mul_comm, ← Nat.div_div_eq_div_mul]
theorem hv_of_bits {m k j : Nat} (hj : j ≤ k) (h0 : ∀ i, i < j → m / 2 ^ i % 2 = 0) (h1 : j < k → m / 2 ^ j % 2 = 1) : hv m k = j := by
  induction k generalizing m j with
  | zero => unfold hv; omega
  | succ k ih =>
    unfold hv
    cases j with
    | zero =>
      have := h1 (by omega)
      simp at this
      rw [if_neg (by omega)]
    | succ j =>
      have a := h0 0 (by omega)
      simp at a
      rw [if_pos a, ih (m := m / 2) (j := j) (by omega) (fun i hi => by rw [← div_two_pow_succ]; exact h0 (i + 1) (by omega)) (fun h => by rw [← div_two_pow_succ]; exact h1 (by omega))]
theorem hv_zero_bit {m k i : Nat} (h : i < hv m k) : m / 2 ^ i % 2 = 0 := by
  induction k generalizing m i with
  | zero => simp [hv] at h
  | succ k ih =>
    unfold hv at h
    split at h
    · cases i with
      | zero => simpa
      | succ i => rw [div_two_pow_succ]; exact ih (by omega)
    · omega
theorem hv_one_bit {m k : Nat} (h : hv m k < k) : m / 2 ^ hv m k % 2 = 1 := by
  induction k generalizing m with
  | zero => omega
  | succ k ih =>
    unfold hv at h ⊢
    split
    · rename_i h2; rw [if_pos h2] at h; rw [div_two_pow_succ]; exact ih (by omega)
    · simp; omega
theorem hv_dvd (m k : Nat) : m / 2 ^ hv m k * 2 ^ hv m k = m := by
  induction k generalizing m with
  | zero => simp [hv]
  | succ k ih =>
    unfold hv
    split
    · rw [div_two_pow_succ, Nat.pow_succ, ← Nat.mul_assoc, ih]; omega
    · simp
theorem hv_shift {m k c : Nat} (h : c ≤ hv m (k + c)) : hv m (k + c) = hv (m / 2 ^ c) k + c := by
  have hb : ∀ i, (m / 2 ^ c) / 2 ^ i = m / 2 ^ (i + c) := fun i => by rw [Nat.div_div_eq_div_mul, ← Nat.pow_add, Nat.add_comm]
  have hl := hv_le m (k + c)
  have := hv_of_bits (m := m / 2 ^ c) (k := k) (j := hv m (k + c) - c) (by omega) (fun i hi => by rw [hb]; exact hv_zero_bit (k := k + c) (by omega)) (fun hlt => by rw [hb, show hv m (k + c) - c + c = hv m (k + c) by omega]; exact hv_one_bit (by omega))
  omega
theorem hv_div_pos {m k : Nat} (h : m ≠ 0) : m / 2 ^ hv m k ≠ 0 := by
  intro e
  have := hv_dvd m k
  rw [e] at this; omega

/-- A number: its sign, its size and its grid. -/
structure DV where
  neg : Bool
  m : Nat
  den : Nat
def DV.zero : DV := ⟨false, 0, 0⟩
/-- The valid form of m / 2^den, den at most 65536. -/
def nrm (neg : Bool) (m den : Nat) : DV := if m = 0 then DV.zero else ⟨neg, m / 2 ^ hv m den, den - hv m den⟩
/-- The same for any den: what is finer than 2^-65536 is cut off. -/
def mkD (neg : Bool) (m den : Nat) : DV := if den ≤ 65536 then nrm neg m den else nrm neg (m / 2 ^ (den - 65536)) 65536
theorem mkD_small {neg : Bool} {m den : Nat} (h : den ≤ 65536) : mkD neg m den = nrm neg m den := by unfold mkD; rw [if_pos h]
theorem mkD_big {neg : Bool} {m den : Nat} (h : 65536 < den) : mkD neg m den = nrm neg (m / 2 ^ (den - 65536)) 65536 := by unfold mkD; rw [if_neg (by omega)]
theorem nrm_zero (neg : Bool) (den : Nat) : nrm neg 0 den = DV.zero := by unfold nrm; rw [if_pos rfl]
theorem nrm_pos (neg : Bool) {m : Nat} (den : Nat) (h : m ≠ 0) : nrm neg m den = ⟨neg, m / 2 ^ hv m den, den - hv m den⟩ := by unfold nrm; rw [if_neg h]
/-- The reference's way to the same number, where enough halves can be taken. -/
theorem mkD_halves {neg : Bool} {m den : Nat} (h0 : m ≠ 0) (h : den - hv m den ≤ 65536) : mkD neg m den = ⟨neg, m / 2 ^ hv m den, den - hv m den⟩ := by
  by_cases hd : den ≤ 65536
  · rw [mkD_small hd, nrm_pos _ _ h0]
  · obtain ⟨c, rfl⟩ : ∃ c, den = 65536 + c := ⟨den - 65536, by omega⟩
    have hl := hv_le m (65536 + c)
    have hs := hv_shift (m := m) (k := 65536) (c := c) (by omega)
    have hc : m / 2 ^ c ≠ 0 := by
      intro e
      have h1 := hv_div_pos (k := 65536 + c) h0
      rw [hs, Nat.add_comm, Nat.pow_add, ← Nat.div_div_eq_div_mul, e] at h1
      simp at h1
    rw [mkD_big (by omega), show 65536 + c - 65536 = c by omega, nrm_pos _ _ hc, hs]
    congr 1
    · rw [Nat.div_div_eq_div_mul, ← Nat.pow_add, Nat.add_comm]
    · omega

/-- Valid forms. -/
def DV.ok (d : DV) : Prop := (d.m = 0 → d.neg = false ∧ d.den = 0) ∧ d.den ≤ 65536 ∧ (0 < d.den → d.m % 2 = 1)
theorem DV.zero_ok : DV.zero.ok := ⟨fun _ => ⟨rfl, rfl⟩, by decide, fun h => by cases h⟩
theorem nrm_ok {neg : Bool} {m den : Nat} (h : den ≤ 65536) : (nrm neg m den).ok := by
  by_cases h0 : m = 0
  · subst h0; rw [nrm_zero]; exact DV.zero_ok
  · rw [nrm_pos _ _ h0]
    refine ⟨fun e => absurd e (hv_div_pos h0), ?_, fun hd => ?_⟩
    · show den - _ ≤ _; omega
    · exact hv_one_bit (by simp at hd; omega)
theorem mkD_ok (neg : Bool) (m den : Nat) : (mkD neg m den).ok := by
  unfold mkD; split
  · exact nrm_ok ‹_›
  · exact nrm_ok (by decide)
theorem nrm_of_ok {d : DV} (h : d.ok) : nrm d.neg d.m d.den = d := by
  obtain ⟨neg, m, den⟩ := d
  obtain ⟨h1, h2, h3⟩ := h
  simp at h1 h2 h3
  by_cases h0 : m = 0
  · obtain ⟨rfl, rfl⟩ := h1 h0
    subst h0; rw [nrm_zero]; rfl
  · have : hv m den = 0 := hv_of_bits (by omega) (fun i hi => by omega) (fun hd => by simpa using h3 hd)
    rw [nrm_pos _ _ h0, this]; simp
end

/-! ### Bigd -/
section
def qp (k : Nat) : Rat := ((2 ^ k : Nat) : Rat)
theorem qp_pos (k : Nat) : 0 < qp k := by
  unfold qp
  have h : (0 : Nat) < 2 ^ k := p2_pos k
  exact_mod_cast h
theorem qp_ne (k : Nat) : qp k ≠ 0 := by have := qp_pos k; grind
theorem qp_add (j k : Nat) : qp (j + k) = qp j * qp k := by
  unfold qp; rw [Nat.pow_add]; exact_mod_cast rfl
theorem qp_zero : qp 0 = 1 := by unfold qp; rfl

/-- The number with a sign, a size and a grid. -/
def qOf (neg : Bool) (m k : Nat) : Rat := if neg then -((m : Rat) / qp k) else (m : Rat) / qp k
def DV.q (d : DV) : Rat := qOf d.neg d.m d.den
theorem div_cancel {a b c d : Rat} (hb : b ≠ 0) (hd : d ≠ 0) (h : a * d = c * b) : a / b = c / d := by grind
theorem div_inj {a b c d : Rat} (hb : b ≠ 0) (hd : d ≠ 0) (h : a / b = c / d) : a * d = c * b := by grind
theorem qOf_shift (neg : Bool) (m k s : Nat) : qOf neg (m * 2 ^ s) (k + s) = qOf neg m k := by
  have e : ((m * 2 ^ s : Nat) : Rat) / qp (k + s) = (m : Rat) / qp k := by
    refine div_cancel (qp_ne _) (qp_ne _) ?_
    rw [qp_add]
    have : ((m * 2 ^ s : Nat) : Rat) = (m : Rat) * qp s := by unfold qp; exact_mod_cast rfl
    rw [this]; grind
  unfold qOf; rw [e]
theorem qOf_zero (neg : Bool) (k : Nat) : qOf neg 0 k = 0 := by
  have : ((0 : Nat) : Rat) / qp k = 0 := by have := qp_ne k; grind
  unfold qOf; rw [this]; split <;> grind
theorem q_nrm (neg : Bool) (m k : Nat) : (nrm neg m k).q = qOf neg m k := by
  by_cases h : m = 0
  · subst h; rw [nrm_zero, qOf_zero]; exact qOf_zero _ _
  · rw [nrm_pos _ _ h]
    show qOf neg (m / 2 ^ hv m k) (k - hv m k) = _
    have := qOf_shift neg (m / 2 ^ hv m k) (k - hv m k) (hv m k)
    rw [hv_dvd, Nat.sub_add_cancel (hv_le m k)] at this
    exact this.symm
theorem q_mkD (neg : Bool) (m : Nat) {k : Nat} (h : k ≤ 65536) : (mkD neg m k).q = qOf neg m k := by rw [mkD_small h, q_nrm]

theorem q_pos_of {neg : Bool} {m k : Nat} (h : m ≠ 0) : if neg then qOf neg m k < 0 else 0 < qOf neg m k := by
  have h1 : (0 : Rat) < (m : Rat) := by have : 0 < m := by omega
                                        exact_mod_cast this
  have h2 : 0 < (m : Rat) / qp k := by
    rw [Rat.div_def]; exact Rat.mul_pos h1 (Rat.inv_pos.2 (qp_pos k))
  unfold qOf; cases neg
  · simpa using h2
  · simp; grind
theorem q_eq_zero {neg : Bool} {m k : Nat} : qOf neg m k = 0 ↔ m = 0 := by
  constructor
  · intro h
    rcases Nat.eq_zero_or_pos m with h0 | h0
    · exact h0
    · have := q_pos_of (neg := neg) (m := m) (k := k) (by omega)
      cases neg <;> simp at this <;> grind
  · rintro rfl; exact qOf_zero _ _
/-- The valid form of a number is the only one. -/
theorem DV.uniq {d e : DV} (hd : d.ok) (he : e.ok) (h : d.q = e.q) : d = e := by
  obtain ⟨nd, md, kd⟩ := d
  obtain ⟨ne, me, ke⟩ := e
  obtain ⟨d1, d2, d3⟩ := hd
  obtain ⟨e1, e2, e3⟩ := he
  simp only at d1 d2 d3 e1 e2 e3
  change qOf nd md kd = qOf ne me ke at h
  by_cases h0 : md = 0
  · subst h0
    rw [qOf_zero] at h
    have := q_eq_zero.1 h.symm
    subst this
    obtain ⟨rfl, rfl⟩ := d1 rfl
    obtain ⟨rfl, rfl⟩ := e1 rfl
    rfl
  · have h0' : me ≠ 0 := by
      intro e; subst e; rw [qOf_zero] at h; exact h0 (q_eq_zero.1 h)
    have a := q_pos_of (neg := nd) (m := md) (k := kd) h0
    have b := q_pos_of (neg := ne) (m := me) (k := ke) h0'
    have hn : nd = ne := by
      cases nd <;> cases ne <;> simp at a b <;> first | rfl | (exfalso; grind)
    subst hn
    have hq : (md : Rat) / qp kd = (me : Rat) / qp ke := by
      unfold qOf at h; cases nd <;> simp at h <;> grind
    have hx := div_inj (qp_ne _) (qp_ne _) hq
    have hN : md * 2 ^ ke = me * 2 ^ kd := by
      unfold qp at hx; exact_mod_cast hx
    have key : ∀ {m m' k k' : Nat}, m * 2 ^ k' = m' * 2 ^ k → (0 < k' → m' % 2 = 1) → k' ≤ k := by
      intro m m' k k' hh ho
      rcases Nat.lt_or_ge k k' with hlt | hge
      · exfalso
        obtain ⟨s, rfl⟩ : ∃ s, k' = k + (s + 1) := ⟨k' - k - 1, by omega⟩
        have h1 := ho (by omega)
        rw [Nat.pow_add, Nat.mul_comm (2 ^ k), ← Nat.mul_assoc] at hh
        have h2 := Nat.eq_of_mul_eq_mul_right (p2_pos k) hh
        rw [Nat.pow_succ, ← Nat.mul_assoc] at h2
        omega
      · exact hge
    have k1 := key hN e3
    have k2 := key hN.symm d3
    have hk : kd = ke := by omega
    subst hk
    have hm := Nat.eq_of_mul_eq_mul_right (p2_pos kd) hN
    rw [hm]
end

/-! ### Bige -/
section
theorem qOf_add (neg : Bool) (x y k : Nat) : qOf neg (x + y) k = qOf neg x k + qOf neg y k := by
  have := qp_ne k
  have e : ((x + y : Nat) : Rat) = (x : Rat) + (y : Rat) := by exact_mod_cast rfl
  unfold qOf; rw [e]; cases neg <;> simp <;> grind
theorem qOf_sub (neg : Bool) {x y : Nat} (k : Nat) (h : y ≤ x) : qOf neg (x - y) k = qOf neg x k + qOf (!neg) y k := by
  have h1 := qOf_add neg (x - y) y k
  rw [Nat.sub_add_cancel h] at h1
  have h2 : qOf (!neg) y k = -(qOf neg y k) := by unfold qOf; cases neg <;> simp
  rw [h1, h2]; grind
theorem qOf_not (neg : Bool) (m k : Nat) : qOf (!neg) m k = -(qOf neg m k) := by unfold qOf; cases neg <;> simp
theorem qOf_mul (n1 n2 : Bool) (x y j k : Nat) : qOf (n1 != n2) (x * y) (j + k) = qOf n1 x j * qOf n2 y k := by
  have h1 := qp_ne j
  have h2 := qp_ne k
  have e : ((x * y : Nat) : Rat) = (x : Rat) * (y : Rat) := by exact_mod_cast rfl
  unfold qOf; rw [e, qp_add]; cases n1 <;> cases n2 <;> simp <;> grind

def negD (a : DV) : DV := mkD (!a.neg) a.m a.den
def absD (a : DV) : DV := mkD false a.m a.den
def signD (a : DV) : Int := if a.m = 0 then 0 else if a.neg then -1 else 1
/-- The size of a over the grid D. -/
def al (a : DV) (D : Nat) : Nat := a.m * 2 ^ (D - a.den)
def addD (a b : DV) : DV :=
  if a.neg = b.neg then mkD a.neg (al a (max a.den b.den) + al b (max a.den b.den)) (max a.den b.den)
  else if al a (max a.den b.den) < al b (max a.den b.den) then mkD b.neg (al b (max a.den b.den) - al a (max a.den b.den)) (max a.den b.den)
  else mkD a.neg (al a (max a.den b.den) - al b (max a.den b.den)) (max a.den b.den)
def subD (a b : DV) : DV := addD a (negD b)
def cmpD (a b : DV) : Int := signD (subD a b)
def minD (a b : DV) : DV := if 0 < cmpD a b then b else a
def maxD (a b : DV) : DV := if cmpD a b < 0 then b else a
def mulD (a b : DV) : DV := mkD (a.neg != b.neg) (a.m * b.m) (a.den + b.den)
def clampN (n : Int) : Int := max (-65536) (min n 65536)
def shiftD (a : DV) (n : Int) : DV := if clampN n < 0 then mkD a.neg a.m (a.den + (-clampN n).toNat) else mkD a.neg (a.m * 2 ^ (clampN n).toNat) a.den
/-- Floor, at a grid from 0 to 65536. -/
def floorD (a : DV) (k : Nat) : DV := if a.den ≤ k then a else mkD a.neg (a.m / 2 ^ (a.den - k) + if a.neg then 1 else 0) k
def ceilD (a : DV) (k : Nat) : DV := negD (floorD (negD a) k)
def quoD (a b : DV) (k : Nat) : DV :=
  mkD (a.neg != b.neg) (a.m * 2 ^ (k + b.den) / (b.m * 2 ^ a.den) + if (a.neg != b.neg) && decide (a.m * 2 ^ (k + b.den) % (b.m * 2 ^ a.den) ≠ 0) then 1 else 0) k
def ofI (n : Int) (k : Nat) : DV := mkD (decide (n < 0)) n.natAbs k

theorem q_al {a : DV} {D : Nat} (h : a.den ≤ D) : qOf a.neg (al a D) D = a.q := by
  have := qOf_shift a.neg a.m a.den (D - a.den)
  rwa [Nat.add_sub_cancel' h] at this
theorem negD_ok (a : DV) : (negD a).ok := mkD_ok _ _ _
theorem absD_ok (a : DV) : (absD a).ok := mkD_ok _ _ _
theorem addD_ok (a b : DV) : (addD a b).ok := by unfold addD; split; exact mkD_ok _ _ _; split; exact mkD_ok _ _ _; exact mkD_ok _ _ _
theorem subD_ok (a b : DV) : (subD a b).ok := addD_ok _ _
theorem mulD_ok (a b : DV) : (mulD a b).ok := mkD_ok _ _ _
theorem shiftD_ok (a : DV) (n : Int) : (shiftD a n).ok := by unfold shiftD; split <;> exact mkD_ok _ _ _
theorem quoD_ok (a b : DV) (k : Nat) : (quoD a b k).ok := mkD_ok _ _ _
theorem ofI_ok (n : Int) (k : Nat) : (ofI n k).ok := mkD_ok _ _ _
theorem floorD_ok {a : DV} (h : a.ok) (k : Nat) : (floorD a k).ok := by unfold floorD; split; exact h; exact mkD_ok _ _ _
theorem minD_ok {a b : DV} (ha : a.ok) (hb : b.ok) : (minD a b).ok := by unfold minD; split <;> assumption
theorem maxD_ok {a b : DV} (ha : a.ok) (hb : b.ok) : (maxD a b).ok := by unfold maxD; split <;> assumption

theorem q_negD {a : DV} (h : a.ok) : (negD a).q = -a.q := by unfold negD; rw [q_mkD _ _ h.2.1, qOf_not]; rfl
theorem q_addD {a b : DV} (ha : a.ok) (hb : b.ok) : (addD a b).q = a.q + b.q := by
  have hD : max a.den b.den ≤ 65536 := Nat.max_le.2 ⟨ha.2.1, hb.2.1⟩
  have h1 := q_al (a := a) (D := max a.den b.den) (Nat.le_max_left _ _)
  have h2 := q_al (a := b) (D := max a.den b.den) (Nat.le_max_right _ _)
  unfold addD
  generalize max a.den b.den = D at *
  generalize al a D = x at *
  generalize al b D = y at *
  split
  · rename_i h; rw [q_mkD _ _ hD, qOf_add, h1, h, h2]
  · rename_i h
    have hn : (!a.neg) = b.neg := by cases e1 : a.neg <;> cases e2 : b.neg <;> simp_all
    have hn' : (!b.neg) = a.neg := by cases e1 : a.neg <;> cases e2 : b.neg <;> simp_all
    split
    · rw [q_mkD _ _ hD, qOf_sub _ _ (by omega), h2, hn', h1]; grind
    · rw [q_mkD _ _ hD, qOf_sub _ _ (by omega), h1, hn, h2]
theorem q_subD {a b : DV} (ha : a.ok) (hb : b.ok) : (subD a b).q = a.q - b.q := by unfold subD; rw [q_addD ha (negD_ok b), q_negD hb]; grind
theorem q_mulD {a b : DV} (h : a.den + b.den ≤ 65536) : (mulD a b).q = a.q * b.q := by unfold mulD; rw [q_mkD _ _ h, qOf_mul]; rfl

def sgn (r : Rat) : Int := if r < 0 then -1 else if 0 < r then 1 else 0
theorem signD_sgn (a : DV) : signD a = sgn a.q := by
  unfold signD sgn DV.q
  by_cases h : a.m = 0
  · rw [if_pos h, h, qOf_zero]; simp
  · have := q_pos_of (neg := a.neg) (m := a.m) (k := a.den) h
    rw [if_neg h]
    cases e : a.neg <;> rw [e] at this <;> simp at this
    · simp; grind
    · simp [this]
theorem cmpD_sgn {a b : DV} (ha : a.ok) (hb : b.ok) : cmpD a b = sgn (a.q - b.q) := by unfold cmpD; rw [signD_sgn, q_subD ha hb]
/-- The way of the code to the comparison. -/
theorem cmpD_signs {a b : DV} (ha : a.ok) (hb : b.ok) (h : signD a ≠ signD b) : cmpD a b = if signD a < signD b then -1 else 1 := by
  rw [cmpD_sgn ha hb]
  rw [signD_sgn, signD_sgn] at *
  unfold sgn at *
  split <;> split at h <;> split at h <;> (try split at h) <;> grind
theorem qOf_sgn_sub (neg : Bool) (x y k : Nat) : sgn (qOf neg x k - qOf neg y k) = if neg then cmpF y x else cmpF x y := by
  have key : ∀ (neg : Bool) (u v : Nat), u < v → (if neg then qOf neg v k < qOf neg u k else qOf neg u k < qOf neg v k) := by
    intro neg u v h
    have h1 := qOf_add neg u (v - u) k
    rw [show u + (v - u) = v by omega] at h1
    have h2 := q_pos_of (neg := neg) (m := v - u) (k := k) (by omega)
    cases neg <;> simp at h2 ⊢ <;> grind
  unfold cmpF sgn
  rcases Nat.lt_trichotomy x y with h | h | h
  · have := key neg x y h
    cases neg <;> simp at this ⊢ <;> (have : ¬ y < x := by omega) <;> simp [*] <;> grind
  · subst h
    cases neg <;> simp <;> grind
  · have := key neg y x h
    cases neg <;> simp at this ⊢ <;> (have : ¬ x < y := by omega) <;> simp [*] <;> grind
theorem cmpD_same {a b : DV} (ha : a.ok) (hb : b.ok) (h : signD a = signD b) : cmpD a b = if a.neg then cmpF (al b (max a.den b.den)) (al a (max a.den b.den)) else cmpF (al a (max a.den b.den)) (al b (max a.den b.den)) := by
  have h1 := q_al (a := a) (D := max a.den b.den) (Nat.le_max_left _ _)
  have h2 := q_al (a := b) (D := max a.den b.den) (Nat.le_max_right _ _)
  have hn : a.neg = b.neg ∨ (a.m = 0 ∧ b.m = 0) := by
    unfold signD at h
    by_cases e1 : a.m = 0 <;> by_cases e2 : b.m = 0 <;> cases e3 : a.neg <;> cases e4 : b.neg <;> simp [e1, e2, e3, e4] at h ⊢
  have hn' : a.neg = b.neg := by
    rcases hn with hn | ⟨e1, e2⟩
    · exact hn
    · rw [(ha.1 e1).1, (hb.1 e2).1]
  rw [cmpD_sgn ha hb, ← h1, ← h2, ← hn', qOf_sgn_sub]
end

end Go.Proofs.YtkocmdpfknoiaaaGreatDoor
