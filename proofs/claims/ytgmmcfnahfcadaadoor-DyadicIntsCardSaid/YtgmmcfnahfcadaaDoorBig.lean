/- Plain mathematics: natural numbers as words of 32 bits. -/
namespace Go.Proofs.YtgmmcfnahfcadaaDoor

/-- 2^(32 i) -/
def pB (i : Nat) : Nat := 4294967296 ^ i
theorem pB_zero : pB 0 = 1 := rfl
theorem pB_succ (i : Nat) : pB (i + 1) = 4294967296 * pB i := by unfold pB; rw [Nat.pow_succ, Nat.mul_comm]
theorem pB_pos (i : Nat) : 0 < pB i := Nat.pow_pos (by decide)
theorem pB_add (i j : Nat) : pB (i + j) = pB i * pB j := Nat.pow_add _ _ _
theorem pB_le {i j : Nat} (h : i ≤ j) : pB i ≤ pB j := Nat.pow_le_pow_right (by decide) h
theorem pB_two (i : Nat) : pB i = 2 ^ (32 * i) := by
  unfold pB; rw [Nat.pow_mul]

/-- The word i of m. -/
def dg (m i : Nat) : Nat := m / pB i % 4294967296
/-- How many words m has. -/
def len (m : Nat) : Nat := if h : m = 0 then 0 else len (m / 4294967296) + 1
decreasing_by exact Nat.div_lt_self (by omega) (by decide)

theorem len_zero : len 0 = 0 := by unfold len; simp
theorem len_pos {m : Nat} (h : m ≠ 0) : len m = len (m / 4294967296) + 1 := by
  rw [len]; simp [h]
theorem len_eq_zero {m : Nat} : len m = 0 ↔ m = 0 := by
  constructor
  · intro h; rcases Nat.eq_zero_or_pos m with h0 | h0
    · exact h0
    · rw [len_pos (by omega)] at h; omega
  · rintro rfl; exact len_zero
theorem dg_lt (m i : Nat) : dg m i < 4294967296 := Nat.mod_lt _ (by decide)

theorem lt_pB_len (m : Nat) : m < pB (len m) := by
  induction m using Nat.strongRecOn with
  | ind m ih =>
    by_cases h : m = 0
    · subst h; exact pB_pos _
    · rw [len_pos h, pB_succ]
      have := ih (m / 4294967296) (Nat.div_lt_self (by omega) (by decide))
      omega
theorem len_le {m n : Nat} (h : m < pB n) : len m ≤ n := by
  induction n generalizing m with
  | zero => rw [pB_zero] at h; have : m = 0 := by omega
            subst this; rw [len_zero]; omega
  | succ n ih =>
    by_cases h0 : m = 0
    · subst h0; rw [len_zero]; omega
    · rw [len_pos h0]; rw [pB_succ] at h
      have := ih (m := m / 4294967296) (by omega)
      omega
theorem lt_pB {m n : Nat} (h : len m ≤ n) : m < pB n := Nat.lt_of_lt_of_le (lt_pB_len m) (pB_le h)
theorem pB_le_of_lt_len {m n : Nat} (h : n < len m) : pB n ≤ m := by
  rcases Nat.lt_or_ge m (pB n) with h1 | h1
  · have := len_le h1; omega
  · exact h1
theorem len_mono {m n : Nat} (h : m ≤ n) : len m ≤ len n := len_le (Nat.lt_of_le_of_lt h (lt_pB_len n))

theorem div_pB_succ (m i : Nat) : m / pB i = m / pB (i + 1) * 4294967296 + dg m i := by
  unfold dg; rw [pB_succ, Nat.mul_comm 4294967296 (pB i), ← Nat.div_div_eq_div_mul]; omega
theorem mod_pB_succ (m i : Nat) : m % pB (i + 1) = m % pB i + dg m i * pB i := by
  have h1 := Nat.div_add_mod m (pB i)
  have h2 := Nat.div_add_mod m (pB (i + 1))
  have h3 := div_pB_succ m i
  rw [h3, Nat.mul_add] at h1
  have e : pB i * (m / pB (i + 1) * 4294967296) = pB (i + 1) * (m / pB (i + 1)) := by
    rw [pB_succ, Nat.mul_comm (m / _), ← Nat.mul_assoc, Nat.mul_comm (pB i)]
  rw [e] at h1
  rw [Nat.mul_comm (dg m i)]
  omega

/-- The number of the first words of f. -/
def valN (f : Nat → Nat) : Nat → Nat
  | 0 => 0
  | k + 1 => valN f k + f k * pB k
theorem valN_dg (m k : Nat) : valN (dg m) k = m % pB k := by
  induction k with
  | zero => simp [valN, pB_zero, Nat.mod_one]
  | succ k ih => rw [valN, ih, mod_pB_succ]
theorem valN_dg_all {m k : Nat} (h : len m ≤ k) : valN (dg m) k = m := by
  rw [valN_dg, Nat.mod_eq_of_lt (lt_pB h)]
theorem valN_lt {f : Nat → Nat} {k : Nat} (h : ∀ i, i < k → f i < 4294967296) : valN f k < pB k := by
  induction k with
  | zero => simp [valN, pB_zero]
  | succ k ih =>
    have := ih (fun i hi => h i (by omega))
    have hk := h k (by omega)
    rw [valN, pB_succ]
    have : f k * pB k ≤ 4294967295 * pB k := Nat.mul_le_mul_right _ (by omega)
    omega
theorem valN_congr {f g : Nat → Nat} {k : Nat} (h : ∀ i, i < k → f i = g i) : valN f k = valN g k := by
  induction k with
  | zero => rfl
  | succ k ih => rw [valN, valN, ih (fun i hi => h i (by omega)), h k (by omega)]
theorem dg_valN {f : Nat → Nat} {n i : Nat} (h : ∀ i, i < n → f i < 4294967296) (hi : i < n) : dg (valN f n) i = f i := by
  induction n with
  | zero => omega
  | succ n ih =>
    have hb := valN_lt (f := f) (k := n) (fun i hi => h i (by omega))
    have hn := h n (by omega)
    rw [valN]
    by_cases e : i = n
    · subst e
      unfold dg
      rw [Nat.add_comm, Nat.mul_comm, Nat.mul_add_div (pB_pos _), Nat.div_eq_of_lt hb]
      simp; omega
    · have hlt : i < n := by omega
      have hp : f n * pB n = pB i * (f n * pB (n - i - 1) * 4294967296) := by
        have : pB n = pB i * pB (n - i - 1 + 1) := by rw [← pB_add]; congr 1; omega
        rw [this, pB_succ]
        generalize pB i = a; generalize pB (n - i - 1) = b
        rw [Nat.mul_left_comm, Nat.mul_assoc, Nat.mul_comm b]
      have := ih (fun i hi => h i (by omega)) hlt
      unfold dg at this ⊢
      rw [Nat.add_comm, hp, Nat.mul_add_div (pB_pos _)]
      omega
theorem valN_zeros {f : Nat → Nat} {t n : Nat} (ht : t ≤ n) (h : ∀ i, t ≤ i → i < n → f i = 0) : valN f n = valN f t := by
  induction n with
  | zero => have : t = 0 := by omega
            subst this; rfl
  | succ n ih =>
    by_cases e : t = n + 1
    · subst e; rfl
    · rw [valN, ih (by omega) (fun i h1 h2 => h i h1 (by omega)), h n (by omega) (by omega)]; simp
/-- Where the words from t on are 0 and the one before is not, t is the length. -/
theorem len_valN {f : Nat → Nat} {t n : Nat} (hb : ∀ i, i < n → f i < 4294967296) (ht : t ≤ n) (h : ∀ i, t ≤ i → i < n → f i = 0) (h0 : t = 0 ∨ f (t - 1) ≠ 0) : len (valN f n) = t := by
  rw [valN_zeros ht h]
  have hl := len_le (valN_lt (f := f) (k := t) (fun i hi => hb i (by omega)))
  rcases h0 with rfl | h0
  · omega
  · by_cases e : t = 0
    · subst e; omega
    · obtain ⟨s, rfl⟩ : ∃ s, t = s + 1 := ⟨t - 1, by omega⟩
      simp at h0
      have : pB s ≤ valN f (s + 1) := by
        rw [valN]
        have : 1 * pB s ≤ f s * pB s := Nat.mul_le_mul_right _ (by omega)
        omega
      rcases Nat.lt_or_ge s (len (valN f (s + 1))) with h1 | h1
      · omega
      · have := lt_pB h1; omega
theorem dg_top {m : Nat} (h : m ≠ 0) : dg m (len m - 1) ≠ 0 := by
  have h1 : 0 < len m := by have := len_pos h; omega
  have h2 := pB_le_of_lt_len (m := m) (n := len m - 1) (by omega)
  have h3 := lt_pB_len m
  rw [show len m = len m - 1 + 1 by omega, pB_succ] at h3
  unfold dg
  have h4 : m / pB (len m - 1) < 4294967296 := (Nat.div_lt_iff_lt_mul (pB_pos _)).2 h3
  have h5 : 1 ≤ m / pB (len m - 1) := (Nat.le_div_iff_mul_le (pB_pos _)).2 (by omega)
  rw [Nat.mod_eq_of_lt h4]; omega
theorem dg_high {m i : Nat} (h : len m ≤ i) : dg m i = 0 := by
  unfold dg; rw [Nat.div_eq_of_lt (lt_pB h)]
theorem dg_zero (m : Nat) : dg m 0 = m % 4294967296 := by unfold dg; rw [pB_zero, Nat.div_one]
theorem dg_div (m k i : Nat) : dg (m / pB k) i = dg m (k + i) := by
  unfold dg; rw [Nat.div_div_eq_div_mul, pB_add]
theorem ext_dg {m n : Nat} (h : ∀ i, dg m i = dg n i) : m = n := by
  have a := valN_dg_all (m := m) (k := max (len m) (len n)) (by omega)
  have b := valN_dg_all (m := n) (k := max (len m) (len n)) (by omega)
  exact a.symm.trans ((valN_congr fun i _ => h i).trans b)
theorem len_div (m k : Nat) : len (m / pB k) = len m - k := by
  by_cases h : len m ≤ k
  · rw [Nat.div_eq_of_lt (lt_pB h), len_zero]; omega
  · apply Nat.le_antisymm
    · apply len_le
      rw [Nat.div_lt_iff_lt_mul (pB_pos _), ← pB_add]; exact lt_pB (by omega)
    · have h1 := pB_le_of_lt_len (m := m) (n := len m - 1) (by omega)
      rcases Nat.lt_or_ge (len (m / pB k)) (len m - k) with h2 | h2
      · have h3 := lt_pB (m := m / pB k) (n := len m - k - 1) (by omega)
        rw [Nat.div_lt_iff_lt_mul (pB_pos _), ← pB_add, show len m - k - 1 + k = len m - 1 by omega] at h3
        omega
      · exact h2

/-- Comparison from the top. -/
theorem cmp_len {m n : Nat} (h : len m < len n) : m < n := by
  have := pB_le_of_lt_len (m := n) (n := len m) h
  have := lt_pB_len m
  omega
theorem lt_of_div {m n p : Nat} (h : m / p < n / p) : m < n := by
  rcases Nat.lt_or_ge m n with h1 | h1
  · exact h1
  · have := Nat.div_le_div_right (c := p) h1; omega
theorem cmp_dg {m n i : Nat} (h : m / pB (i + 1) = n / pB (i + 1)) (hd : dg m i < dg n i) : m < n := by
  refine lt_of_div (p := pB i) ?_
  rw [div_pB_succ m, div_pB_succ n, h]; omega
theorem cmp_step {m n i : Nat} (h : m / pB (i + 1) = n / pB (i + 1)) (hd : dg m i = dg n i) : m / pB i = n / pB i := by
  rw [div_pB_succ m, div_pB_succ n, h, hd]
theorem cmp_end {m n : Nat} (h : m / pB 0 = n / pB 0) : m = n := by simpa [pB_zero] using h
theorem cmp_start {m n : Nat} (h : len m = len n) : m / pB (len m) = n / pB (len m) := by
  rw [Nat.div_eq_of_lt (lt_pB_len m), Nat.div_eq_of_lt (lt_pB (by omega))]
def cmpF (m n : Nat) : Int := if m < n then -1 else if n < m then 1 else 0
theorem cmp_lt {m n : Nat} (h : m < n) : cmpF m n = -1 := by unfold cmpF; rw [if_pos h]
theorem cmp_gt {m n : Nat} (h : n < m) : cmpF m n = 1 := by unfold cmpF; rw [if_neg (by omega), if_pos h]
theorem cmp_eq {m n : Nat} (h : m = n) : cmpF m n = 0 := by subst h; unfold cmpF; simp

/-- Writing one word. -/
def upd (f : Nat → Nat) (k v : Nat) : Nat → Nat := fun i => if i = k then v else f i
theorem upd_same (f : Nat → Nat) (k v : Nat) : upd f k v k = v := by simp [upd]
theorem upd_ne (f : Nat → Nat) {k v i : Nat} (h : i ≠ k) : upd f k v i = f i := by simp [upd, h]
theorem valN_upd_ge (f : Nat → Nat) {k v n : Nat} (h : n ≤ k) : valN (upd f k v) n = valN f n := valN_congr fun i hi => upd_ne f (by omega)
theorem valN_upd (f : Nat → Nat) (k v : Nat) : valN (upd f k v) (k + 1) = valN f k + v * pB k := by
  rw [valN, valN_upd_ge f (Nat.le_refl _), upd_same]
theorem upd_lt {f : Nat → Nat} {k v n : Nat} (h : ∀ i, i < n → f i < 4294967296) (hv : v < 4294967296) : ∀ i, i < n → upd f k v i < 4294967296 := by
  intro i hi; unfold upd; split
  · exact hv
  · exact h i hi

/-- One step of a sum with a carry: s + c' * B is x + y + c. -/
theorem add_step {S x y c s c' pk X Y : Nat} (h : S + c * pk = X + Y) (h2 : s + c' * 4294967296 = x + y + c) : S + s * pk + c' * (4294967296 * pk) = X + x * pk + (Y + y * pk) := by
  have e := congrArg (· * pk) h2
  simp only [Nat.add_mul] at e
  rw [← Nat.mul_assoc]
  omega
theorem sub_step {S x y c s c' pk X Y : Nat} (h : S + Y = X + c * pk) (h2 : s + y + c = x + c' * 4294967296) : S + s * pk + (Y + y * pk) = X + x * pk + c' * (4294967296 * pk) := by
  have e := congrArg (· * pk) h2
  simp only [Nat.add_mul] at e
  rw [← Nat.mul_assoc]
  omega

end Go.Proofs.YtgmmcfnahfcadaaDoor
