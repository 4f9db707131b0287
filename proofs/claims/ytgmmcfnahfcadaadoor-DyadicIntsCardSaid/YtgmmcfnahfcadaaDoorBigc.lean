/- Plain mathematics: normal forms of dyadic numbers. -/
import Derived.Test.YtgmmcfnahfcadaaDoorBigb
namespace Go.Proofs.YtgmmcfnahfcadaaDoor

/-- How often 2 divides m, at most k times. -/
def hv : Nat → Nat → Nat
  | _, 0 => 0
  | m, k + 1 => if m % 2 = 0 then hv (m / 2) k + 1 else 0
theorem hv_le (m k : Nat) : hv m k ≤ k := by
  induction k generalizing m with
  | zero => simp [hv]
  | succ k ih =>
    unfold hv; split
    · have := ih (m / 2); omega
    · omega
theorem div_two_pow_succ (m i : Nat) : m / 2 ^ (i + 1) = m / 2 / 2 ^ i := by
  rw [Nat.pow_succ, Nat.mul_comm, ← Nat.div_div_eq_div_mul]
theorem hv_of_bits {m k j : Nat} (hj : j ≤ k) (h0 : ∀ i, i < j → m / 2 ^ i % 2 = 0) (h1 : j < k → m / 2 ^ j % 2 = 1) : hv m k = j := by
  induction k generalizing m j with
  | zero => unfold hv; omega
  | succ k ih =>
    unfold hv
    cases j with
    | zero =>
      have := h1 (by omega)
      simp at this
      rw [if_neg (by omega)]
    | succ j =>
      have a := h0 0 (by omega)
      simp at a
      rw [if_pos a, ih (m := m / 2) (j := j) (by omega) (fun i hi => by rw [← div_two_pow_succ]; exact h0 (i + 1) (by omega)) (fun h => by rw [← div_two_pow_succ]; exact h1 (by omega))]
theorem hv_zero_bit {m k i : Nat} (h : i < hv m k) : m / 2 ^ i % 2 = 0 := by
  induction k generalizing m i with
  | zero => simp [hv] at h
  | succ k ih =>
    unfold hv at h
    split at h
    · cases i with
      | zero => simpa
      | succ i => rw [div_two_pow_succ]; exact ih (by omega)
    · omega
theorem hv_one_bit {m k : Nat} (h : hv m k < k) : m / 2 ^ hv m k % 2 = 1 := by
  induction k generalizing m with
  | zero => omega
  | succ k ih =>
    unfold hv at h ⊢
    split
    · rename_i h2; rw [if_pos h2] at h; rw [div_two_pow_succ]; exact ih (by omega)
    · simp; omega
theorem hv_dvd (m k : Nat) : m / 2 ^ hv m k * 2 ^ hv m k = m := by
  induction k generalizing m with
  | zero => simp [hv]
  | succ k ih =>
    unfold hv
    split
    · rw [div_two_pow_succ, Nat.pow_succ, ← Nat.mul_assoc, ih]; omega
    · simp
theorem hv_shift {m k c : Nat} (h : c ≤ hv m (k + c)) : hv m (k + c) = hv (m / 2 ^ c) k + c := by
  have hb : ∀ i, (m / 2 ^ c) / 2 ^ i = m / 2 ^ (i + c) := fun i => by rw [Nat.div_div_eq_div_mul, ← Nat.pow_add, Nat.add_comm]
  have hl := hv_le m (k + c)
  have := hv_of_bits (m := m / 2 ^ c) (k := k) (j := hv m (k + c) - c) (by omega) (fun i hi => by rw [hb]; exact hv_zero_bit (k := k + c) (by omega)) (fun hlt => by rw [hb, show hv m (k + c) - c + c = hv m (k + c) by omega]; exact hv_one_bit (by omega))
  omega
theorem hv_div_pos {m k : Nat} (h : m ≠ 0) : m / 2 ^ hv m k ≠ 0 := by
  intro e
  have := hv_dvd m k
  rw [e] at this; omega

/-- A number: its sign, its size and its grid. -/
structure DV where
  neg : Bool
  m : Nat
  den : Nat
def DV.zero : DV := ⟨false, 0, 0⟩
/-- The valid form of m / 2^den, den at most 65536. -/
def nrm (neg : Bool) (m den : Nat) : DV := if m = 0 then DV.zero else ⟨neg, m / 2 ^ hv m den, den - hv m den⟩
/-- The same for any den: what is finer than 2^-65536 is cut off. -/
def mkD (neg : Bool) (m den : Nat) : DV := if den ≤ 65536 then nrm neg m den else nrm neg (m / 2 ^ (den - 65536)) 65536
theorem mkD_small {neg : Bool} {m den : Nat} (h : den ≤ 65536) : mkD neg m den = nrm neg m den := by unfold mkD; rw [if_pos h]
theorem mkD_big {neg : Bool} {m den : Nat} (h : 65536 < den) : mkD neg m den = nrm neg (m / 2 ^ (den - 65536)) 65536 := by unfold mkD; rw [if_neg (by omega)]
theorem nrm_zero (neg : Bool) (den : Nat) : nrm neg 0 den = DV.zero := by unfold nrm; rw [if_pos rfl]
theorem nrm_pos (neg : Bool) {m : Nat} (den : Nat) (h : m ≠ 0) : nrm neg m den = ⟨neg, m / 2 ^ hv m den, den - hv m den⟩ := by unfold nrm; rw [if_neg h]
/-- The reference's way to the same number, where enough halves can be taken. -/
theorem mkD_halves {neg : Bool} {m den : Nat} (h0 : m ≠ 0) (h : den - hv m den ≤ 65536) : mkD neg m den = ⟨neg, m / 2 ^ hv m den, den - hv m den⟩ := by
  by_cases hd : den ≤ 65536
  · rw [mkD_small hd, nrm_pos _ _ h0]
  · obtain ⟨c, rfl⟩ : ∃ c, den = 65536 + c := ⟨den - 65536, by omega⟩
    have hl := hv_le m (65536 + c)
    have hs := hv_shift (m := m) (k := 65536) (c := c) (by omega)
    have hc : m / 2 ^ c ≠ 0 := by
      intro e
      have h1 := hv_div_pos (k := 65536 + c) h0
      rw [hs, Nat.add_comm, Nat.pow_add, ← Nat.div_div_eq_div_mul, e] at h1
      simp at h1
    rw [mkD_big (by omega), show 65536 + c - 65536 = c by omega, nrm_pos _ _ hc, hs]
    congr 1
    · rw [Nat.div_div_eq_div_mul, ← Nat.pow_add, Nat.add_comm]
    · omega

/-- Valid forms. -/
def DV.ok (d : DV) : Prop := (d.m = 0 → d.neg = false ∧ d.den = 0) ∧ d.den ≤ 65536 ∧ (0 < d.den → d.m % 2 = 1)
theorem DV.zero_ok : DV.zero.ok := ⟨fun _ => ⟨rfl, rfl⟩, by decide, fun h => by cases h⟩
theorem nrm_ok {neg : Bool} {m den : Nat} (h : den ≤ 65536) : (nrm neg m den).ok := by
  by_cases h0 : m = 0
  · subst h0; rw [nrm_zero]; exact DV.zero_ok
  · rw [nrm_pos _ _ h0]
    refine ⟨fun e => absurd e (hv_div_pos h0), ?_, fun hd => ?_⟩
    · show den - _ ≤ _; omega
    · exact hv_one_bit (by simp at hd; omega)
theorem mkD_ok (neg : Bool) (m den : Nat) : (mkD neg m den).ok := by
  unfold mkD; split
  · exact nrm_ok ‹_›
  · exact nrm_ok (by decide)
theorem nrm_of_ok {d : DV} (h : d.ok) : nrm d.neg d.m d.den = d := by
  obtain ⟨neg, m, den⟩ := d
  obtain ⟨h1, h2, h3⟩ := h
  simp at h1 h2 h3
  by_cases h0 : m = 0
  · obtain ⟨rfl, rfl⟩ := h1 h0
    subst h0; rw [nrm_zero]; rfl
  · have : hv m den = 0 := hv_of_bits (by omega) (fun i hi => by omega) (fun hd => by simpa using h3 hd)
    rw [nrm_pos _ _ h0, this]; simp

end Go.Proofs.YtgmmcfnahfcadaaDoor
