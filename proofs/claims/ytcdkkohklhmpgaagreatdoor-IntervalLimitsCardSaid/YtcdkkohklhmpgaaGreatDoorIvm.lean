/- Minima and maxima as numbers; the least interval of some numbers. -/
import Derived.Test.YtcdkkohklhmpgaaGreatDoorMbig
namespace Go.Proofs.YtcdkkohklhmpgaaGreatDoor

theorem sgn_gt {r : Rat} (h : 0 < sgn r) : 0 < r := by
  unfold sgn at h
  split at h
  · exact absurd h (by decide)
  · split at h
    · assumption
    · exact absurd h (by decide)
theorem sgn_ngt {r : Rat} (h : ¬ 0 < sgn r) : r ≤ 0 := by
  unfold sgn at h
  split at h
  · grind
  · split at h
    · exact absurd (by decide) h
    · grind
theorem sgn_lt0 {r : Rat} (h : sgn r < 0) : r < 0 := by
  unfold sgn at h
  split at h
  · assumption
  · split at h
    · exact absurd h (by decide)
    · exact absurd h (by decide)
theorem sgn_nlt {r : Rat} (h : ¬ sgn r < 0) : 0 ≤ r := by
  unfold sgn at h
  split at h
  · exact absurd (by decide) h
  · grind
theorem min_facts {a b : DV} (ha : a.ok) (hb : b.ok) : (minD a b).q ≤ a.q ∧ (minD a b).q ≤ b.q ∧ (minD a b = a ∨ minD a b = b) := by
  unfold minD
  have e := cmpD_sgn ha hb
  by_cases h : 0 < cmpD a b
  · rw [if_pos h]
    rw [e] at h
    have := sgn_gt h
    exact ⟨by grind, by grind, .inr rfl⟩
  · rw [if_neg h]
    rw [e] at h
    have := sgn_ngt h
    exact ⟨by grind, by grind, .inl rfl⟩
theorem max_facts {a b : DV} (ha : a.ok) (hb : b.ok) : a.q ≤ (maxD a b).q ∧ b.q ≤ (maxD a b).q ∧ (maxD a b = a ∨ maxD a b = b) := by
  unfold maxD
  have e := cmpD_sgn ha hb
  by_cases h : cmpD a b < 0
  · rw [if_pos h]
    rw [e] at h
    have := sgn_lt0 h
    exact ⟨by grind, by grind, .inr rfl⟩
  · rw [if_neg h]
    rw [e] at h
    have := sgn_nlt h
    exact ⟨by grind, by grind, .inl rfl⟩
/-- The ends of the least interval that contains d and D 0 .. D (k - 1), as the code reckons them. -/
def loF (d : DV) (D : Nat → DV) : Nat → DV
  | 0 => minD d d
  | k + 1 => minD (loF d D k) (D k)
def hiF (d : DV) (D : Nat → DV) : Nat → DV
  | 0 => maxD d d
  | k + 1 => maxD (hiF d D k) (D k)
theorem minD_self (d : DV) : minD d d = d := by unfold minD; split <;> rfl
theorem maxD_self (d : DV) : maxD d d = d := by unfold maxD; split <;> rfl
theorem lo_facts {d : DV} {D : Nat → DV} (hd : d.ok) : ∀ k, (∀ i, i < k → (D i).ok) → (loF d D k).ok ∧ (loF d D k).q ≤ d.q ∧ (∀ i, i < k → (loF d D k).q ≤ (D i).q) ∧ (loF d D k = d ∨ ∃ i, i < k ∧ loF d D k = D i)
  | 0, _ => by
    show (minD d d).ok ∧ _
    rw [show loF d D 0 = minD d d from rfl, minD_self]
    exact ⟨hd, by grind, fun i h => absurd h (Nat.not_lt_zero i), .inl rfl⟩
  | k + 1, h => by
    obtain ⟨h1, h2, h3, h4⟩ := lo_facts (D := D) hd k (fun i hi => h i (by omega))
    obtain ⟨m1, m2, m3⟩ := min_facts h1 (h k (by omega))
    show (minD (loF d D k) (D k)).ok ∧ (minD (loF d D k) (D k)).q ≤ d.q ∧ (∀ i, i < k + 1 → (minD (loF d D k) (D k)).q ≤ (D i).q) ∧ (minD (loF d D k) (D k) = d ∨ ∃ i, i < k + 1 ∧ minD (loF d D k) (D k) = D i)
    refine ⟨minD_ok h1 (h k (by omega)), by grind, fun i hi => ?_, ?_⟩
    · by_cases e : i = k
      · subst e; exact m2
      · have := h3 i (by omega); grind
    · rcases m3 with e | e
      · rcases h4 with e4 | ⟨i, hi, e4⟩
        · exact .inl (e.trans e4)
        · exact .inr ⟨i, by omega, e.trans e4⟩
      · exact .inr ⟨k, by omega, e⟩
theorem hi_facts {d : DV} {D : Nat → DV} (hd : d.ok) : ∀ k, (∀ i, i < k → (D i).ok) → (hiF d D k).ok ∧ d.q ≤ (hiF d D k).q ∧ (∀ i, i < k → (D i).q ≤ (hiF d D k).q) ∧ (hiF d D k = d ∨ ∃ i, i < k ∧ hiF d D k = D i)
  | 0, _ => by
    show (maxD d d).ok ∧ _
    rw [show hiF d D 0 = maxD d d from rfl, maxD_self]
    exact ⟨hd, by grind, fun i h => absurd h (Nat.not_lt_zero i), .inl rfl⟩
  | k + 1, h => by
    obtain ⟨h1, h2, h3, h4⟩ := hi_facts (D := D) hd k (fun i hi => h i (by omega))
    obtain ⟨m1, m2, m3⟩ := max_facts h1 (h k (by omega))
    show (maxD (hiF d D k) (D k)).ok ∧ d.q ≤ (maxD (hiF d D k) (D k)).q ∧ (∀ i, i < k + 1 → (D i).q ≤ (maxD (hiF d D k) (D k)).q) ∧ (maxD (hiF d D k) (D k) = d ∨ ∃ i, i < k + 1 ∧ maxD (hiF d D k) (D k) = D i)
    refine ⟨maxD_ok h1 (h k (by omega)), by grind, fun i hi => ?_, ?_⟩
    · by_cases e : i = k
      · subst e; exact m2
      · have := h3 i (by omega); grind
    · rcases m3 with e | e
      · rcases h4 with e4 | ⟨i, hi, e4⟩
        · exact .inl (e.trans e4)
        · exact .inr ⟨i, by omega, e.trans e4⟩
      · exact .inr ⟨k, by omega, e⟩

end Go.Proofs.YtcdkkohklhmpgaaGreatDoor
