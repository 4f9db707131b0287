/- Minima and maxima as numbers; the least interval of some numbers. -/
import Derived.Test.YtgnngldlgcdnfaaGreatDoorMbig
namespace Go.Proofs.YtgnngldlgcdnfaaGreatDoor

/-! ### Ivm -/
section
theorem sgn_gt {r : Rat} (h : 0 < sgn r) : 0 < r := by
  unfold sgn at h
  split at h
  · exact absurd h (by decide)
  · split at h
    · assumption
    · exact absurd h (by decide)
theorem sgn_ngt {r : Rat} (h : ¬ 0 < sgn r) : r ≤ 0 := by
  unfold sgn at h
  split at h
  · grind
  · split at h
    · exact absurd (by decide) h
    · grind
theorem sgn_lt0 {r : Rat} (h : sgn r < 0) : r < 0 := by
  unfold sgn at h
  split at h
  · assumption
  · split at h
    · exact absurd h (by decide)
    · exact absurd h (by decide)
theorem sgn_nlt {r : Rat} (h : ¬ sgn r < 0) : 0 ≤ r := by
  unfold sgn at h
  split at h
  · exact absurd (by decide) h
  · grind
theorem min_facts {a b : DV} (ha : a.ok) (hb : b.ok) : (minD a b).q ≤ a.q ∧ (minD a b).q ≤ b.q ∧ (minD a b = a ∨ minD a b = b) := by
  unfold minD
  have e := cmpD_sgn ha hb
  by_cases h : 0 < cmpD a b
  · rw [if_pos h]
    rw [e] at h
    have := sgn_gt h
    exact ⟨by grind, by grind, .inr rfl⟩
  · rw [if_neg h]
    rw [e] at h
    have := sgn_ngt h
    exact ⟨by grind, by grind, .inl rfl⟩
theorem max_facts {a b : DV} (ha : a.ok) (hb : b.ok) : a.q ≤ (maxD a b).q ∧ b.q ≤ (maxD a b).q ∧ (maxD a b = a ∨ maxD a b = b) := by
  unfold maxD
  have e := cmpD_sgn ha hb
  by_cases h : cmpD a b < 0
  · rw [if_pos h]
    rw [e] at h
    have := sgn_lt0 h
    exact ⟨by grind, by grind, .inr rfl⟩
  · rw [if_neg h]
    rw [e] at h
    have := sgn_nlt h
    exact ⟨by grind, by grind, .inl rfl⟩
/-- The ends of the least interval that contains d and D 0 .. D (k - 1), as the code reckons them. -/
def loF (d : DV) (D : Nat → DV) : Nat → DV
  | 0 => minD d d
  | k + 1 => minD (loF d D k) (D k)
def hiF (d : DV) (D : Nat → DV) : Nat → DV
  | 0 => maxD d d
  | k + 1 => maxD (hiF d D k) (D k)
theorem minD_self (d : DV) : minD d d = d := by unfold minD; split <;> rfl
theorem maxD_self (d : DV) : maxD d d = d := by unfold maxD; split <;> rfl
theorem lo_facts {d : DV} {D : Nat → DV} (hd : d.ok) : ∀ k, (∀ i, i < k → (D i).ok) → (loF d D k).ok ∧ (loF d D k).q ≤ d.q ∧ (∀ i, i < k → (loF d D k).q ≤ (D i).q) ∧ (loF d D k = d ∨ ∃ i, i < k ∧ loF d D k = D i)
  | 0, _ => by
    show (minD d d).ok ∧ _
    rw [show loF d D 0 = minD d d from rfl, minD_self]
    exact ⟨hd, by grind, fun i h => absurd h (Nat.not_lt_zero i), .inl rfl⟩
  | k + 1, h => by
    obtain ⟨h1, h2, h3, h4⟩ := lo_facts (D := D) hd k (fun i hi => h i (by omega))
    obtain ⟨m1, m2, m3⟩ := min_facts h1 (h k (by omega))
    show (minD (loF d D k) (D k)).ok ∧ (minD (loF d D k) (D k)).q ≤ d.q ∧ (∀ i, i < k + 1 → (minD (loF d D k) (D k)).q ≤ (D i).q) ∧ (minD (loF d D k) (D k) = d ∨ ∃ i, i < k + 1 ∧ minD (loF d D k) (D k) = D i)
    refine ⟨minD_ok h1 (h k (by omega)), by grind, fun i hi => ?_, ?_⟩
    · by_cases e : i = k
      · subst e; exact m2
      · have := h3 i (by omega); grind
    · rcases m3 with e | e
      · rcases h4 with e4 | ⟨i, hi, e4⟩
        · exact .inl (e.trans e4)
        · exact .inr ⟨i, by omega, e.trans e4⟩
      · exact .inr ⟨k, by omega, e⟩
theorem hi_facts {d : DV} {D : Nat → DV} (hd : d.ok) : ∀ k, (∀ i, i < k → (D i).ok) → (hiF d D k).ok ∧ d.q ≤ (hiF d D k).q ∧ (∀ i, i < k → (D i).q ≤ (hiF d D k).q) ∧ (hiF d D k = d ∨ ∃ i, i < k ∧ hiF d D k = D i)
  | 0, _ => by
    show (maxD d d).ok ∧ _
    rw [show hiF d D 0 = maxD d d from rfl, maxD_self]
    exact ⟨hd, by grind, fun i h => absurd h (Nat.not_lt_zero i), .inl rfl⟩
  | k + 1, h => by
    obtain ⟨h1, h2, h3, h4⟩ := hi_facts (D := D) hd k (fun i hi => h i (by omega))
    obtain ⟨m1, m2, m3⟩ := max_facts h1 (h k (by omega))
    show (maxD (hiF d D k) (D k)).ok ∧ d.q ≤ (maxD (hiF d D k) (D k)).q ∧ (∀ i, i < k + 1 → (D i).q ≤ (maxD (hiF d D k) (D k)).q) ∧ (maxD (hiF d D k) (D k) = d ∨ ∃ i, i < k + 1 ∧ maxD (hiF d D k) (D k) = D i)
    refine ⟨maxD_ok h1 (h k (by omega)), by grind, fun i hi => ?_, ?_⟩
    · by_cases e : i = k
      · subst e; exact m2
      · have := h3 i (by omega); grind
    · rcases m3 with e | e
      · rcases h4 with e4 | ⟨i, hi, e4⟩
        · exact .inl (e.trans e4)
        · exact .inr ⟨i, by omega, e.trans e4⟩
      · exact .inr ⟨k, by omega, e⟩
end

/-! ### Ivn -/
section
theorem cmp_le {a b : DV} (ha : a.ok) (hb : b.ok) : cmpD a b ≤ 0 ↔ a.q ≤ b.q := by
  rw [cmpD_sgn ha hb]
  constructor
  · intro h; have := sgn_ngt (r := a.q - b.q) (by omega); grind
  · intro h
    unfold sgn
    split
    · decide
    · split
      · exfalso; grind
      · decide
theorem cmp_lt0 {a b : DV} (ha : a.ok) (hb : b.ok) : cmpD a b < 0 ↔ a.q < b.q := by
  rw [cmpD_sgn ha hb]
  constructor
  · intro h; have := sgn_lt0 h; grind
  · intro h
    unfold sgn
    rw [if_pos (by grind)]
    decide
theorem uniq_q {a b : DV} (ha : a.ok) (hb : b.ok) (h : a.q = b.q) : a = b := DV.uniq ha hb h

/-- The greater and the lesser one of two rational numbers. -/
def mnQ (x y : Rat) : Rat := if y < x then y else x
def mxQ (x y : Rat) : Rat := if x < y then y else x
theorem q_min {a b : DV} (ha : a.ok) (hb : b.ok) : (minD a b).q = mnQ a.q b.q := by
  unfold minD mnQ
  have h := cmp_le ha hb
  by_cases h1 : 0 < cmpD a b
  · rw [if_pos h1, if_pos (by have := fun x => h.2 x; grind)]
  · rw [if_neg h1, if_neg (by have := h.1 (by omega); grind)]
theorem q_max {a b : DV} (ha : a.ok) (hb : b.ok) : (maxD a b).q = mxQ a.q b.q := by
  unfold maxD mxQ
  have h := cmp_lt0 ha hb
  by_cases h1 : cmpD a b < 0
  · rw [if_pos h1, if_pos (h.1 h1)]
  · rw [if_neg h1, if_neg (fun x => h1 (h.2 x))]

/-- The least interval with some numbers: its ends. -/
def lo2 (a b : DV) : DV := minD a b
def hi2 (a b : DV) : DV := maxD a b
def lo3 (a b c : DV) : DV := minD (minD a b) c
def hi3 (a b c : DV) : DV := maxD (maxD a b) c
def lo4 (a b c d : DV) : DV := minD (minD (minD a b) c) d
def hi4 (a b c d : DV) : DV := maxD (maxD (maxD a b) c) d
theorem lo2_ok {a b : DV} (ha : a.ok) (hb : b.ok) : (lo2 a b).ok := minD_ok ha hb
theorem hi2_ok {a b : DV} (ha : a.ok) (hb : b.ok) : (hi2 a b).ok := maxD_ok ha hb
theorem lo2_le {a b : DV} (ha : a.ok) (hb : b.ok) : (lo2 a b).q ≤ (hi2 a b).q := by
  unfold lo2 hi2; rw [q_min ha hb, q_max ha hb]; unfold mnQ mxQ; grind
theorem lo3_ok {a b c : DV} (ha : a.ok) (hb : b.ok) (hc : c.ok) : (lo3 a b c).ok := minD_ok (minD_ok ha hb) hc
theorem hi3_ok {a b c : DV} (ha : a.ok) (hb : b.ok) (hc : c.ok) : (hi3 a b c).ok := maxD_ok (maxD_ok ha hb) hc
theorem lo4_ok {a b c d : DV} (ha : a.ok) (hb : b.ok) (hc : c.ok) (hd : d.ok) : (lo4 a b c d).ok := minD_ok (minD_ok (minD_ok ha hb) hc) hd
theorem hi4_ok {a b c d : DV} (ha : a.ok) (hb : b.ok) (hc : c.ok) (hd : d.ok) : (hi4 a b c d).ok := maxD_ok (maxD_ok (maxD_ok ha hb) hc) hd
theorem q_lo2 {a b : DV} (ha : a.ok) (hb : b.ok) : (lo2 a b).q = mnQ a.q b.q := q_min ha hb
theorem q_hi2 {a b : DV} (ha : a.ok) (hb : b.ok) : (hi2 a b).q = mxQ a.q b.q := q_max ha hb
theorem q_lo3 {a b c : DV} (ha : a.ok) (hb : b.ok) (hc : c.ok) : (lo3 a b c).q = mnQ (mnQ a.q b.q) c.q := by unfold lo3; rw [q_min (minD_ok ha hb) hc, q_min ha hb]
theorem q_hi3 {a b c : DV} (ha : a.ok) (hb : b.ok) (hc : c.ok) : (hi3 a b c).q = mxQ (mxQ a.q b.q) c.q := by unfold hi3; rw [q_max (maxD_ok ha hb) hc, q_max ha hb]
theorem q_lo4 {a b c d : DV} (ha : a.ok) (hb : b.ok) (hc : c.ok) (hd : d.ok) : (lo4 a b c d).q = mnQ (mnQ (mnQ a.q b.q) c.q) d.q := by
  unfold lo4; rw [q_min (minD_ok (minD_ok ha hb) hc) hd, q_min (minD_ok ha hb) hc, q_min ha hb]
theorem q_hi4 {a b c d : DV} (ha : a.ok) (hb : b.ok) (hc : c.ok) (hd : d.ok) : (hi4 a b c d).q = mxQ (mxQ (mxQ a.q b.q) c.q) d.q := by
  unfold hi4; rw [q_max (maxD_ok (maxD_ok ha hb) hc) hd, q_max (maxD_ok ha hb) hc, q_max ha hb]
theorem lo3_le {a b c : DV} (ha : a.ok) (hb : b.ok) (hc : c.ok) : (lo3 a b c).q ≤ (hi3 a b c).q := by
  rw [q_lo3 ha hb hc, q_hi3 ha hb hc]; unfold mnQ mxQ; grind
theorem lo4_le {a b c d : DV} (ha : a.ok) (hb : b.ok) (hc : c.ok) (hd : d.ok) : (lo4 a b c d).q ≤ (hi4 a b c d).q := by
  rw [q_lo4 ha hb hc hd, q_hi4 ha hb hc hd]; unfold mnQ mxQ; grind
/-- Sizes of minima and maxima. -/
theorem sz_min {a b : DV} {P : DV → Prop} (ha : P a) (hb : P b) : P (minD a b) := by unfold minD; split <;> assumption
theorem sz_max {a b : DV} {P : DV → Prop} (ha : P a) (hb : P b) : P (maxD a b) := by unfold maxD; split <;> assumption
theorem q_absD {a : DV} (h : a.ok) : (absD a).q = mxQ a.q (-a.q) := by
  unfold absD
  rw [q_mkD _ _ h.2.1]
  unfold DV.q qOf mxQ
  have hp := qp_pos a.den
  have h0 : (0 : Rat) ≤ (a.m : Rat) / qp a.den := by
    have h1 : (0 : Rat) ≤ (a.m : Rat) := by exact_mod_cast Nat.zero_le _
    generalize (a.m : Rat) = m at *
    have hn := qp_ne a.den
    have e : m / qp a.den * qp a.den = m := by grind
    by_cases hneg : 0 ≤ m / qp a.den
    · exact hneg
    · have := Rat.mul_pos (a := -(m / qp a.den)) (b := qp a.den) (by grind) hp
      grind
  cases a.neg <;> simp <;> grind

/-! ### What bounds bound -/
theorem bilin {x y a b c d L H : Rat} (hx1 : a ≤ x) (hx2 : x ≤ b) (hy1 : c ≤ y) (hy2 : y ≤ d)
    (l1 : L ≤ a * c) (l2 : L ≤ a * d) (l3 : L ≤ b * c) (l4 : L ≤ b * d) (h1 : a * c ≤ H) (h2 : a * d ≤ H) (h3 : b * c ≤ H) (h4 : b * d ≤ H) : L ≤ x * y ∧ x * y ≤ H := by
  have m (p q : Rat) (hp : 0 ≤ p) (hq : 0 ≤ q) : 0 ≤ p * q := Rat.mul_nonneg hp hq
  -- x y between a y and b y, where a y and b y are between the four products
  have lin (t L H : Rat) (hc : L ≤ t * c) (hd : L ≤ t * d) (hc' : t * c ≤ H) (hd' : t * d ≤ H) : L ≤ t * y ∧ t * y ≤ H := by
    by_cases ht : 0 ≤ t
    · have e1 := m t (y - c) ht (by grind)
      have e2 := m t (d - y) ht (by grind)
      constructor <;> grind
    · have e1 := m (-t) (y - c) (by grind) (by grind)
      have e2 := m (-t) (d - y) (by grind) (by grind)
      constructor <;> grind
  obtain ⟨p1, p2⟩ := lin a L H l1 l2 h1 h2
  obtain ⟨p3, p4⟩ := lin b L H l3 l4 h3 h4
  by_cases hy : 0 ≤ y
  · have e1 := m (x - a) y (by grind) hy
    have e2 := m (b - x) y (by grind) hy
    constructor <;> grind
  · have e1 := m (x - a) (-y) (by grind) (by grind)
    have e2 := m (b - x) (-y) (by grind) (by grind)
    constructor <;> grind
end

/-- An interval: its ends. -/
structure IV where
  lo : DV
  hi : DV
def IV.z : IV := ⟨DV.zero, DV.zero⟩
end Go.Proofs.YtgnngldlgcdnfaaGreatDoor
