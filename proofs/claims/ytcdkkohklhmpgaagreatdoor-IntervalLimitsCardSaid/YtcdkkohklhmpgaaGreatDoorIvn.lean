/- Mathematics of intervals: pairs of numbers; order, minima and maxima as rational numbers. -/
import Derived.Test.YtcdkkohklhmpgaaGreatDoorIvm
namespace Go.Proofs.YtcdkkohklhmpgaaGreatDoor

theorem cmp_le {a b : DV} (ha : a.ok) (hb : b.ok) : cmpD a b ≤ 0 ↔ a.q ≤ b.q := by
  rw [cmpD_sgn ha hb]
  constructor
  · intro h; have := sgn_ngt (r := a.q - b.q) (by omega); grind
  · intro h
    unfold sgn
    split
    · decide
    · split
      · exfalso; grind
      · decide
theorem cmp_lt0 {a b : DV} (ha : a.ok) (hb : b.ok) : cmpD a b < 0 ↔ a.q < b.q := by
  rw [cmpD_sgn ha hb]
  constructor
  · intro h; have := sgn_lt0 h; grind
  · intro h
    unfold sgn
    rw [if_pos (by grind)]
    decide
theorem uniq_q {a b : DV} (ha : a.ok) (hb : b.ok) (h : a.q = b.q) : a = b := DV.uniq ha hb h

/-- The greater and the lesser one of two rational numbers. -/
def mnQ (x y : Rat) : Rat := if y < x then y else x
def mxQ (x y : Rat) : Rat := if x < y then y else x
theorem q_min {a b : DV} (ha : a.ok) (hb : b.ok) : (minD a b).q = mnQ a.q b.q := by
  unfold minD mnQ
  have h := cmp_le ha hb
  by_cases h1 : 0 < cmpD a b
  · rw [if_pos h1, if_pos (by have := fun x => h.2 x; grind)]
  · rw [if_neg h1, if_neg (by have := h.1 (by omega); grind)]
theorem q_max {a b : DV} (ha : a.ok) (hb : b.ok) : (maxD a b).q = mxQ a.q b.q := by
  unfold maxD mxQ
  have h := cmp_lt0 ha hb
  by_cases h1 : cmpD a b < 0
  · rw [if_pos h1, if_pos (h.1 h1)]
  · rw [if_neg h1, if_neg (fun x => h1 (h.2 x))]

/-- The least interval with some numbers: its ends. -/
def lo2 (a b : DV) : DV := minD a b
def hi2 (a b : DV) : DV := maxD a b
def lo3 (a b c : DV) : DV := minD (minD a b) c
def hi3 (a b c : DV) : DV := maxD (maxD a b) c
def lo4 (a b c d : DV) : DV := minD (minD (minD a b) c) d
def hi4 (a b c d : DV) : DV := maxD (maxD (maxD a b) c) d
theorem lo2_ok {a b : DV} (ha : a.ok) (hb : b.ok) : (lo2 a b).ok := minD_ok ha hb
theorem hi2_ok {a b : DV} (ha : a.ok) (hb : b.ok) : (hi2 a b).ok := maxD_ok ha hb
theorem lo2_le {a b : DV} (ha : a.ok) (hb : b.ok) : (lo2 a b).q ≤ (hi2 a b).q := by
  unfold lo2 hi2; rw [q_min ha hb, q_max ha hb]; unfold mnQ mxQ; grind
theorem lo3_ok {a b c : DV} (ha : a.ok) (hb : b.ok) (hc : c.ok) : (lo3 a b c).ok := minD_ok (minD_ok ha hb) hc
theorem hi3_ok {a b c : DV} (ha : a.ok) (hb : b.ok) (hc : c.ok) : (hi3 a b c).ok := maxD_ok (maxD_ok ha hb) hc
theorem lo4_ok {a b c d : DV} (ha : a.ok) (hb : b.ok) (hc : c.ok) (hd : d.ok) : (lo4 a b c d).ok := minD_ok (minD_ok (minD_ok ha hb) hc) hd
theorem hi4_ok {a b c d : DV} (ha : a.ok) (hb : b.ok) (hc : c.ok) (hd : d.ok) : (hi4 a b c d).ok := maxD_ok (maxD_ok (maxD_ok ha hb) hc) hd
theorem q_lo2 {a b : DV} (ha : a.ok) (hb : b.ok) : (lo2 a b).q = mnQ a.q b.q := q_min ha hb
theorem q_hi2 {a b : DV} (ha : a.ok) (hb : b.ok) : (hi2 a b).q = mxQ a.q b.q := q_max ha hb
theorem q_lo3 {a b c : DV} (ha : a.ok) (hb : b.ok) (hc : c.ok) : (lo3 a b c).q = mnQ (mnQ a.q b.q) c.q := by unfold lo3; rw [q_min (minD_ok ha hb) hc, q_min ha hb]
theorem q_hi3 {a b c : DV} (ha : a.ok) (hb : b.ok) (hc : c.ok) : (hi3 a b c).q = mxQ (mxQ a.q b.q) c.q := by unfold hi3; rw [q_max (maxD_ok ha hb) hc, q_max ha hb]
theorem q_lo4 {a b c d : DV} (ha : a.ok) (hb : b.ok) (hc : c.ok) (hd : d.ok) : (lo4 a b c d).q = mnQ (mnQ (mnQ a.q b.q) c.q) d.q := by
  unfold lo4; rw [q_min (minD_ok (minD_ok ha hb) hc) hd, q_min (minD_ok ha hb) hc, q_min ha hb]
theorem q_hi4 {a b c d : DV} (ha : a.ok) (hb : b.ok) (hc : c.ok) (hd : d.ok) : (hi4 a b c d).q = mxQ (mxQ (mxQ a.q b.q) c.q) d.q := by
  unfold hi4; rw [q_max (maxD_ok (maxD_ok ha hb) hc) hd, q_max (maxD_ok ha hb) hc, q_max ha hb]
theorem lo3_le {a b c : DV} (ha : a.ok) (hb : b.ok) (hc : c.ok) : (lo3 a b c).q ≤ (hi3 a b c).q := by
  rw [q_lo3 ha hb hc, q_hi3 ha hb hc]; unfold mnQ mxQ; grind
theorem lo4_le {a b c d : DV} (ha : a.ok) (hb : b.ok) (hc : c.ok) (hd : d.ok) : (lo4 a b c d).q ≤ (hi4 a b c d).q := by
  rw [q_lo4 ha hb hc hd, q_hi4 ha hb hc hd]; unfold mnQ mxQ; grind
/-- Sizes of minima and maxima. -/
theorem sz_min {a b : DV} {P : DV → Prop} (ha : P a) (hb : P b) : P (minD a b) := by unfold minD; split <;> assumption
theorem sz_max {a b : DV} {P : DV → Prop} (ha : P a) (hb : P b) : P (maxD a b) := by unfold maxD; split <;> assumption
theorem q_absD {a : DV} (h : a.ok) : (absD a).q = mxQ a.q (-a.q) := by
  unfold absD
  rw [q_mkD _ _ h.2.1]
  unfold DV.q qOf mxQ
  have hp := qp_pos a.den
  have h0 : (0 : Rat) ≤ (a.m : Rat) / qp a.den := by
    have h1 : (0 : Rat) ≤ (a.m : Rat) := by exact_mod_cast Nat.zero_le _
    generalize (a.m : Rat) = m at *
    have hn := qp_ne a.den
    have e : m / qp a.den * qp a.den = m := by grind
    by_cases hneg : 0 ≤ m / qp a.den
    · exact hneg
    · have := Rat.mul_pos (a := -(m / qp a.den)) (b := qp a.den) (by grind) hp
      grind
  cases a.neg <;> simp <;> grind

/-! ### What bounds bound -/
theorem bilin {x y a b c d L H : Rat} (hx1 : a ≤ x) (hx2 : x ≤ b) (hy1 : c ≤ y) (hy2 : y ≤ d)
    (l1 : L ≤ a * c) (l2 : L ≤ a * d) (l3 : L ≤ b * c) (l4 : L ≤ b * d) (h1 : a * c ≤ H) (h2 : a * d ≤ H) (h3 : b * c ≤ H) (h4 : b * d ≤ H) : L ≤ x * y ∧ x * y ≤ H := by
  have m (p q : Rat) (hp : 0 ≤ p) (hq : 0 ≤ q) : 0 ≤ p * q := Rat.mul_nonneg hp hq
  -- x y between a y and b y, where a y and b y are between the four products
  have lin (t L H : Rat) (hc : L ≤ t * c) (hd : L ≤ t * d) (hc' : t * c ≤ H) (hd' : t * d ≤ H) : L ≤ t * y ∧ t * y ≤ H := by
    by_cases ht : 0 ≤ t
    · have e1 := m t (y - c) ht (by grind)
      have e2 := m t (d - y) ht (by grind)
      constructor <;> grind
    · have e1 := m (-t) (y - c) (by grind) (by grind)
      have e2 := m (-t) (d - y) (by grind) (by grind)
      constructor <;> grind
  obtain ⟨p1, p2⟩ := lin a L H l1 l2 h1 h2
  obtain ⟨p3, p4⟩ := lin b L H l3 l4 h3 h4
  by_cases hy : 0 ≤ y
  · have e1 := m (x - a) y (by grind) hy
    have e2 := m (b - x) y (by grind) hy
    constructor <;> grind
  · have e1 := m (x - a) (-y) (by grind) (by grind)
    have e2 := m (b - x) (-y) (by grind) (by grind)
    constructor <;> grind

end Go.Proofs.YtcdkkohklhmpgaaGreatDoor
