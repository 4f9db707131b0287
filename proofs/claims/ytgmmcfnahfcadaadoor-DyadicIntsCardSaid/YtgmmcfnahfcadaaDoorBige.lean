/- Plain mathematics: what the functions on dyadic numbers compute. -/
import Derived.Test.YtgmmcfnahfcadaaDoorBigd
namespace Go.Proofs.YtgmmcfnahfcadaaDoor

theorem qOf_add (neg : Bool) (x y k : Nat) : qOf neg (x + y) k = qOf neg x k + qOf neg y k := by
  have := qp_ne k
  have e : ((x + y : Nat) : Rat) = (x : Rat) + (y : Rat) := by exact_mod_cast rfl
  unfold qOf; rw [e]; cases neg <;> simp <;> grind
theorem qOf_sub (neg : Bool) {x y : Nat} (k : Nat) (h : y ≤ x) : qOf neg (x - y) k = qOf neg x k + qOf (!neg) y k := by
  have h1 := qOf_add neg (x - y) y k
  rw [Nat.sub_add_cancel h] at h1
  have h2 : qOf (!neg) y k = -(qOf neg y k) := by unfold qOf; cases neg <;> simp
  rw [h1, h2]; grind
theorem qOf_not (neg : Bool) (m k : Nat) : qOf (!neg) m k = -(qOf neg m k) := by unfold qOf; cases neg <;> simp
theorem qOf_mul (n1 n2 : Bool) (x y j k : Nat) : qOf (n1 != n2) (x * y) (j + k) = qOf n1 x j * qOf n2 y k := by
  have h1 := qp_ne j
  have h2 := qp_ne k
  have e : ((x * y : Nat) : Rat) = (x : Rat) * (y : Rat) := by exact_mod_cast rfl
  unfold qOf; rw [e, qp_add]; cases n1 <;> cases n2 <;> simp <;> grind

def negD (a : DV) : DV := mkD (!a.neg) a.m a.den
def absD (a : DV) : DV := mkD false a.m a.den
def signD (a : DV) : Int := if a.m = 0 then 0 else if a.neg then -1 else 1
/-- The size of a over the grid D. -/
def al (a : DV) (D : Nat) : Nat := a.m * 2 ^ (D - a.den)
def addD (a b : DV) : DV :=
  if a.neg = b.neg then mkD a.neg (al a (max a.den b.den) + al b (max a.den b.den)) (max a.den b.den)
  else if al a (max a.den b.den) < al b (max a.den b.den) then mkD b.neg (al b (max a.den b.den) - al a (max a.den b.den)) (max a.den b.den)
  else mkD a.neg (al a (max a.den b.den) - al b (max a.den b.den)) (max a.den b.den)
def subD (a b : DV) : DV := addD a (negD b)
def cmpD (a b : DV) : Int := signD (subD a b)
def minD (a b : DV) : DV := if 0 < cmpD a b then b else a
def maxD (a b : DV) : DV := if cmpD a b < 0 then b else a
def mulD (a b : DV) : DV := mkD (a.neg != b.neg) (a.m * b.m) (a.den + b.den)
def clampN (n : Int) : Int := max (-65536) (min n 65536)
def shiftD (a : DV) (n : Int) : DV := if clampN n < 0 then mkD a.neg a.m (a.den + (-clampN n).toNat) else mkD a.neg (a.m * 2 ^ (clampN n).toNat) a.den
/-- Floor, at a grid from 0 to 65536. -/
def floorD (a : DV) (k : Nat) : DV := if a.den ≤ k then a else mkD a.neg (a.m / 2 ^ (a.den - k) + if a.neg then 1 else 0) k
def ceilD (a : DV) (k : Nat) : DV := negD (floorD (negD a) k)
def quoD (a b : DV) (k : Nat) : DV :=
  mkD (a.neg != b.neg) (a.m * 2 ^ (k + b.den) / (b.m * 2 ^ a.den) + if (a.neg != b.neg) && decide (a.m * 2 ^ (k + b.den) % (b.m * 2 ^ a.den) ≠ 0) then 1 else 0) k
def ofI (n : Int) (k : Nat) : DV := mkD (decide (n < 0)) n.natAbs k

theorem q_al {a : DV} {D : Nat} (h : a.den ≤ D) : qOf a.neg (al a D) D = a.q := by
  have := qOf_shift a.neg a.m a.den (D - a.den)
  rwa [Nat.add_sub_cancel' h] at this
theorem negD_ok (a : DV) : (negD a).ok := mkD_ok _ _ _
theorem absD_ok (a : DV) : (absD a).ok := mkD_ok _ _ _
theorem addD_ok (a b : DV) : (addD a b).ok := by unfold addD; split; exact mkD_ok _ _ _; split; exact mkD_ok _ _ _; exact mkD_ok _ _ _
theorem subD_ok (a b : DV) : (subD a b).ok := addD_ok _ _
theorem mulD_ok (a b : DV) : (mulD a b).ok := mkD_ok _ _ _
theorem shiftD_ok (a : DV) (n : Int) : (shiftD a n).ok := by unfold shiftD; split <;> exact mkD_ok _ _ _
theorem quoD_ok (a b : DV) (k : Nat) : (quoD a b k).ok := mkD_ok _ _ _
theorem ofI_ok (n : Int) (k : Nat) : (ofI n k).ok := mkD_ok _ _ _
theorem floorD_ok {a : DV} (h : a.ok) (k : Nat) : (floorD a k).ok := by unfold floorD; split; exact h; exact mkD_ok _ _ _
theorem minD_ok {a b : DV} (ha : a.ok) (hb : b.ok) : (minD a b).ok := by unfold minD; split <;> assumption
theorem maxD_ok {a b : DV} (ha : a.ok) (hb : b.ok) : (maxD a b).ok := by unfold maxD; split <;> assumption

theorem q_negD {a : DV} (h : a.ok) : (negD a).q = -a.q := by unfold negD; rw [q_mkD _ _ h.2.1, qOf_not]; rfl
theorem q_addD {a b : DV} (ha : a.ok) (hb : b.ok) : (addD a b).q = a.q + b.q := by
  have hD : max a.den b.den ≤ 65536 := Nat.max_le.2 ⟨ha.2.1, hb.2.1⟩
  have h1 := q_al (a := a) (D := max a.den b.den) (Nat.le_max_left _ _)
  have h2 := q_al (a := b) (D := max a.den b.den) (Nat.le_max_right _ _)
  unfold addD
  generalize max a.den b.den = D at *
  generalize al a D = x at *
  generalize al b D = y at *
  split
  · rename_i h; rw [q_mkD _ _ hD, qOf_add, h1, h, h2]
  · rename_i h
    have hn : (!a.neg) = b.neg := by cases e1 : a.neg <;> cases e2 : b.neg <;> simp_all
    have hn' : (!b.neg) = a.neg := by cases e1 : a.neg <;> cases e2 : b.neg <;> simp_all
    split
    · rw [q_mkD _ _ hD, qOf_sub _ _ (by omega), h2, hn', h1]; grind
    · rw [q_mkD _ _ hD, qOf_sub _ _ (by omega), h1, hn, h2]
theorem q_subD {a b : DV} (ha : a.ok) (hb : b.ok) : (subD a b).q = a.q - b.q := by unfold subD; rw [q_addD ha (negD_ok b), q_negD hb]; grind
theorem q_mulD {a b : DV} (h : a.den + b.den ≤ 65536) : (mulD a b).q = a.q * b.q := by unfold mulD; rw [q_mkD _ _ h, qOf_mul]; rfl

def sgn (r : Rat) : Int := if r < 0 then -1 else if 0 < r then 1 else 0
theorem signD_sgn (a : DV) : signD a = sgn a.q := by
  unfold signD sgn DV.q
  by_cases h : a.m = 0
  · rw [if_pos h, h, qOf_zero]; simp
  · have := q_pos_of (neg := a.neg) (m := a.m) (k := a.den) h
    rw [if_neg h]
    cases e : a.neg <;> rw [e] at this <;> simp at this
    · simp; grind
    · simp [this]
theorem cmpD_sgn {a b : DV} (ha : a.ok) (hb : b.ok) : cmpD a b = sgn (a.q - b.q) := by unfold cmpD; rw [signD_sgn, q_subD ha hb]
/-- The way of the code to the comparison. -/
theorem cmpD_signs {a b : DV} (ha : a.ok) (hb : b.ok) (h : signD a ≠ signD b) : cmpD a b = if signD a < signD b then -1 else 1 := by
  rw [cmpD_sgn ha hb]
  rw [signD_sgn, signD_sgn] at *
  unfold sgn at *
  split <;> split at h <;> split at h <;> (try split at h) <;> grind
theorem qOf_sgn_sub (neg : Bool) (x y k : Nat) : sgn (qOf neg x k - qOf neg y k) = if neg then cmpF y x else cmpF x y := by
  have key : ∀ (neg : Bool) (u v : Nat), u < v → (if neg then qOf neg v k < qOf neg u k else qOf neg u k < qOf neg v k) := by
    intro neg u v h
    have h1 := qOf_add neg u (v - u) k
    rw [show u + (v - u) = v by omega] at h1
    have h2 := q_pos_of (neg := neg) (m := v - u) (k := k) (by omega)
    cases neg <;> simp at h2 ⊢ <;> grind
  unfold cmpF sgn
  rcases Nat.lt_trichotomy x y with h | h | h
  · have := key neg x y h
    cases neg <;> simp at this ⊢ <;> (have : ¬ y < x := by omega) <;> simp [*] <;> grind
  · subst h
    cases neg <;> simp <;> grind
  · have := key neg y x h
    cases neg <;> simp at this ⊢ <;> (have : ¬ x < y := by omega) <;> simp [*] <;> grind
theorem cmpD_same {a b : DV} (ha : a.ok) (hb : b.ok) (h : signD a = signD b) : cmpD a b = if a.neg then cmpF (al b (max a.den b.den)) (al a (max a.den b.den)) else cmpF (al a (max a.den b.den)) (al b (max a.den b.den)) := by
  have h1 := q_al (a := a) (D := max a.den b.den) (Nat.le_max_left _ _)
  have h2 := q_al (a := b) (D := max a.den b.den) (Nat.le_max_right _ _)
  have hn : a.neg = b.neg ∨ (a.m = 0 ∧ b.m = 0) := by
    unfold signD at h
    by_cases e1 : a.m = 0 <;> by_cases e2 : b.m = 0 <;> cases e3 : a.neg <;> cases e4 : b.neg <;> simp [e1, e2, e3, e4] at h ⊢
  have hn' : a.neg = b.neg := by
    rcases hn with hn | ⟨e1, e2⟩
    · exact hn
    · rw [(ha.1 e1).1, (hb.1 e2).1]
  rw [cmpD_sgn ha hb, ← h1, ← h2, ← hn', qOf_sgn_sub]

end Go.Proofs.YtgmmcfnahfcadaaDoor
