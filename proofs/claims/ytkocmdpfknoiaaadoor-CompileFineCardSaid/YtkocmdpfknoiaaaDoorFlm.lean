/- Floors as numbers. -/
import Derived.Test.YtkocmdpfknoiaaaDoorFlr
import Derived.Test.YtkocmdpfknoiaaaDoorDyy
namespace Go.Proofs.YtkocmdpfknoiaaaDoor
open Go.RowKit

theorem sgn_le {r : Rat} (h : sgn r ≤ 0) : r ≤ 0 := by
  unfold sgn at h
  split at h
  · grind
  · split at h
    · exact absurd h (by decide)
    · grind
theorem sgn_lt {r : Rat} (h : sgn r < 0) : r < 0 := by
  unfold sgn at h
  split at h
  · assumption
  · split at h
    · exact absurd h (by decide)
    · exact absurd h (by decide)
theorem le_sgn {r : Rat} (h : r ≤ 0) : sgn r ≤ 0 := by
  unfold sgn
  split
  · decide
  · split
    · exfalso; grind
    · decide
theorem lt_sgn {r : Rat} (h : r < 0) : sgn r < 0 := by
  unfold sgn; rw [if_pos h]; decide
theorem ge_sgn {r : Rat} (h : 0 ≤ r) : 0 ≤ sgn r := by
  unfold sgn
  split
  · exfalso; grind
  · split <;> decide
theorem cmpF_le {x y : Nat} (h : x ≤ y) : cmpF x y ≤ 0 := by unfold cmpF; split; decide; split; omega; decide
theorem cmpF_lt {x y : Nat} (h : x < y) : cmpF x y < 0 := by unfold cmpF; rw [if_pos h]; decide

theorem floor_q {a : DV} (h : a.ok) (k : Nat) (hk : k ≤ 65536) : (floorD a k).q ≤ a.q ∧ a.q < (floorD a k).q + qOf false 1 k := by
  have hu : (0 : Rat) < qOf false 1 k := by
    have := q_pos_of (neg := false) (m := 1) (k := k) (by decide)
    simpa using this
  by_cases hd : a.den ≤ k
  · rw [floor_small hd]
    constructor <;> grind
  · have hd' : k < a.den := by omega
    obtain ⟨j, hj⟩ : ∃ j, a.den - k = j := ⟨_, rfl⟩
    have hkj : a.den = k + j := by omega
    have hj0 : 0 < j := by omega
    have hodd := h.2.2 (by omega)
    have hc := of_decide_eq_true (cut_odd hodd hj0)
    have hdm := Nat.div_add_mod a.m (2 ^ j)
    have hml := Nat.mod_lt a.m (Nat.pow_pos (n := j) (show 0 < 2 by decide))
    rw [floor_big hd', q_mkD _ _ hk, hj]
    obtain ⟨x, hx⟩ : ∃ x, a.m / 2 ^ j = x := ⟨_, rfl⟩
    rw [hx] at hdm ⊢
    have e1 : x * 2 ^ j < a.m := by rw [Nat.mul_comm]; omega
    have e2 : a.m < (x + 1) * 2 ^ j := by rw [Nat.add_mul, Nat.mul_comm x]; omega
    have aq : a.q = qOf a.neg a.m (k + j) := by unfold DV.q; rw [hkj]
    cases hn : a.neg with
    | false =>
      rw [hn] at aq
      have s1 := qOf_sgn_sub false (x * 2 ^ j) a.m (k + j)
      have s2 := qOf_sgn_sub false a.m ((x + 1) * 2 ^ j) (k + j)
      rw [qOf_shift, ← aq] at s1
      rw [qOf_shift, ← aq, qOf_add] at s2
      have t1 := sgn_lt (r := qOf false x k - a.q) (by rw [s1]; exact cmpF_lt e1)
      have t2 := sgn_lt (r := a.q - (qOf false x k + qOf false 1 k)) (by rw [s2]; exact cmpF_lt e2)
      show qOf false (x + 0) k ≤ a.q ∧ a.q < qOf false (x + 0) k + qOf false 1 k
      rw [Nat.add_zero]
      constructor <;> grind
    | true =>
      rw [hn] at aq
      have s1 := qOf_sgn_sub true ((x + 1) * 2 ^ j) a.m (k + j)
      have s2 := qOf_sgn_sub true a.m (x * 2 ^ j) (k + j)
      rw [qOf_shift, ← aq] at s1
      rw [qOf_shift, ← aq] at s2
      have t1 := sgn_lt (r := qOf true (x + 1) k - a.q) (by rw [s1]; exact cmpF_lt e2)
      have t2 := sgn_lt (r := a.q - qOf true x k) (by rw [s2]; exact cmpF_lt e1)
      have e3 := qOf_add true x 1 k
      have e4 := qOf_not false 1 k
      show qOf true (x + 1) k ≤ a.q ∧ a.q < qOf true (x + 1) k + qOf false 1 k
      have e5 : qOf true 1 k = -(qOf false 1 k) := e4
      constructor <;> grind
theorem grid_q (k : Nat) (hk : k ≤ 65536) : (ofI 1 k).q = qOf false 1 k := by unfold ofI; rw [q_mkD _ _ hk]; rfl
theorem neg_neg_D {a : DV} (h : a.ok) : negD (negD a) = a := DV.uniq (negD_ok _) h (by rw [q_negD (negD_ok a), q_negD h]; grind)
theorem floor_cmp {a : DV} (h : a.ok) (k : Nat) (hk : k ≤ 65536) : cmpD (floorD a k) a ≤ 0 ∧ cmpD a (addD (floorD a k) (ofI 1 k)) < 0 := by
  obtain ⟨h1, h2⟩ := floor_q h k hk
  rw [cmpD_sgn (floorD_ok h k) h, cmpD_sgn h (addD_ok _ _), q_addD (floorD_ok h k) (ofI_ok _ _), grid_q k hk]
  exact ⟨le_sgn (by grind), lt_sgn (by grind)⟩
theorem ceil_cmp {a : DV} (h : a.ok) (k : Nat) (hk : k ≤ 65536) : 0 ≤ cmpD (ceilD a k) a ∧ cmpD (subD (ceilD a k) (ofI 1 k)) a < 0 := by
  obtain ⟨h1, h2⟩ := floor_q (negD_ok a) k hk
  have hc : (ceilD a k).q = -(floorD (negD a) k).q := by unfold ceilD; rw [q_negD (floorD_ok (negD_ok a) k)]
  have hco : (ceilD a k).ok := negD_ok _
  rw [q_negD h] at h1 h2
  rw [cmpD_sgn hco h, cmpD_sgn (subD_ok _ _) h, q_subD hco (ofI_ok _ _), grid_q k hk, hc]
  exact ⟨ge_sgn (by grind), lt_sgn (by grind)⟩
theorem back_floor {a : DV} (h : a.ok) (k : Nat) : negD (ceilD (negD a) k) = floorD a k := by
  unfold ceilD
  rw [neg_neg_D h, neg_neg_D (floorD_ok h k)]
theorem floor_den {a : DV} (k : Nat) (hk : k ≤ 65536) : (floorD a k).den ≤ k := by
  unfold floorD; split
  · assumption
  · exact den_le _ _ _ hk
theorem ceil_den {a : DV} (k : Nat) (hk : k ≤ 65536) : (ceilD a k).den ≤ k := by
  unfold ceilD
  have h1 := floor_den (a := negD a) k hk
  exact Nat.le_trans (den_neg (by omega)) h1
theorem lim_floor (a : DV) (k : Nat) : len (floorD a k).m ≤ len a.m + 1 := by
  have hq : ∀ j, len (a.m / 2 ^ j) ≤ len a.m := fun j => len_mono (Nat.div_le_self _ _)
  unfold floorD
  split
  · omega
  · refine Nat.le_trans (len_mono (mkD_m_le _ _ _)) ?_
    split
    · exact Nat.le_trans (len_succ _) (by have := hq (a.den - k); omega)
    · exact Nat.le_succ_of_le (hq _)
theorem lim_ceil (a : DV) (k : Nat) : len (ceilD a k).m ≤ len a.m + 1 := by
  unfold ceilD
  have h1 := lim_floor (negD a) k
  have h2 := lim_neg a
  have h3 := lim_neg (floorD (negD a) k)
  omega

end Go.Proofs.YtkocmdpfknoiaaaDoor
