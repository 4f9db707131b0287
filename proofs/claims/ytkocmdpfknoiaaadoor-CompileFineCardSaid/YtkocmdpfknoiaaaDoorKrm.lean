/- The fixed-point machine: results of instructions as exact numbers (mathematics). -/
import Derived.Test.YtkocmdpfknoiaaaDoorFlm
import Derived.Test.YtkocmdpfknoiaaaDoorInt
import Derived.Test.YtkocmdpfknoiaaaDoorKda
namespace Go.Proofs.YtkocmdpfknoiaaaDoor

theorem q_ofZ (n : Int) : (ofI n 0).q = (n : Rat) := by
  unfold ofI
  rw [q_mkD _ _ (by decide)]
  unfold qOf
  rw [qp_zero]
  by_cases h : n < 0
  · obtain ⟨m, rfl⟩ : ∃ m : Nat, n = -(m : Int) := ⟨n.natAbs, by omega⟩
    have hc : ((m : Int) : Rat) = ((m : Nat) : Rat) := by first | rfl | exact Rat.intCast_natCast m
    rw [decide_eq_true h, if_pos rfl]
    simp [hc]
    try grind
  · obtain ⟨m, rfl⟩ : ∃ m : Nat, n = (m : Int) := ⟨n.natAbs, by omega⟩
    have hc : ((m : Int) : Rat) = ((m : Nat) : Rat) := by first | rfl | exact Rat.intCast_natCast m
    rw [decide_eq_false h, if_neg (by decide)]
    simp [hc]
    try grind
theorem ofZ_ok (n : Int) : (ofI n 0).ok := ofI_ok _ _
theorem den_ofZ (n : Int) : (ofI n 0).den = 0 := (eq_ofI (v := n) (d := ofI n 0) rfl).1
theorem neg_ofZ (a : Int) : negD (ofI a 0) = ofI (-a) 0 := DV.uniq (negD_ok _) (ofI_ok _ _) (by rw [q_negD (ofI_ok _ _), q_ofZ, q_ofZ]; simp)
theorem add_ofZ (a b : Int) : addD (ofI a 0) (ofI b 0) = ofI (a + b) 0 := DV.uniq (addD_ok _ _) (ofI_ok _ _) (by rw [q_addD (ofI_ok _ _) (ofI_ok _ _), q_ofZ, q_ofZ, q_ofZ]; simp)
theorem sub_ofZ (a b : Int) : subD (ofI a 0) (ofI b 0) = ofI (a - b) 0 := by
  unfold subD; rw [neg_ofZ, add_ofZ]; congr 1
theorem cmp_ofZ (a b : Int) : cmpD (ofI a 0) (ofI b 0) = if a < b then -1 else if b < a then 1 else 0 := by
  rw [cmpD_sgn (ofI_ok _ _) (ofI_ok _ _), q_ofZ, q_ofZ]
  unfold sgn
  by_cases h1 : a < b
  · have : (a : Rat) < (b : Rat) := by exact_mod_cast h1
    rw [if_pos h1, if_pos (by grind)]
  · by_cases h2 : b < a
    · have : (b : Rat) < (a : Rat) := by exact_mod_cast h2
      rw [if_neg h1, if_pos h2, if_neg (by grind), if_pos (by grind)]
    · have : a = b := by omega
      subst this
      rw [if_neg h1, if_neg h2, if_neg (by grind), if_neg (by grind)]
theorem min_ofZ (a b : Int) : minD (ofI a 0) (ofI b 0) = ofI (min a b) 0 := by
  unfold minD; rw [cmp_ofZ]
  by_cases h1 : a < b
  · rw [if_pos h1, if_neg (by omega), show min a b = a by omega]
  · by_cases h2 : b < a
    · rw [if_neg h1, if_pos h2, if_pos (by omega), show min a b = b by omega]
    · rw [if_neg h1, if_neg h2, if_neg (by omega), show min a b = a by omega]
theorem max_ofZ (a b : Int) : maxD (ofI a 0) (ofI b 0) = ofI (max a b) 0 := by
  unfold maxD; rw [cmp_ofZ]
  by_cases h1 : a < b
  · rw [if_pos h1, if_pos (by omega), show max a b = b by omega]
  · by_cases h2 : b < a
    · rw [if_neg h1, if_pos h2, if_neg (by omega), show max a b = a by omega]
    · rw [if_neg h1, if_neg h2, if_neg (by omega), show max a b = a by omega]
theorem abs_ofZ (a : Int) : absD (ofI a 0) = ofI (max a (-a)) 0 := by
  by_cases h : a < 0
  · have e : absD (ofI a 0) = negD (ofI a 0) := by
      unfold absD negD
      have : (ofI a 0).neg = true := by
        unfold ofI; rw [mkD_small (by decide), nrm0 (by omega)]; simpa using h
      rw [this]; rfl
    rw [e, neg_ofZ, show max a (-a) = -a by omega]
  · have e : absD (ofI a 0) = ofI a 0 := by
      refine DV.uniq (absD_ok _) (ofI_ok _ _) ?_
      unfold absD
      rw [q_mkD _ _ (ofI_ok _ _).2.1]
      have hn : (ofI a 0).neg = false := by
        unfold ofI
        by_cases h0 : a.natAbs = 0
        · have : a = 0 := by omega
          subst this; rfl
        · rw [mkD_small (by decide), nrm0 h0]; simpa using h
      show qOf false _ _ = qOf (ofI a 0).neg _ _
      rw [hn]
    rw [e, show max a (-a) = a by omega]
theorem shift_q {x k : Int} (h1 : -62 ≤ k) (h2 : k ≤ 30) : (shiftD (ofI x 0) k).q = if k < 0 then (x : Rat) / qp (-k).toNat else (x : Rat) * qp k.toNat := by
  have hc : clampN k = k := by unfold clampN; omega
  unfold shiftD
  rw [hc]
  by_cases h : k < 0
  · rw [if_pos h, if_pos h, den_ofZ, q_mkD _ _ (by omega), Nat.zero_add]
    have hx := q_ofZ x
    unfold DV.q at hx
    rw [den_ofZ] at hx
    unfold qOf at hx ⊢
    rw [qp_zero] at hx
    cases hn : (ofI x 0).neg <;> rw [hn] at hx <;> simp at hx ⊢ <;> rw [← hx] <;> grind
  · rw [if_neg h, if_neg h, den_ofZ, q_mkD _ _ (by omega)]
    have hx := q_ofZ x
    unfold DV.q at hx
    rw [den_ofZ] at hx
    unfold qOf at hx ⊢
    rw [qp_zero] at hx ⊢
    have hm : (((ofI x 0).m * 2 ^ k.toNat : Nat) : Rat) = ((ofI x 0).m : Rat) * qp k.toNat := by unfold qp; exact_mod_cast rfl
    rw [hm]
    cases hn : (ofI x 0).neg <;> rw [hn] at hx <;> simp at hx ⊢ <;> rw [← hx] <;> grind
theorem shI_q {x k : Int} (h1 : -62 ≤ k) (h2 : k ≤ 30) : ((shI x k : Int) : Rat) ≤ (shiftD (ofI x 0) k).q ∧ (shiftD (ofI x 0) k).q < ((shI x k : Int) : Rat) + 1 := by
  rw [shift_q h1 h2]
  unfold shI
  by_cases h : k < 0
  · rw [if_pos h, if_pos h]
    have hp := pow_pos (-k).toNat
    have hd := Int.mul_ediv_add_emod x (2 ^ (-k).toNat)
    have m0 := Int.emod_nonneg x (show (2 : Int) ^ (-k).toNat ≠ 0 by omega)
    have m1 := Int.emod_lt_of_pos x (show (0 : Int) < 2 ^ (-k).toNat by omega)
    have hq : qp (-k).toNat = (((2 : Int) ^ (-k).toNat : Int) : Rat) := by unfold qp; push_cast; rfl
    rw [hq]
    generalize (2 : Int) ^ (-k).toNat = D at *
    generalize x / D = y at *
    generalize x % D = r at *
    have hD : (0 : Rat) < (D : Rat) := by exact_mod_cast (show 0 < D by omega)
    have hx : (x : Rat) = (D : Rat) * (y : Rat) + (r : Rat) := by rw [← hd]; push_cast; rfl
    have hr0 : (0 : Rat) ≤ (r : Rat) := by exact_mod_cast m0
    have hr1 : (r : Rat) < (D : Rat) := by exact_mod_cast m1
    have e : (x : Rat) / (D : Rat) = (y : Rat) + (r : Rat) / (D : Rat) := by rw [hx]; grind
    have q0 : (0 : Rat) ≤ (r : Rat) / (D : Rat) := by
      rw [Rat.div_def]; exact Rat.mul_nonneg hr0 (by have := Rat.inv_pos.2 hD; grind)
    have q1 : (r : Rat) / (D : Rat) < 1 := by
      have := Rat.inv_pos.2 hD
      rw [Rat.div_def]
      have h3 : (D : Rat) * (D : Rat)⁻¹ = 1 := by grind
      have h4 : 0 < ((D : Rat) - (r : Rat)) * (D : Rat)⁻¹ := Rat.mul_pos (by grind) this
      grind
    rw [e]
    constructor <;> grind
  · rw [if_neg h, if_neg h]
    have hq : qp k.toNat = (((2 : Int) ^ k.toNat : Int) : Rat) := by unfold qp; push_cast; rfl
    rw [hq]
    have : ((x * 2 ^ k.toNat : Int) : Rat) = (x : Rat) * (((2 : Int) ^ k.toNat : Int) : Rat) := by push_cast; rfl
    rw [this]
    constructor <;> grind
theorem floor_shift {x k : Int} (h1 : -62 ≤ k) (h2 : k ≤ 30) : floorD (shiftD (ofI x 0) k) 0 = ofI (shI x k) 0 := by
  have hok := shiftD_ok (ofI x 0) k
  have hf := floorD_ok hok 0
  obtain ⟨f1, f2⟩ := floor_q hok 0 (by omega)
  obtain ⟨s1, s2⟩ := shI_q (x := x) h1 h2
  have hden : (floorD (shiftD (ofI x 0) k) 0).den = 0 := by
    unfold floorD
    split
    · omega
    · exact Nat.le_zero.1 (den_le _ _ _ (by decide))
  have e := ofI_eq hf hden
  have e1 : qOf false 1 0 = 1 := by unfold qOf; rw [qp_zero]; simp; grind
  rw [e1] at f2
  have hq := q_ofZ (ivD (floorD (shiftD (ofI x 0) k) 0))
  rw [e] at hq
  rw [hq] at f1 f2
  generalize ivD (floorD (shiftD (ofI x 0) k) 0) = v at *
  have a1 : (v : Rat) < ((shI x k + 1 : Int) : Rat) := by push_cast; grind
  have a2 : ((shI x k : Int) : Rat) < ((v + 1 : Int) : Rat) := by push_cast; grind
  have b1 : v < shI x k + 1 := by exact_mod_cast a1
  have b2 : shI x k < v + 1 := by exact_mod_cast a2
  rw [← e, show v = shI x k by omega]
end Go.Proofs.YtkocmdpfknoiaaaDoor
