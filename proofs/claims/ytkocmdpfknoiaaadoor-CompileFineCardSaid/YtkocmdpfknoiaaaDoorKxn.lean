/- Shifts of numbers as rational numbers, at wider exponents. -/
import Derived.Test.YtkocmdpfknoiaaaDoorKrm
import Derived.Test.YtkocmdpfknoiaaaDoorKxa
namespace Go.Proofs.YtkocmdpfknoiaaaDoor

theorem shift_qw {x k : Int} (h1 : -1000 ≤ k) (h2 : k ≤ 1000) : (shiftD (ofI x 0) k).q = if k < 0 then (x : Rat) / qp (-k).toNat else (x : Rat) * qp k.toNat := by
  have hc : clampN k = k := by unfold clampN; omega
  unfold shiftD
  rw [hc]
  by_cases h : k < 0
  · rw [if_pos h, if_pos h, den_ofZ, q_mkD _ _ (by omega), Nat.zero_add]
    have hx := q_ofZ x
    unfold DV.q at hx
    rw [den_ofZ] at hx
    unfold qOf at hx ⊢
    rw [qp_zero] at hx
    cases hn : (ofI x 0).neg <;> rw [hn] at hx <;> simp at hx ⊢ <;> rw [← hx] <;> grind
  · rw [if_neg h, if_neg h, den_ofZ, q_mkD _ _ (by omega)]
    have hx := q_ofZ x
    unfold DV.q at hx
    rw [den_ofZ] at hx
    unfold qOf at hx ⊢
    rw [qp_zero] at hx ⊢
    have hm : (((ofI x 0).m * 2 ^ k.toNat : Nat) : Rat) = ((ofI x 0).m : Rat) * qp k.toNat := by unfold qp; exact_mod_cast rfl
    rw [hm]
    cases hn : (ofI x 0).neg <;> rw [hn] at hx <;> simp at hx ⊢ <;> rw [← hx] <;> grind
theorem shI_qw {x k : Int} (h1 : -1000 ≤ k) (h2 : k ≤ 1000) : ((shI x k : Int) : Rat) ≤ (shiftD (ofI x 0) k).q ∧ (shiftD (ofI x 0) k).q < ((shI x k : Int) : Rat) + 1 := by
  rw [shift_qw h1 h2]
  unfold shI
  by_cases h : k < 0
  · rw [if_pos h, if_pos h]
    have hp := pow_pos (-k).toNat
    have hd := Int.mul_ediv_add_emod x (2 ^ (-k).toNat)
    have m0 := Int.emod_nonneg x (show (2 : Int) ^ (-k).toNat ≠ 0 by omega)
    have m1 := Int.emod_lt_of_pos x (show (0 : Int) < 2 ^ (-k).toNat by omega)
    have hq : qp (-k).toNat = (((2 : Int) ^ (-k).toNat : Int) : Rat) := by unfold qp; push_cast; rfl
    rw [hq]
    generalize (2 : Int) ^ (-k).toNat = D at *
    generalize x / D = y at *
    generalize x % D = r at *
    have hD : (0 : Rat) < (D : Rat) := by exact_mod_cast (show 0 < D by omega)
    have hx : (x : Rat) = (D : Rat) * (y : Rat) + (r : Rat) := by rw [← hd]; push_cast; rfl
    have hr0 : (0 : Rat) ≤ (r : Rat) := by exact_mod_cast m0
    have hr1 : (r : Rat) < (D : Rat) := by exact_mod_cast m1
    have e : (x : Rat) / (D : Rat) = (y : Rat) + (r : Rat) / (D : Rat) := by rw [hx]; grind
    have q0 : (0 : Rat) ≤ (r : Rat) / (D : Rat) := by
      rw [Rat.div_def]; exact Rat.mul_nonneg hr0 (by have := Rat.inv_pos.2 hD; grind)
    have q1 : (r : Rat) / (D : Rat) < 1 := by
      have := Rat.inv_pos.2 hD
      rw [Rat.div_def]
      have h3 : (D : Rat) * (D : Rat)⁻¹ = 1 := by grind
      have h4 : 0 < ((D : Rat) - (r : Rat)) * (D : Rat)⁻¹ := Rat.mul_pos (by grind) this
      grind
    rw [e]
    constructor <;> grind
  · rw [if_neg h, if_neg h]
    have hq : qp k.toNat = (((2 : Int) ^ k.toNat : Int) : Rat) := by unfold qp; push_cast; rfl
    rw [hq]
    have : ((x * 2 ^ k.toNat : Int) : Rat) = (x : Rat) * (((2 : Int) ^ k.toNat : Int) : Rat) := by push_cast; rfl
    rw [this]
    constructor <;> grind
theorem floor_shiftw {x k : Int} (h1 : -1000 ≤ k) (h2 : k ≤ 1000) : floorD (shiftD (ofI x 0) k) 0 = ofI (shI x k) 0 := by
  have hok := shiftD_ok (ofI x 0) k
  have hf := floorD_ok hok 0
  obtain ⟨f1, f2⟩ := floor_q hok 0 (by omega)
  obtain ⟨s1, s2⟩ := shI_qw (x := x) h1 h2
  have hden : (floorD (shiftD (ofI x 0) k) 0).den = 0 := by
    unfold floorD
    split
    · omega
    · exact Nat.le_zero.1 (den_le _ _ _ (by decide))
  have e := ofI_eq hf hden
  have e1 : qOf false 1 0 = 1 := by unfold qOf; rw [qp_zero]; simp; grind
  rw [e1] at f2
  have hq := q_ofZ (ivD (floorD (shiftD (ofI x 0) k) 0))
  rw [e] at hq
  rw [hq] at f1 f2
  generalize ivD (floorD (shiftD (ofI x 0) k) 0) = v at *
  have a1 : (v : Rat) < ((shI x k + 1 : Int) : Rat) := by push_cast; grind
  have a2 : ((shI x k : Int) : Rat) < ((v + 1 : Int) : Rat) := by push_cast; grind
  have b1 : v < shI x k + 1 := by exact_mod_cast a1
  have b2 : shI x k < v + 1 := by exact_mod_cast a2
  rw [← e, show v = shI x k by omega]

/-- 2^k as a rational number. -/
def zp (k : Int) : Rat := if k < 0 then 1 / qp (-k).toNat else qp k.toNat
theorem zp_pos (k : Int) : 0 < zp k := by
  unfold zp; split
  · have := qp_pos (-k).toNat; rw [Rat.div_def]; have := Rat.inv_pos.2 this; grind
  · exact qp_pos _
theorem zp_zero : zp 0 = 1 := by unfold zp; rw [if_neg (by omega)]; exact qp_zero
theorem qp_sub {a b : Nat} (h : a ≤ b) : qp b = qp a * qp (b - a) := by rw [← qp_add]; congr 1; omega
theorem zp_add (a b : Int) : zp (a + b) = zp a * zp b := by
  unfold zp
  by_cases ha : a < 0 <;> by_cases hb : b < 0
  · rw [if_pos ha, if_pos hb, if_pos (by omega), show (-(a + b)).toNat = (-a).toNat + (-b).toNat by omega, qp_add]
    have := qp_ne (-a).toNat; have := qp_ne (-b).toNat; grind
  · rw [if_pos ha, if_neg hb]
    by_cases h : a + b < 0
    · rw [if_pos h]
      have e := qp_sub (a := b.toNat) (b := (-a).toNat) (by omega)
      rw [show (-(a + b)).toNat = (-a).toNat - b.toNat by omega, e]
      have := qp_ne b.toNat; have := qp_ne ((-a).toNat - b.toNat); grind
    · rw [if_neg h]
      have e := qp_sub (a := (-a).toNat) (b := b.toNat) (by omega)
      rw [show (a + b).toNat = b.toNat - (-a).toNat by omega, e]
      have := qp_ne (-a).toNat; grind
  · rw [if_neg ha, if_pos hb]
    by_cases h : a + b < 0
    · rw [if_pos h]
      have e := qp_sub (a := a.toNat) (b := (-b).toNat) (by omega)
      rw [show (-(a + b)).toNat = (-b).toNat - a.toNat by omega, e]
      have := qp_ne a.toNat; have := qp_ne ((-b).toNat - a.toNat); grind
    · rw [if_neg h]
      have e := qp_sub (a := (-b).toNat) (b := a.toNat) (by omega)
      rw [show (a + b).toNat = a.toNat - (-b).toNat by omega, e]
      have := qp_ne (-b).toNat; grind
  · rw [if_neg ha, if_neg hb, if_neg (by omega), show (a + b).toNat = a.toNat + b.toNat by omega, qp_add]
theorem q_sh {d : DV} {k : Int} (h1 : -1000 ≤ k) (h2 : k ≤ 1000) (hd : d.den ≤ 10000) : (shiftD d k).q = d.q * zp k := by
  have hc : clampN k = k := by unfold clampN; omega
  unfold shiftD
  rw [hc]
  unfold zp
  by_cases h : k < 0
  · rw [if_pos h, if_pos h, q_mkD _ _ (by omega)]
    unfold DV.q qOf
    rw [qp_add]
    have := qp_ne d.den; have := qp_ne (-k).toNat
    cases d.neg <;> simp <;> grind
  · rw [if_neg h, if_neg h, q_mkD _ _ (by omega)]
    unfold DV.q qOf
    have hm : ((d.m * 2 ^ k.toNat : Nat) : Rat) = (d.m : Rat) * qp k.toNat := by unfold qp; exact_mod_cast rfl
    rw [hm]
    cases d.neg <;> simp <;> grind
theorem q_ofZsh {n k : Int} (h1 : -1000 ≤ k) (h2 : k ≤ 1000) : (shiftD (ofI n 0) k).q = (n : Rat) * zp k := by
  rw [q_sh h1 h2 (by rw [den_ofZ]; omega), q_ofZ]
theorem den_sh {n k : Int} (h1 : -1000 ≤ k) (h2 : k ≤ 1000) : (shiftD (ofI n 0) k).den ≤ 1000 := by
  have hc : clampN k = k := by unfold clampN; omega
  unfold shiftD
  rw [hc, den_ofZ]
  split
  · exact Nat.le_trans (den_le _ _ _ (by omega)) (by omega)
  · exact Nat.le_trans (den_le _ _ _ (by omega)) (by omega)
theorem sh_sh {n a b : Int} (h1 : -100 ≤ a) (h2 : a ≤ 100) (h3 : -100 ≤ b) (h4 : b ≤ 100) : shiftD (shiftD (ofI n 0) a) b = shiftD (ofI n 0) (a + b) := by
  refine DV.uniq (shiftD_ok _ _) (shiftD_ok _ _) ?_
  rw [q_sh (by omega) (by omega) (Nat.le_trans (den_sh (by omega) (by omega)) (by omega)), q_ofZsh (by omega) (by omega), q_ofZsh (by omega) (by omega), zp_add]; grind
theorem shI_zp {x k : Int} (h1 : -1000 ≤ k) (h2 : k ≤ 1000) : ((shI x k : Int) : Rat) ≤ (x : Rat) * zp k ∧ (x : Rat) * zp k < ((shI x k : Int) : Rat) + 1 := by
  have := shI_qw (x := x) h1 h2
  rwa [q_ofZsh h1 h2] at this
end Go.Proofs.YtkocmdpfknoiaaaDoor
