/- Plain mathematics: the ring laws of numbers. -/
import Derived.Test.YtbghikgagejbiaaDoorLawa
namespace Go.Proofs.YtbghikgagejbiaaDoor

theorem den_le (neg : Bool) (m k : Nat) (h : k ≤ 65536) : (mkD neg m k).den ≤ k := by
  rw [mkD_small h]; unfold nrm; split
  · exact Nat.zero_le _
  · exact Nat.sub_le _ _
theorem den_add {a b : DV} (ha : a.den ≤ 65536) (hb : b.den ≤ 65536) : (addD a b).den ≤ max a.den b.den := by
  unfold addD; split
  · exact den_le _ _ _ (by omega)
  · split
    · exact den_le _ _ _ (by omega)
    · exact den_le _ _ _ (by omega)
theorem den_mul {a b : DV} (h : a.den + b.den ≤ 65536) : (mulD a b).den ≤ a.den + b.den := den_le _ _ _ h
theorem lim_al (a : DV) (D : Nat) (h : D ≤ 65536) : len (al a D) ≤ len a.m + 2049 := by
  have := len_shl a.m (D - a.den); unfold al; omega
theorem lim_add {a b : DV} (ha : a.den ≤ 65536) (hb : b.den ≤ 65536) : len (addD a b).m ≤ max (len a.m) (len b.m) + 2050 := by
  have h1 := lim_al a (max a.den b.den) (by omega)
  have h2 := lim_al b (max a.den b.den) (by omega)
  have h3 := len_add (al a (max a.den b.den)) (al b (max a.den b.den))
  unfold addD; split
  · have := len_mono (mkD_m_le a.neg (al a (max a.den b.den) + al b (max a.den b.den)) (max a.den b.den)); omega
  · split
    · have := len_mono (Nat.le_trans (mkD_m_le b.neg (al b (max a.den b.den) - al a (max a.den b.den)) (max a.den b.den)) (Nat.sub_le _ _)); omega
    · have := len_mono (Nat.le_trans (mkD_m_le a.neg (al a (max a.den b.den) - al b (max a.den b.den)) (max a.den b.den)) (Nat.sub_le _ _)); omega
theorem lim_mul (a b : DV) : len (mulD a b).m ≤ len a.m + len b.m := Nat.le_trans (len_mono (mkD_m_le _ _ _)) (len_mul _ _)
theorem lim_neg (a : DV) : len (negD a).m ≤ len a.m := len_negD a
theorem den_neg {a : DV} (h : a.den ≤ 65536) : (negD a).den ≤ a.den := den_le _ _ _ h
theorem lim_sub {a b : DV} (ha : a.den ≤ 65536) (hb : b.den ≤ 65536) : len (subD a b).m ≤ max (len a.m) (len b.m) + 2050 := by
  have h1 := lim_add (a := a) (b := negD b) ha (Nat.le_trans (den_neg hb) hb)
  have h2 := lim_neg b
  unfold subD; omega
theorem lim_shift (a : DV) (n : Int) : len (shiftD a n).m ≤ len a.m + 2049 := by
  unfold shiftD
  split
  · exact Nat.le_trans (len_mono (mkD_m_le _ _ _)) (Nat.le_add_right _ _)
  · have h1 := len_shl a.m (clampN n).toNat
    have h2 := len_mono (mkD_m_le a.neg (a.m * 2 ^ (clampN n).toNat) a.den)
    have h3 : (clampN n).toNat ≤ 65536 := by unfold clampN; omega
    omega

theorem add_comm_D {a b : DV} (ha : a.ok) (hb : b.ok) : addD b a = addD a b := DV.uniq (addD_ok _ _) (addD_ok _ _) (by rw [q_addD hb ha, q_addD ha hb]; grind)
theorem mul_comm_D {a b : DV} (h : a.den + b.den ≤ 65536) : mulD b a = mulD a b := DV.uniq (mulD_ok _ _) (mulD_ok _ _) (by rw [q_mulD (by omega), q_mulD h]; grind)
theorem add_assoc_D {a b c : DV} (ha : a.ok) (hb : b.ok) (hc : c.ok) : addD a (addD b c) = addD (addD a b) c :=
  DV.uniq (addD_ok _ _) (addD_ok _ _) (by rw [q_addD ha (addD_ok _ _), q_addD hb hc, q_addD (addD_ok _ _) hc, q_addD ha hb]; grind)
theorem mul_assoc_D {a b c : DV} (h : a.den + b.den + c.den ≤ 65536) : mulD a (mulD b c) = mulD (mulD a b) c := by
  have h1 := den_mul (a := a) (b := b) (by omega)
  have h2 := den_mul (a := b) (b := c) (by omega)
  exact DV.uniq (mulD_ok _ _) (mulD_ok _ _) (by rw [q_mulD (by omega), q_mulD (by omega), q_mulD (by omega), q_mulD (by omega)]; grind)
theorem mul_add_D {a b c : DV} (hb : b.ok) (hc : c.ok) (h : a.den + max b.den c.den ≤ 65536) (h2 : a.den + b.den ≤ 65536) (h3 : a.den + c.den ≤ 65536) : addD (mulD a b) (mulD a c) = mulD a (addD b c) := by
  have h1 := den_add hb.2.1 hc.2.1
  exact DV.uniq (addD_ok _ _) (mulD_ok _ _) (by rw [q_addD (mulD_ok _ _) (mulD_ok _ _), q_mulD h2, q_mulD h3, q_mulD (by omega), q_addD hb hc]; grind)
theorem sgn_zero : sgn 0 = 0 := by unfold sgn; simp
theorem add_sub_D {a b : DV} (ha : a.ok) (hb : b.ok) : cmpD (subD (addD a b) b) a = 0 := by
  rw [cmpD_sgn (subD_ok _ _) ha, q_subD (addD_ok _ _) hb, q_addD ha hb]
  have : a.q + b.q - b.q - a.q = 0 := by grind
  rw [this, sgn_zero]
theorem qOf_128 (neg : Bool) (m k : Nat) : qOf neg (m * 2 ^ 7) k = qOf neg m k * 128 := by
  have e : ((m * 2 ^ 7 : Nat) : Rat) = (m : Rat) * 128 := by
    have : ((m * 2 ^ 7 : Nat) : Rat) = (m : Rat) * ((2 ^ 7 : Nat) : Rat) := by exact_mod_cast rfl
    rw [this]; rfl
  have := qp_ne k
  unfold qOf; rw [e]; cases neg <;> simp <;> grind
theorem q_down {a : DV} (h : a.den ≤ 65529) : (shiftD a (-7)).q * 128 = a.q := by
  have e : shiftD a (-7) = mkD a.neg a.m (a.den + 7) := by
    unfold shiftD
    rw [show clampN (-7) = -7 by decide, if_pos (by decide), show (- -7 : Int).toNat = 7 by decide]
  rw [e, q_mkD _ _ (by omega), ← qOf_128, qOf_shift]; rfl
theorem q_up {a : DV} (h : a.den ≤ 65536) : (shiftD a 7).q = a.q * 128 := by
  have e : shiftD a 7 = mkD a.neg (a.m * 2 ^ 7) a.den := by
    unfold shiftD
    rw [show clampN 7 = 7 by decide, if_neg (by decide), show (7 : Int).toNat = 7 by decide]
  rw [e, q_mkD _ _ h, qOf_128]; rfl
theorem shift_shift_D {a : DV} (ha : a.ok) (h : a.den ≤ 65529) : cmpD (shiftD (shiftD a (-7)) 7) a = 0 := by
  rw [cmpD_sgn (shiftD_ok _ _) ha, q_up (shiftD_ok _ _).2.1, q_down h]
  have : a.q - a.q = 0 := by grind
  rw [this, sgn_zero]

end Go.Proofs.YtbghikgagejbiaaDoor
