/- Plain mathematics: dyadic numbers as rational numbers. -/
import Derived.Test.YtgmmcfnahfcadaaDoorBigc
namespace Go.Proofs.YtgmmcfnahfcadaaDoor

def qp (k : Nat) : Rat := ((2 ^ k : Nat) : Rat)
theorem qp_pos (k : Nat) : 0 < qp k := by
  unfold qp
  have h : (0 : Nat) < 2 ^ k := p2_pos k
  exact_mod_cast h
theorem qp_ne (k : Nat) : qp k ≠ 0 := by have := qp_pos k; grind
theorem qp_add (j k : Nat) : qp (j + k) = qp j * qp k := by
  unfold qp; rw [Nat.pow_add]; exact_mod_cast rfl
theorem qp_zero : qp 0 = 1 := by unfold qp; rfl

/-- The number with a sign, a size and a grid. -/
def qOf (neg : Bool) (m k : Nat) : Rat := if neg then -((m : Rat) / qp k) else (m : Rat) / qp k
def DV.q (d : DV) : Rat := qOf d.neg d.m d.den
theorem div_cancel {a b c d : Rat} (hb : b ≠ 0) (hd : d ≠ 0) (h : a * d = c * b) : a / b = c / d := by grind
theorem div_inj {a b c d : Rat} (hb : b ≠ 0) (hd : d ≠ 0) (h : a / b = c / d) : a * d = c * b := by grind
theorem qOf_shift (neg : Bool) (m k s : Nat) : qOf neg (m * 2 ^ s) (k + s) = qOf neg m k := by
  have e : ((m * 2 ^ s : Nat) : Rat) / qp (k + s) = (m : Rat) / qp k := by
    refine div_cancel (qp_ne _) (qp_ne _) ?_
    rw [qp_add]
    have : ((m * 2 ^ s : Nat) : Rat) = (m : Rat) * qp s := by unfold qp; exact_mod_cast rfl
    rw [this]; grind
  unfold qOf; rw [e]
theorem qOf_zero (neg : Bool) (k : Nat) : qOf neg 0 k = 0 := by
  have : ((0 : Nat) : Rat) / qp k = 0 := by have := qp_ne k; grind
  unfold qOf; rw [this]; split <;> grind
theorem q_nrm (neg : Bool) (m k : Nat) : (nrm neg m k).q = qOf neg m k := by
  by_cases h : m = 0
  · subst h; rw [nrm_zero, qOf_zero]; exact qOf_zero _ _
  · rw [nrm_pos _ _ h]
    show qOf neg (m / 2 ^ hv m k) (k - hv m k) = _
    have := qOf_shift neg (m / 2 ^ hv m k) (k - hv m k) (hv m k)
    rw [hv_dvd, Nat.sub_add_cancel (hv_le m k)] at this
    exact this.symm
theorem q_mkD (neg : Bool) (m : Nat) {k : Nat} (h : k ≤ 65536) : (mkD neg m k).q = qOf neg m k := by rw [mkD_small h, q_nrm]

theorem q_pos_of {neg : Bool} {m k : Nat} (h : m ≠ 0) : if neg then qOf neg m k < 0 else 0 < qOf neg m k := by
  have h1 : (0 : Rat) < (m : Rat) := by have : 0 < m := by omega
                                        exact_mod_cast this
  have h2 : 0 < (m : Rat) / qp k := by
    rw [Rat.div_def]; exact Rat.mul_pos h1 (Rat.inv_pos.2 (qp_pos k))
  unfold qOf; cases neg
  · simpa using h2
  · simp; grind
theorem q_eq_zero {neg : Bool} {m k : Nat} : qOf neg m k = 0 ↔ m = 0 := by
  constructor
  · intro h
    rcases Nat.eq_zero_or_pos m with h0 | h0
    · exact h0
    · have := q_pos_of (neg := neg) (m := m) (k := k) (by omega)
      cases neg <;> simp at this <;> grind
  · rintro rfl; exact qOf_zero _ _
/-- The valid form of a number is the only one. -/
theorem DV.uniq {d e : DV} (hd : d.ok) (he : e.ok) (h : d.q = e.q) : d = e := by
  obtain ⟨nd, md, kd⟩ := d
  obtain ⟨ne, me, ke⟩ := e
  obtain ⟨d1, d2, d3⟩ := hd
  obtain ⟨e1, e2, e3⟩ := he
  simp only at d1 d2 d3 e1 e2 e3
  change qOf nd md kd = qOf ne me ke at h
  by_cases h0 : md = 0
  · subst h0
    rw [qOf_zero] at h
    have := q_eq_zero.1 h.symm
    subst this
    obtain ⟨rfl, rfl⟩ := d1 rfl
    obtain ⟨rfl, rfl⟩ := e1 rfl
    rfl
  · have h0' : me ≠ 0 := by
      intro e; subst e; rw [qOf_zero] at h; exact h0 (q_eq_zero.1 h)
    have a := q_pos_of (neg := nd) (m := md) (k := kd) h0
    have b := q_pos_of (neg := ne) (m := me) (k := ke) h0'
    have hn : nd = ne := by
      cases nd <;> cases ne <;> simp at a b <;> first | rfl | (exfalso; grind)
    subst hn
    have hq : (md : Rat) / qp kd = (me : Rat) / qp ke := by
      unfold qOf at h; cases nd <;> simp at h <;> grind
    have hx := div_inj (qp_ne _) (qp_ne _) hq
    have hN : md * 2 ^ ke = me * 2 ^ kd := by
      unfold qp at hx; exact_mod_cast hx
    have key : ∀ {m m' k k' : Nat}, m * 2 ^ k' = m' * 2 ^ k → (0 < k' → m' % 2 = 1) → k' ≤ k := by
      intro m m' k k' hh ho
      rcases Nat.lt_or_ge k k' with hlt | hge
      · exfalso
        obtain ⟨s, rfl⟩ : ∃ s, k' = k + (s + 1) := ⟨k' - k - 1, by omega⟩
        have h1 := ho (by omega)
        rw [Nat.pow_add, Nat.mul_comm (2 ^ k), ← Nat.mul_assoc] at hh
        have h2 := Nat.eq_of_mul_eq_mul_right (p2_pos k) hh
        rw [Nat.pow_succ, ← Nat.mul_assoc] at h2
        omega
      · exact hge
    have k1 := key hN e3
    have k2 := key hN.symm d3
    have hk : kd = ke := by omega
    subst hk
    have hm := Nat.eq_of_mul_eq_mul_right (p2_pos kd) hN
    rw [hm]

end Go.Proofs.YtgmmcfnahfcadaaDoor
