/- Numbers as structs: sums. -/
import Derived.Test.YtkocmdpfknoiaaaDoorMdz
namespace Go.Proofs.YtkocmdpfknoiaaaDoor

/-! ### Dyl -/
section
open Go.RowKit
attribute [local go_sem ↓] Go.wp_at_zero Go.wp_at_succ

theorem add_same {a b : DV} (h : a.neg = b.neg) : addD a b = mkD a.neg (al a (max a.den b.den) + al b (max a.den b.den)) (max a.den b.den) := by unfold addD; rw [if_pos h]
theorem add_lt {a b : DV} (h : a.neg ≠ b.neg) (h2 : al a (max a.den b.den) < al b (max a.den b.den)) : addD a b = mkD b.neg (al b (max a.den b.den) - al a (max a.den b.den)) (max a.den b.den) := by unfold addD; rw [if_neg h, if_pos h2]
theorem add_ge {a b : DV} (h : a.neg ≠ b.neg) (h2 : ¬ al a (max a.den b.den) < al b (max a.den b.den)) : addD a b = mkD a.neg (al a (max a.den b.den) - al b (max a.den b.den)) (max a.den b.den) := by unfold addD; rw [if_neg h, if_neg h2]
theorem cmpF_lt0 {x y : Nat} : cmpF x y < 0 ↔ x < y := by
  unfold cmpF
  by_cases h : x < y
  · simp [h]
  · by_cases h2 : y < x <;> simp [h, h2]
theorem keepT {w w0 w' : World} {a b : DV} {A B : Option Addr} {ca cb : Nat} (h : Two w a b A B ca cb w0) (e : Ext w0 w') : Two w a b A B ca cb w' := ⟨h.1.trans e, h.2.1.ext e, h.2.2.1.ext e, h.2.2.2.ext e⟩
theorem len_add (x y : Nat) : len (x + y) ≤ max (len x) (len y) + 1 := by
  refine len_le ?_
  have h1 := lt_pB (m := x) (n := max (len x) (len y)) (by omega)
  have h2 := lt_pB (m := y) (n := max (len x) (len y)) (by omega)
  rw [pB_succ]; omega

end

/-! ### Dym -/
section
open Go.RowKit
attribute [local go_sem ↓] Go.wp_at_zero Go.wp_at_succ

theorem nrm_m_le (neg : Bool) (m k : Nat) : (nrm neg m k).m ≤ m := by
  unfold nrm; split
  · exact Nat.zero_le _
  · exact Nat.div_le_self _ _
theorem mkD_m_le (neg : Bool) (m k : Nat) : (mkD neg m k).m ≤ m := by
  unfold mkD; split
  · exact nrm_m_le _ _ _
  · exact Nat.le_trans (nrm_m_le _ _ _) (Nat.div_le_self _ _)
theorem len_negD (d : DV) : len (negD d).m ≤ len d.m := len_mono (mkD_m_le _ _ _)
theorem Dy.of_on {w w0 : World} {d : DV} {A : Option Addr} {c b : Nat} (h : On w b A (len d.m) c (dg d.m)) (wf : d.ok) (hl : len d.m ≤ 16777216) (e : Ext w w0) : Dy w0 d.neg A (len d.m) c d.den d A c := (Dy.valid h.rd h.ok wf hl).ext e

theorem min_r {a b : DV} (h : 0 < cmpD a b) : minD a b = b := by unfold minD; rw [if_pos h]
theorem min_l {a b : DV} (h : ¬ 0 < cmpD a b) : minD a b = a := by unfold minD; rw [if_neg h]
theorem max_r {a b : DV} (h : cmpD a b < 0) : maxD a b = b := by unfold maxD; rw [if_pos h]
theorem max_l {a b : DV} (h : ¬ cmpD a b < 0) : maxD a b = a := by unfold maxD; rw [if_neg h]

end

/-! ### Dyat -/
section
open Go Go.RowKit

theorem Dy.at_ {w : World} {d : DV} {A : Option Addr} {c b : Nat} (h : On w b A (len d.m) c (dg d.m)) (wf : d.ok) (hl : len d.m ≤ 16777216) : ∀ w', Ext w w' → Dy w' d.neg A (len d.m) c d.den d A c := fun _ e => Dy.of_on h wf hl e
end

/-! ### Lawo -/
section
/-! ### Lawa -/
section
open Go.RowKit

def fewOk (n : Nat) (den : Int) : Prop := ¬ (16 < n) ∧ ¬ (300 < den ∧ den ≤ 65536)
instance (n : Nat) (den : Int) : Decidable (fewOk n den) := inferInstanceAs (Decidable (_ ∧ _))
/-- The block g holds N numbers, one behind the other. -/
def Nums (w : World) (g N : Nat) (ng : Nat → Bool) (A : Nat → Option Addr) (n c : Nat → Nat) (den : Nat → Int) : Prop :=
  ∀ i, i < N → w.cell? ⟨g, i * 3, none⟩ = some (.bool (ng i)) ∧ w.cell? ⟨g, i * 3 + 1, none⟩ = some (.slice (A i) (n i) (c i)) ∧ w.cell? ⟨g, i * 3 + 2, none⟩ = some (I (den i))

end

/-! ### Lawm -/
section
theorem den_le (neg : Bool) (m k : Nat) (h : k ≤ 65536) : (mkD neg m k).den ≤ k := by
  rw [mkD_small h]; unfold nrm; split
  · exact Nat.zero_le _
  · exact Nat.sub_le _ _
theorem den_add {a b : DV} (ha : a.den ≤ 65536) (hb : b.den ≤ 65536) : (addD a b).den ≤ max a.den b.den := by
  unfold addD; split
  · exact den_le _ _ _ (by omega)
  · split
    · exact den_le _ _ _ (by omega)
    · exact den_le _ _ _ (by omega)
theorem den_mul {a b : DV} (h : a.den + b.den ≤ 65536) : (mulD a b).den ≤ a.den + b.den := den_le _ _ _ h
theorem lim_al (a : DV) (D : Nat) (h : D ≤ 65536) : len (al a D) ≤ len a.m + 2049 := by
  have := len_shl a.m (D - a.den); unfold al; omega
theorem lim_add {a b : DV} (ha : a.den ≤ 65536) (hb : b.den ≤ 65536) : len (addD a b).m ≤ max (len a.m) (len b.m) + 2050 := by
  have h1 := lim_al a (max a.den b.den) (by omega)
  have h2 := lim_al b (max a.den b.den) (by omega)
  have h3 := len_add (al a (max a.den b.den)) (al b (max a.den b.den))
  unfold addD; split
  · have := len_mono (mkD_m_le a.neg (al a (max a.den b.den) + al b (max a.den b.den)) (max a.den b.den)); omega
  · split
    · have := len_mono (Nat.le_trans (mkD_m_le b.neg (al b (max a.den b.den) - al a (max a.den b.den)) (max a.den b.den)) (Nat.sub_le _ _)); omega
    · have := len_mono (Nat.le_trans (mkD_m_le a.neg (al a (max a.den b.den) - al b (max a.den b.den)) (max a.den b.den)) (Nat.sub_le _ _)); omega
theorem lim_mul (a b : DV) : len (mulD a b).m ≤ len a.m + len b.m := Nat.le_trans (len_mono (mkD_m_le _ _ _)) (len_mul _ _)
theorem lim_neg (a : DV) : len (negD a).m ≤ len a.m := len_negD a
theorem den_neg {a : DV} (h : a.den ≤ 65536) : (negD a).den ≤ a.den := den_le _ _ _ h
theorem lim_sub {a b : DV} (ha : a.den ≤ 65536) (hb : b.den ≤ 65536) : len (subD a b).m ≤ max (len a.m) (len b.m) + 2050 := by
  have h1 := lim_add (a := a) (b := negD b) ha (Nat.le_trans (den_neg hb) hb)
  have h2 := lim_neg b
  unfold subD; omega
theorem lim_shift (a : DV) (n : Int) : len (shiftD a n).m ≤ len a.m + 2049 := by
  unfold shiftD
  split
  · exact Nat.le_trans (len_mono (mkD_m_le _ _ _)) (Nat.le_add_right _ _)
  · have h1 := len_shl a.m (clampN n).toNat
    have h2 := len_mono (mkD_m_le a.neg (a.m * 2 ^ (clampN n).toNat) a.den)
    have h3 : (clampN n).toNat ≤ 65536 := by unfold clampN; omega
    omega

theorem add_comm_D {a b : DV} (ha : a.ok) (hb : b.ok) : addD b a = addD a b := DV.uniq (addD_ok _ _) (addD_ok _ _) (by rw [q_addD hb ha, q_addD ha hb]; grind)
theorem mul_comm_D {a b : DV} (h : a.den + b.den ≤ 65536) : mulD b a = mulD a b := DV.uniq (mulD_ok _ _) (mulD_ok _ _) (by rw [q_mulD (by omega), q_mulD h]; grind)
theorem add_assoc_D {a b c : DV} (ha : a.ok) (hb : b.ok) (hc : c.ok) : addD a (addD b c) = addD (addD a b) c :=
  DV.uniq (addD_ok _ _) (addD_ok _ _) (by rw [q_addD ha (addD_ok _ _), q_addD hb hc, q_addD (addD_ok _ _) hc, q_addD ha hb]; grind)
theorem mul_assoc_D {a b c : DV} (h : a.den + b.den + c.den ≤ 65536) : mulD a (mulD b c) = mulD (mulD a b) c := by
  have h1 := den_mul (a := a) (b := b) (by omega)
  have h2 := den_mul (a := b) (b := c) (by omega)
  exact DV.uniq (mulD_ok _ _) (mulD_ok _ _) (by rw [q_mulD (by omega), q_mulD (by omega), q_mulD (by omega), q_mulD (by omega)]; grind)
theorem mul_add_D {a b c : DV} (hb : b.ok) (hc : c.ok) (h : a.den + max b.den c.den ≤ 65536) (h2 : a.den + b.den ≤ 65536) (h3 : a.den + c.den ≤ 65536) : addD (mulD a b) (mulD a c) = mulD a (addD b c) := by
  have h1 := den_add hb.2.1 hc.2.1
  exact DV.uniq (addD_ok _ _) (mulD_ok _ _) (by rw [q_addD (mulD_ok _ _) (mulD_ok _ _), q_mulD h2, q_mulD h3, q_mulD (by omega), q_addD hb hc]; grind)
theorem sgn_zero : sgn 0 = 0 := by unfold sgn; simp
theorem add_sub_D {a b : DV} (ha : a.ok) (hb : b.ok) : cmpD (subD (addD a b) b) a = 0 := by
  rw [cmpD_sgn (subD_ok _ _) ha, q_subD (addD_ok _ _) hb, q_addD ha hb]
  have : a.q + b.q - b.q - a.q = 0 := by grind
  rw [this, sgn_zero]
theorem qOf_128 (neg : Bool) (m k : Nat) : qOf neg (m * 2 ^ 7) k = qOf neg m k * 128 := by
  have e : ((m * 2 ^ 7 : Nat) : Rat) = (m : Rat) * 128 := by
    have : ((m * 2 ^ 7 : Nat) : Rat) = (m : Rat) * ((2 ^ 7 : Nat) : Rat) := by exact_mod_cast rfl
    rw [this]; rfl
  have := qp_ne k
  unfold qOf; rw [e]; cases neg <;> simp <;> grind
theorem q_down {a : DV} (h : a.den ≤ 65529) : (shiftD a (-7)).q * 128 = a.q := by
  have e : shiftD a (-7) = mkD a.neg a.m (a.den + 7) := by
    unfold shiftD
    rw [show clampN (-7) = -7 by decide, if_pos (by decide), show (- -7 : Int).toNat = 7 by decide]
  rw [e, q_mkD _ _ (by omega), ← qOf_128, qOf_shift]; rfl
theorem q_up {a : DV} (h : a.den ≤ 65536) : (shiftD a 7).q = a.q * 128 := by
  have e : shiftD a 7 = mkD a.neg (a.m * 2 ^ 7) a.den := by
    unfold shiftD
    rw [show clampN 7 = 7 by decide, if_neg (by decide), show (7 : Int).toNat = 7 by decide]
  rw [e, q_mkD _ _ h, qOf_128]; rfl
theorem shift_shift_D {a : DV} (ha : a.ok) (h : a.den ≤ 65529) : cmpD (shiftD (shiftD a (-7)) 7) a = 0 := by
  rw [cmpD_sgn (shiftD_ok _ _) ha, q_up (shiftD_ok _ _).2.1, q_down h]
  have : a.q - a.q = 0 := by grind
  rw [this, sgn_zero]
end

/-! ### Lawo -/
section
open Go.RowKit

/-- Small numbers. -/
def Sm (d : DV) : Prop := d.ok ∧ len d.m ≤ 16 ∧ d.den ≤ 300
theorem sm_of {neg : Bool} {n : Nat} {den : Int} {f : Nat → Nat} (hd : (nrA neg n f den).ok) (hb : ∀ i, i < n → f i < 4294967296) (h : fewOk n den) : Sm (nrA neg n f den) := by
  obtain ⟨h1, h2⟩ := h
  refine ⟨hd, ?_⟩
  unfold nrA
  by_cases hv : vld neg n f den = true
  · rw [if_pos hv]
    refine ⟨Nat.le_trans (len_le (valN_lt hb)) (by omega), ?_⟩
    show den.toNat ≤ 300
    cases n with
    | zero => rw [vld_zero] at hv; simp at hv; omega
    | succ k => rw [vld_succ] at hv; simp at hv; omega
  · rw [if_neg hv]
    exact ⟨by rw [zero_len]; omega, by decide⟩

theorem nums3 (w : World) (g : Nat) (hg : w.heap.size = g) (n0 n1 n2 : Bool) (A0 A1 A2 : Option Addr) (k0 k1 k2 c0 c1 c2 : Nat) (d0 d1 d2 : Int) (t : TypeId) :
    Nums (w.alloc (.cells #[.bool n0, .slice A0 k0 c0, I d0, .bool n1, .slice A1 k1 c1, I d1, .bool n2, .slice A2 k2 c2, I d2] t)) g 3 (fun i => if i = 0 then n0 else if i = 1 then n1 else n2) (fun i => if i = 0 then A0 else if i = 1 then A1 else A2)
      (fun i => if i = 0 then k0 else if i = 1 then k1 else k2) (fun i => if i = 0 then c0 else if i = 1 then c1 else c2) (fun i => if i = 0 then d0 else if i = 1 then d1 else d2) := by
  subst hg
  intro i hi
  have : i = 0 ∨ i = 1 ∨ i = 2 := by omega
  rcases this with rfl | rfl | rfl
  · exact ⟨by go_simp, by go_simp, by go_simp⟩
  · exact ⟨by go_simp, by go_simp, by go_simp⟩
  · exact ⟨by go_simp, by go_simp, by go_simp⟩
theorem few3 {k0 k1 k2 : Nat} {d0 d1 d2 : Int} (h0 : fewOk k0 d0) (h1 : fewOk k1 d1) (h2 : fewOk k2 d2) : ∀ i, i < 3 → fewOk (if i = 0 then k0 else if i = 1 then k1 else k2) (if i = 0 then d0 else if i = 1 then d1 else d2) := by
  intro i hi
  have : i = 0 ∨ i = 1 ∨ i = 2 := by omega
  rcases this with rfl | rfl | rfl
  · exact h0
  · exact h1
  · exact h2
theorem few3_not {k0 k1 k2 : Nat} {d0 d1 d2 : Int} (h : ¬ (fewOk k0 d0 ∧ fewOk k1 d1 ∧ fewOk k2 d2)) : ¬ ∀ i, i < 3 → fewOk (if i = 0 then k0 else if i = 1 then k1 else k2) (if i = 0 then d0 else if i = 1 then d1 else d2) := fun hh =>
  h ⟨hh 0 (by omega), hh 1 (by omega), hh 2 (by omega)⟩
end

/-! ### Few -/
section
open Go.RowKit

theorem nums2 (w : World) (g : Nat) (hg : w.heap.size = g) (n0 n1 : Bool) (A0 A1 : Option Addr) (k0 k1 c0 c1 : Nat) (d0 d1 : Int) (t : TypeId) :
    Nums (w.alloc (.cells #[.bool n0, .slice A0 k0 c0, I d0, .bool n1, .slice A1 k1 c1, I d1] t)) g 2 (fun i => if i = 0 then n0 else n1) (fun i => if i = 0 then A0 else A1)
      (fun i => if i = 0 then k0 else k1) (fun i => if i = 0 then c0 else c1) (fun i => if i = 0 then d0 else d1) := by
  subst hg
  intro i hi
  have : i = 0 ∨ i = 1 := by omega
  rcases this with rfl | rfl
  · exact ⟨by go_simp, by go_simp, by go_simp⟩
  · exact ⟨by go_simp, by go_simp, by go_simp⟩
theorem few2 {k0 k1 : Nat} {d0 d1 : Int} (h0 : fewOk k0 d0) (h1 : fewOk k1 d1) : ∀ i, i < 2 → fewOk (if i = 0 then k0 else k1) (if i = 0 then d0 else d1) := by
  intro i hi
  have : i = 0 ∨ i = 1 := by omega
  rcases this with rfl | rfl
  · exact h0
  · exact h1
theorem few2_not {k0 k1 : Nat} {d0 d1 : Int} (h : ¬ (fewOk k0 d0 ∧ fewOk k1 d1)) : ¬ ∀ i, i < 2 → fewOk (if i = 0 then k0 else k1) (if i = 0 then d0 else d1) := fun hh =>
  h ⟨hh 0 (by omega), hh 1 (by omega)⟩

theorem nums1 (w : World) (g : Nat) (hg : w.heap.size = g) (n0 : Bool) (A0 : Option Addr) (k0 c0 : Nat) (d0 : Int) (t : TypeId) :
    Nums (w.alloc (.cells #[.bool n0, .slice A0 k0 c0, I d0] t)) g 1 (fun _ => n0) (fun _ => A0)
      (fun _ => k0) (fun _ => c0) (fun _ => d0) := by
  subst hg
  intro i hi
  have : i = 0 := by omega
  rcases this with rfl
  · exact ⟨by go_simp, by go_simp, by go_simp⟩
theorem few1 {k0 : Nat} {d0 : Int} (h0 : fewOk k0 d0) : ∀ i, i < 1 → fewOk (k0) (d0) := by
  intro i hi
  have : i = 0 := by omega
  rcases this with rfl
  · exact h0
theorem few1_not {k0 : Nat} {d0 : Int} (h : ¬ (fewOk k0 d0)) : ¬ ∀ i, i < 1 → fewOk (k0) (d0) := fun hh =>
  h (hh 0 (by omega))
end
end

end Go.Proofs.YtkocmdpfknoiaaaDoor
