/- The order of numbers. -/
import Derived.Test.YtaljininilaemaaDoorMdtx
import Derived.Test.YtaljininilaemaaDoorLawo
namespace Go.Proofs.YtaljininilaemaaDoor
open Go.RowKit

theorem sgn_neg (r : Rat) : sgn (-r) = -sgn r := by
  unfold sgn
  by_cases h1 : r < 0
  · rw [if_neg (by grind), if_pos (by grind), if_pos h1]; rfl
  · by_cases h2 : 0 < r
    · rw [if_pos (by grind), if_neg h1, if_pos h2]
    · rw [if_neg (by grind), if_neg (by grind), if_neg h1, if_neg h2]; rfl
theorem sgn_pos {r : Rat} (h : 0 < r) : sgn r = 1 := by unfold sgn; rw [if_neg (by grind), if_pos h]
theorem sgn_negv {r : Rat} (h : r < 0) : sgn r = -1 := by unfold sgn; rw [if_pos h]
theorem tri0 (r : Rat) : r < 0 ∨ r = 0 ∨ 0 < r := by
  by_cases h1 : r < 0
  · exact .inl h1
  · by_cases h2 : 0 < r
    · exact .inr (.inr h2)
    · exact .inr (.inl (by grind))
theorem sgn_mul (r s : Rat) : sgn (r * s) = sgn r * sgn s := by
  have pp : ∀ x y : Rat, 0 < x → 0 < y → 0 < x * y := fun x y hx hy => Rat.mul_pos hx hy
  rcases tri0 r with h | h | h
  · rcases tri0 s with k | k | k
    · have := pp (-r) (-s) (by grind) (by grind)
      rw [sgn_pos (r := r * s) (by grind), sgn_negv h, sgn_negv k]; rfl
    · subst k; rw [Rat.mul_zero, sgn_zero]; simp
    · have := pp (-r) s (by grind) k
      rw [sgn_negv (r := r * s) (by grind), sgn_negv h, sgn_pos k]; rfl
  · subst h; rw [Rat.zero_mul, sgn_zero]; simp
  · rcases tri0 s with k | k | k
    · have := pp r (-s) h (by grind)
      rw [sgn_negv (r := r * s) (by grind), sgn_pos h, sgn_negv k]; rfl
    · subst k; rw [Rat.mul_zero, sgn_zero]; simp
    · rw [sgn_pos (pp r s h k), sgn_pos h, sgn_pos k]; rfl
theorem sgn_zero_iff {r : Rat} (h : sgn r = 0) : r = 0 := by
  unfold sgn at h
  split at h
  · exact absurd h (by decide)
  · split at h
    · exact absurd h (by decide)
    · grind
theorem cmp_zero {a b : DV} (ha : a.ok) (hb : b.ok) (h : cmpD a b = 0) : a = b := by
  rw [cmpD_sgn ha hb] at h
  have := sgn_zero_iff h
  exact DV.uniq ha hb (by grind)
theorem le_sgn' {r : Rat} (h : r ≤ 0) : sgn r ≤ 0 := by
  unfold sgn
  split
  · decide
  · split
    · exfalso; grind
    · decide
theorem order_facts {a b c : DV} (ha : a.ok) (hb : b.ok) (hc : c.ok) (h1 : a.den + c.den ≤ 65536) (h2 : b.den + c.den ≤ 65536) :
    cmpD b a = -cmpD a b ∧ signD (subD a b) = cmpD a b ∧ cmpD (addD a c) (addD b c) = cmpD a b ∧ cmpD (mulD a c) (mulD b c) = cmpD a b * signD c ∧
    addD (minD a b) (maxD a b) = addD a b ∧ cmpD (minD a b) (maxD a b) ≤ 0 := by
  have e1 := cmpD_sgn ha hb
  have e2 := cmpD_sgn hb ha
  refine ⟨?_, rfl, ?_, ?_, ?_, ?_⟩
  · rw [e1, e2, ← sgn_neg]; congr 1; grind
  · rw [cmpD_sgn (addD_ok _ _) (addD_ok _ _), q_addD ha hc, q_addD hb hc, e1]; congr 1; grind
  · rw [cmpD_sgn (mulD_ok _ _) (mulD_ok _ _), q_mulD h1, q_mulD h2, e1, signD_sgn, ← sgn_mul]; congr 1; grind
  · refine DV.uniq (addD_ok _ _) (addD_ok _ _) ?_
    rw [q_addD (minD_ok ha hb) (maxD_ok ha hb), q_addD ha hb]
    unfold minD maxD
    by_cases h3 : 0 < cmpD a b
    · rw [if_pos h3, if_neg (by omega)]; grind
    · rw [if_neg h3]
      by_cases h4 : cmpD a b < 0
      · rw [if_pos h4]
      · have h5 := cmp_zero ha hb (by omega)
        rw [if_neg h4, h5]
  · unfold minD maxD
    by_cases h3 : 0 < cmpD a b
    · rw [if_pos h3, if_neg (by omega), e2]
      rw [e1] at h3
      refine le_sgn' ?_
      unfold sgn at h3
      split at h3
      · exact absurd h3 (by decide)
      · split at h3
        · grind
        · exact absurd h3 (by decide)
    · rw [if_neg h3]
      by_cases h4 : cmpD a b < 0
      · rw [if_pos h4]; omega
      · rw [if_neg h4, cmpD_sgn ha ha]
        rw [show a.q - a.q = 0 by grind, sgn_zero]; decide

end Go.Proofs.YtaljininilaemaaDoor
