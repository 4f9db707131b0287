/- Angles: the plain mathematics of norms, differences and distances. -/
import Derived.Test.YtecpkggnjajppaaDoorNum
namespace Go.Proofs.YtecpkggnjajppaaDoor
open Go.RowKit

def nrm (x : Int) : Int := x % 65536
def dff (a b : Int) : Int := (a - b + 32768) % 65536 - 32768
def ab (d : Int) : Int := if d < 0 then -d else d
def dst (a b : Int) : Int := ab (dff a b)
def wth (a f t : Int) : Bool := decide (nrm (a - f) ≤ nrm (t - f))
def sct (a : Int) : Int := 6 * nrm a / 65536
def near3 (a b c : Int) : Prop := dst a b < 16384 ∧ dst b c < 16384 ∧ dst a c < 16384
instance (a b c : Int) : Decidable (near3 a b c) := inferInstanceAs (Decidable (_ ∧ _ ∧ _))
def mdl (x y z A B C : Int) : Int := if z ≤ y ∧ x ≤ y then A else if x ≤ z then B else C
def mid (a b c : Int) : Int × Bool := if near3 a b c then (mdl (dst a b) (dst b c) (dst a c) (nrm a) (nrm b) (nrm c), true) else (0, false)
def itp (a b n d : Int) : Int × Int := if 1 ≤ d ∧ d ≤ 1048576 ∧ 0 ≤ n ∧ n ≤ d then (nrm (a + (dff b a * n).tdiv d), 0) else (0, 3)
def isP (p : Int) : Prop := -72057594037927936 ≤ p ∧ p ≤ 72057594037927936
instance (p : Int) : Decidable (isP p) := inferInstanceAs (Decidable (_ ∧ _))
def unw (p a : Int) : Int × Int := if isP p then (p + dff a p, 0) else (0, 3)
def ele (p k o : Int) : Int × Int := if isP p ∧ 1 ≤ k ∧ k ≤ 64 then (nrm (p * k + o), 0) else (0, 3)

theorem nrm_bd (x : Int) : 0 ≤ nrm x ∧ nrm x ≤ 65535 := by unfold nrm; omega
theorem nrm_wrap (x : Int) : nrm (wrap64 x) = nrm x := by unfold nrm wrap64; omega
theorem nrm_dff (a b : Int) : nrm (wrap64 (a - b) + 32768) - 32768 = dff a b := by unfold nrm wrap64 dff; omega
theorem dff_bd (a b : Int) : -32768 ≤ dff a b ∧ dff a b ≤ 32767 := by unfold dff; omega
theorem dst_bd (a b : Int) : 0 ≤ dst a b ∧ dst a b ≤ 32768 := by have := dff_bd a b; unfold dst ab; split <;> omega
theorem dst_symm (a b : Int) : dst a b = dst b a := by unfold dst ab dff; split <;> split <;> omega
theorem tmod_norm (x : Int) : (x.tmod 65536 + 65536) % 65536 = nrm x := by
  unfold nrm
  by_cases h : 0 ≤ x
  · rw [Int.tmod_eq_emod_of_nonneg h]; omega
  · have e : x.tmod 65536 = -((-x).tmod 65536) := by rw [Int.neg_tmod]; omega
    rw [e, Int.tmod_eq_emod_of_nonneg (by omega)]; omega
theorem tmod_bd (x : Int) : -65536 < x.tmod 65536 ∧ x.tmod 65536 < 65536 := by
  by_cases h : 0 ≤ x
  · rw [Int.tmod_eq_emod_of_nonneg h]; omega
  · have e : x.tmod 65536 = -((-x).tmod 65536) := by rw [Int.neg_tmod]; omega
    rw [e, Int.tmod_eq_emod_of_nonneg (by omega)]; omega
theorem dff_ref (a b : Int) : (nrm a - nrm b + 65536 + 32768) % 65536 - 32768 = dff a b := by unfold nrm dff; omega
theorem wth_ref (a f : Int) : nrm (nrm a - nrm f) = nrm (a - f) := by unfold nrm; omega
theorem wth_wrap (a f : Int) : nrm (wrap64 (a - f)) = nrm (a - f) := nrm_wrap _
theorem wth_all (a f t : Int) : wth a f t = false → wth a t f = false → dff f t = 0 := by
  unfold wth nrm dff; intro h1 h2; simp only [decide_eq_false_iff_not] at h1 h2; omega
theorem mid_t {a b c : Int} (h : near3 a b c) : mid a b c = (mdl (dst a b) (dst b c) (dst a c) (nrm a) (nrm b) (nrm c), true) := by unfold mid; rw [if_pos h]
theorem mid_f {a b c : Int} (h : ¬ near3 a b c) : mid a b c = (0, false) := by unfold mid; rw [if_neg h]
theorem mdl_a {x y z A B C : Int} (h : z ≤ y) (h' : x ≤ y) : mdl x y z A B C = A := by unfold mdl; rw [if_pos ⟨h, h'⟩]
theorem mdl_b {x y z A B C : Int} (h : ¬ (z ≤ y ∧ x ≤ y)) (h' : x ≤ z) : mdl x y z A B C = B := by unfold mdl; rw [if_neg h, if_pos h']
theorem mdl_c {x y z A B C : Int} (h : ¬ (z ≤ y ∧ x ≤ y)) (h' : ¬ x ≤ z) : mdl x y z A B C = C := by unfold mdl; rw [if_neg h, if_neg h']

theorem itp_t {a b n d : Int} (h1 : 1 ≤ d) (h2 : d ≤ 1048576) (h3 : 0 ≤ n) (h4 : n ≤ d) : itp a b n d = (nrm (a + (dff b a * n).tdiv d), 0) := by unfold itp; rw [if_pos ⟨h1, h2, h3, h4⟩]
theorem itp_f {a b n d : Int} (h : ¬ (1 ≤ d ∧ d ≤ 1048576 ∧ 0 ≤ n ∧ n ≤ d)) : itp a b n d = (0, 3) := by unfold itp; rw [if_neg h]
theorem prod_bd {D n : Int} (h1 : -32768 ≤ D) (h2 : D ≤ 32768) (h3 : 0 ≤ n) (h4 : n ≤ 1048576) : -34359738368 ≤ D * n ∧ D * n ≤ 34359738368 := by
  have a := Int.mul_le_mul_of_nonneg_right h1 h3
  have b := Int.mul_le_mul_of_nonneg_right h2 h3
  omega
/-- The part of a way: it lies between 0 and the way. -/
theorem part_bd {D n d : Int} (h1 : 1 ≤ d) (h3 : 0 ≤ n) (h4 : n ≤ d) : (0 ≤ D → 0 ≤ (D * n).tdiv d ∧ (D * n).tdiv d ≤ D) ∧ (D ≤ 0 → D ≤ (D * n).tdiv d ∧ (D * n).tdiv d ≤ 0) := by
  have key : ∀ E : Int, 0 ≤ E → 0 ≤ (E * n).tdiv d ∧ (E * n).tdiv d ≤ E := fun E h => by
    have hp : 0 ≤ E * n := Int.mul_nonneg h h3
    rw [Int.tdiv_eq_ediv_of_nonneg hp]
    refine ⟨Int.ediv_nonneg hp (by omega), ?_⟩
    refine Int.ediv_le_of_le_mul (by omega) ?_
    exact Int.mul_le_mul_of_nonneg_left h4 h
  refine ⟨key D, fun h => ?_⟩
  have := key (-D) (by omega)
  rw [Int.neg_mul, Int.neg_tdiv] at this
  omega
theorem part_mono {D n m d : Int} (h1 : 1 ≤ d) (h3 : 0 ≤ n) (h4 : n ≤ m) : (0 ≤ D → (D * n).tdiv d ≤ (D * m).tdiv d) ∧ (D ≤ 0 → (D * m).tdiv d ≤ (D * n).tdiv d) := by
  have key : ∀ E : Int, 0 ≤ E → (E * n).tdiv d ≤ (E * m).tdiv d := fun E h => by
    rw [Int.tdiv_eq_ediv_of_nonneg (Int.mul_nonneg h h3), Int.tdiv_eq_ediv_of_nonneg (Int.mul_nonneg h (by omega))]
    exact Int.ediv_le_ediv (by omega) (Int.mul_le_mul_of_nonneg_left h4 h)
  refine ⟨key D, fun h => ?_⟩
  have := key (-D) (by omega)
  rw [Int.neg_mul, Int.neg_mul, Int.neg_tdiv, Int.neg_tdiv] at this
  omega
theorem tdiv_bd {x d : Int} (h1 : 1 ≤ d) (hx : -34359738368 ≤ x ∧ x ≤ 34359738368) : -34359738368 ≤ x.tdiv d ∧ x.tdiv d ≤ 34359738368 := by
  have key : ∀ E : Int, 0 ≤ E → 0 ≤ E.tdiv d ∧ E.tdiv d ≤ E := fun E h => by
    rw [Int.tdiv_eq_ediv_of_nonneg h]
    exact ⟨Int.ediv_nonneg h (by omega), Int.ediv_le_self _ h⟩
  by_cases h : 0 ≤ x
  · have := key x h; omega
  · have := key (-x) (by omega); rw [Int.neg_tdiv] at this; omega

theorem unw_t {p a : Int} (h : isP p) : unw p a = (p + dff a p, 0) := by unfold unw; rw [if_pos h]
theorem unw_f {p a : Int} (h : ¬ isP p) : unw p a = (0, 3) := by unfold unw; rw [if_neg h]
theorem ele_t {p k o : Int} (h : isP p) (h1 : 1 ≤ k) (h2 : k ≤ 64) : ele p k o = (nrm (p * k + o), 0) := by unfold ele; rw [if_pos ⟨h, h1, h2⟩]
theorem ele_f {p k o : Int} (h : ¬ (isP p ∧ 1 ≤ k ∧ k ≤ 64)) : ele p k o = (0, 3) := by unfold ele; rw [if_neg h]
theorem ele_ref (p k o : Int) : nrm (nrm p * k + nrm o) = nrm (p * k + o) := by
  unfold nrm
  rw [Int.add_emod, Int.mul_emod, Int.emod_emod, Int.emod_emod, ← Int.mul_emod, ← Int.add_emod]

/-! What the statements ask without the reference. -/
theorem cyc_n (a x : Int) : nrm (a + x * 65536) = nrm a := by unfold nrm; omega
theorem cyc_d (a b x : Int) : dff (a + x * 65536) b = dff a b := by unfold dff; omega
theorem cyc_b (a b : Int) : nrm (b + dff a b) = nrm a := by unfold nrm dff; omega
theorem cyc_t (a b x : Int) : dff (a + x) (b + x) = dff a b := by unfold dff; omega
theorem cyc_s (a b : Int) (h : ¬ dff a b = -32768) : dff b a = -dff a b := by unfold dff at *; omega
theorem dst_zero (a b : Int) : dst a b = 0 ↔ nrm a = nrm b := by unfold dst ab dff nrm; split <;> omega
theorem dst_tri (a b c : Int) : dst a c ≤ dst a b + dst b c := by
  unfold dst ab dff; split <;> split <;> split <;> omega
theorem dst_nrm (m a x : Int) (h : nrm m = nrm a) : dst m x = dst a x := by
  have : dff m x = dff a x := by unfold nrm at h; unfold dff; omega
  unfold dst; rw [this]
theorem nrm_nrm (a : Int) : nrm (nrm a) = nrm a := by unfold nrm; omega
end Go.Proofs.YtecpkggnjajppaaDoor
