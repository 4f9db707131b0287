/- Angles: the plain mathematics of the middle one, of parts of a way, of positions. -/
import Derived.Test.YtfjkijpfkpcjdaaAnga
namespace Go.Proofs.Ytfjkijpfkpcjdaa
open Go.RowKit

theorem ab_or (d : Int) : (ab d = d ∧ 0 ≤ d) ∨ (ab d = -d ∧ d < 0) := by unfold ab; split <;> omega
/-- Near angles lie on a line: their differences add up. -/
theorem on_line {a b c : Int} (h : near3 a b c) : ∃ p q : Int, dst a b = ab p ∧ dst a c = ab q ∧ dst b c = ab (q - p) ∧ dff b a = p ∧ dff c a = q ∧
    (p = 0 → nrm a = nrm b) ∧ (q = 0 → nrm a = nrm c) ∧ (p = q → nrm b = nrm c) ∧ ab p < 16384 ∧ ab q < 16384 ∧ ab (q - p) < 16384 := by
  obtain ⟨h1, h2, h3⟩ := h
  refine ⟨dff b a, dff c a, dst_symm a b, dst_symm a c, ?_, rfl, rfl, ?_, ?_, ?_, ?_, ?_, ?_⟩
  · rw [dst_symm]
    have e : dff c b = dff c a - dff b a := by
      rw [dst_symm] at h1 h3
      unfold dst ab at h1 h3
      unfold dff at *
      split at h1 <;> split at h3 <;> omega
    unfold dst; rw [e]
  · unfold dff nrm; omega
  · unfold dff nrm; omega
  · unfold dff nrm; omega
  · rw [dst_symm] at h1; exact h1
  · rw [dst_symm] at h3; exact h3
  · have e : dff c b = dff c a - dff b a := by
      rw [dst_symm] at h1 h3
      unfold dst ab at h1 h3
      unfold dff at *
      split at h1 <;> split at h3 <;> omega
    rw [dst_symm] at h2; unfold dst at h2; rw [e] at h2; exact h2

/-- The middle one is the same, in whatever order. -/
theorem mdl_turn {a b c : Int} (h : near3 a b c) :
    mdl (dst a b) (dst b c) (dst a c) (nrm a) (nrm b) (nrm c) = mdl (dst c a) (dst a b) (dst c b) (nrm c) (nrm a) (nrm b) := by
  obtain ⟨p, q, e1, e2, e3, _, _, z1, z2, z3, _, _, _⟩ := on_line h
  rw [dst_symm c a, dst_symm c b, e1, e2, e3]
  unfold mdl ab
  repeat' split
  all_goals omega

theorem near_turn {a b c : Int} : near3 a b c ↔ near3 c a b := by
  unfold near3; rw [dst_symm c a, dst_symm c b]; constructor <;> (rintro ⟨h1, h2, h3⟩; exact ⟨by assumption, by assumption, by assumption⟩)

theorem mid_turn (a b c : Int) : mid c a b = mid a b c := by
  by_cases h : near3 a b c
  · rw [mid_t h, mid_t (near_turn.1 h), mdl_turn h]
  · rw [mid_f h, mid_f (fun hh => h (near_turn.2 hh))]

/-- The middle one is one of the three, and its distances add up to the greatest. -/
theorem mdl_sum {a b c m : Int} (h : near3 a b c) (hm : m = mdl (dst a b) (dst b c) (dst a c) (nrm a) (nrm b) (nrm c)) (F : Int) (f1 : dst a b ≤ F) (f2 : dst b c ≤ F) (f3 : dst a c ≤ F) (f4 : F = dst a b ∨ F = dst b c ∨ F = dst a c) :
    dst m a + dst m b + dst m c = F := by
  obtain ⟨p, q, e1, e2, e3, _, _, z1, z2, z3, _, _, _⟩ := on_line h
  have aa : dst a a = 0 := (dst_zero a a).2 rfl
  have bb : dst b b = 0 := (dst_zero b b).2 rfl
  have cc : dst c c = 0 := (dst_zero c c).2 rfl
  rw [e1, e2, e3] at f4 hm
  rw [e1] at f1; rw [e3] at f2; rw [e2] at f3
  have o1 := ab_or p
  have o2 := ab_or q
  have o3 := ab_or (q - p)
  generalize ab p = P at *
  generalize ab q = Q at *
  generalize ab (q - p) = R at *
  unfold mdl at hm
  split at hm
  · rw [dst_nrm m a a (by rw [hm, nrm_nrm]), dst_nrm m a b (by rw [hm, nrm_nrm]), dst_nrm m a c (by rw [hm, nrm_nrm]), aa, e1, e2]
    rename_i hc; clear hm z1 z2 z3 e1 e2 e3 aa bb cc h
    omega
  · split at hm
    · rw [dst_nrm m b a (by rw [hm, nrm_nrm]), dst_nrm m b b (by rw [hm, nrm_nrm]), dst_nrm m b c (by rw [hm, nrm_nrm]), bb, dst_symm b a, e1, e3]
      rename_i hc hd; clear hm z1 z2 z3 e1 e2 e3 aa bb cc h
      omega
    · rw [dst_nrm m c a (by rw [hm, nrm_nrm]), dst_nrm m c b (by rw [hm, nrm_nrm]), dst_nrm m c c (by rw [hm, nrm_nrm]), cc, dst_symm c a, dst_symm c b, e2, e3]
      rename_i hc hd; clear hm z1 z2 z3 e1 e2 e3 aa bb cc h
      omega

/-- 1 if t is not farther from m than from x. -/
def nr (t m x : Int) : Int := if dst t m ≤ dst t x then 1 else 0
def nearN (t m a b c : Int) : Int := nr t m a + nr t m b + nr t m c
def closeB (t a b c : Int) : Bool := decide (dst t a < 16384) && decide (dst t b < 16384) && decide (dst t c < 16384)

theorem dst_nrm2 (m a x : Int) (h : nrm m = nrm a) : dst x m = dst x a := by rw [dst_symm x m, dst_symm x a]; exact dst_nrm m a x h
/-- All on one line, with t. -/
theorem on_line4 {a b c t : Int} (h : near3 a b c) (h1 : dst t a < 16384) (h2 : dst t b < 16384) (h3 : dst t c < 16384) :
    ∃ s p q : Int, dst t a = ab s ∧ dst t b = ab (s - p) ∧ dst t c = ab (s - q) ∧ dst a b = ab p ∧ dst a c = ab q ∧ dst b c = ab (q - p) := by
  obtain ⟨p, q, e1, e2, e3, e4, e5, _, _, _, l1, l2, l3⟩ := on_line h
  refine ⟨dff t a, p, q, rfl, ?_, ?_, e1, e2, e3⟩
  · have e : dff t b = dff t a - p := by
      subst e4
      unfold dst ab at h1 h2; unfold ab at l1
      unfold dff at *
      split at h1 <;> split at h2 <;> split at l1 <;> omega
    unfold dst; rw [e]
  · have e : dff t c = dff t a - q := by
      subst e5
      unfold dst ab at h1 h3; unfold ab at l2
      unfold dff at *
      split at h1 <;> split at h3 <;> split at l2 <;> omega
    unfold dst; rw [e]

theorem near_two {a b c m t : Int} (h : near3 a b c) (hm : m = mdl (dst a b) (dst b c) (dst a c) (nrm a) (nrm b) (nrm c)) (hc : closeB t a b c = true) : 2 ≤ nearN t m a b c := by
  unfold closeB at hc
  simp only [Bool.and_eq_true, decide_eq_true_eq] at hc
  obtain ⟨⟨h1, h2⟩, h3⟩ := hc
  obtain ⟨s, p, q, t1, t2, t3, e1, e2, e3⟩ := on_line4 h h1 h2 h3
  rw [e1, e2, e3] at hm
  have ar : ∀ S P Q R U V : Int, S = ab s → P = ab p → Q = ab q → R = ab (q - p) → U = ab (s - p) → V = ab (s - q) →
      ((Q ≤ R ∧ P ≤ R) → (S ≤ U ∨ S ≤ V)) ∧ (¬ (Q ≤ R ∧ P ≤ R) → P ≤ Q → (U ≤ S ∨ U ≤ V)) ∧ (¬ (Q ≤ R ∧ P ≤ R) → ¬ P ≤ Q → (V ≤ S ∨ V ≤ U)) := by
    intro S P Q R U V hS hP hQ hR hU hV
    have o1 := ab_or p
    have o2 := ab_or q
    have o3 := ab_or (q - p)
    have o4 := ab_or s
    have o5 := ab_or (s - p)
    have o6 := ab_or (s - q)
    rw [← hP] at o1; rw [← hQ] at o2; rw [← hR] at o3; rw [← hS] at o4; rw [← hU] at o5; rw [← hV] at o6
    clear hS hP hQ hR hU hV
    rcases o1 with o1 | o1 <;> rcases o2 with o2 | o2 <;> rcases o3 with o3 | o3 <;> (try omega) <;> rcases o4 with o4 | o4 <;> rcases o5 with o5 | o5 <;> rcases o6 with o6 | o6 <;> omega
  obtain ⟨k1, k2, k3⟩ := ar _ _ _ _ _ _ rfl rfl rfl rfl rfl rfl
  clear ar
  unfold nearN nr
  unfold mdl at hm
  split at hm
  · rw [dst_nrm2 m a t (by rw [hm, nrm_nrm]), t1, t2, t3]
    rename_i hc; have := k1 hc
    clear k1 k2 k3 hm hc
    (repeat' split) <;> omega
  · split at hm
    · rw [dst_nrm2 m b t (by rw [hm, nrm_nrm]), t1, t2, t3]
      rename_i hc hd; have := k2 hc hd
      clear k1 k2 k3 hm hc hd
      (repeat' split) <;> omega
    · rw [dst_nrm2 m c t (by rw [hm, nrm_nrm]), t1, t2, t3]
      rename_i hc hd; have := k3 hc hd
      clear k1 k2 k3 hm hc hd
      (repeat' split) <;> omega
end Go.Proofs.Ytfjkijpfkpcjdaa
