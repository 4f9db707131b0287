/- Sine and cosine: the plain mathematics. -/
import Derived.Test.YtecpkggnjajppaaDoorAnga
namespace Go.Proofs.YtecpkggnjajppaaDoor
open Go.RowKit

def tn (k : Nat) : Nat := (5890770722912837194652775543430117125116164667208546053447811493435406805529632160669047151735891288580916136998059304805473766316353728366933539403580314132850225232487379566978178471354510168963111264081013961634872490018163197713437719561208896581519307874231926690025254186646323217861538514693060082796855296 >>> (16 * k)) % 65536
def qn (a : Nat) : Nat := (tn (a / 256) * (256 - a % 256) + tn (a / 256 + 1) * (a % 256)) / 256
def T (k : Int) : Int := tn k.toNat
def qs (r : Int) : Int := qn r.toNat
def btw (x y f : Int) : Int := (x * 256 + (y - x) * f) / 256
def cosq (q c s : Int) : Int := if q = 0 then c else if q = 1 then -s else if q = 2 then -c else s
def sinq (q c s : Int) : Int := if q = 0 then s else if q = 1 then c else if q = 2 then -s else -c
def cs (a : Int) : Int := cosq (nrm a / 16384) (qs (16384 - nrm a % 16384)) (qs (nrm a % 16384))
def sn (a : Int) : Int := sinq (nrm a / 16384) (qs (16384 - nrm a % 16384)) (qs (nrm a % 16384))

theorem div_eq {a b : Int} (h : a = b) : a / 256 = b / 256 := by rw [h]
theorem tn_bd : ∀ k < 66, tn k ≤ 32768 := by decide +kernel
theorem tn_up : ∀ k < 64, tn k ≤ tn (k + 1) ∧ tn (k + 1) ≤ tn k + 1024 := by decide +kernel
theorem T_bd {k : Int} (h0 : 0 ≤ k) (h1 : k ≤ 65) : 0 ≤ T k ∧ T k ≤ 32768 := by
  have := tn_bd k.toNat (by omega); unfold T; omega
theorem T_up {k : Int} (h0 : 0 ≤ k) (h1 : k ≤ 63) : T k ≤ T (k + 1) ∧ T (k + 1) ≤ T k + 1024 := by
  have := tn_up k.toNat (by omega); unfold T; rw [show (k + 1).toNat = k.toNat + 1 by omega]; omega

/-- The quarter's sine as the table says it: r = 256 k + f. -/
theorem qs_at {k f : Int} (hk : 0 ≤ k) (h0 : 0 ≤ f) (h1 : f ≤ 255) : qs (256 * k + f) = btw (T k) (T (k + 1)) f := by
  unfold qs qn btw T
  rw [show (256 * k + f).toNat / 256 = k.toNat by omega, show (256 * k + f).toNat % 256 = f.toNat by omega, show (k + 1).toNat = k.toNat + 1 by omega]
  generalize tn k.toNat = x
  generalize tn (k.toNat + 1) = y
  obtain ⟨g, rfl⟩ := Int.eq_ofNat_of_zero_le h0
  have hg : g ≤ 255 := by omega
  rw [Int.natCast_ediv, Int.natCast_add, Int.natCast_mul, Int.natCast_mul]
  congr 1
  rw [Int.toNat_natCast, Int.ofNat_sub (by omega)]
  grind
/-- .. and from above. -/
theorem qs_down {k f : Int} (hk : 0 ≤ k) (hk' : k ≤ 63) (h0 : 0 ≤ f) (h1 : f ≤ 255) : qs (16384 - (256 * k + f)) = btw (T (64 - k)) (T (63 - k)) f := by
  by_cases hf : f = 0
  · have := qs_at (k := 64 - k) (f := f) (by omega) (by omega) (by omega)
    rw [show 16384 - (256 * k + f) = 256 * (64 - k) + f by omega, this]; unfold btw; rw [hf]; simp only [Int.mul_zero]
  · have := qs_at (k := 63 - k) (f := 256 - f) (by omega) (by omega) (by omega)
    rw [show 16384 - (256 * k + f) = 256 * (63 - k) + (256 - f) by omega, this, show 63 - k + 1 = 64 - k by omega]
    unfold btw; exact div_eq (by grind)
theorem qs_of {r : Int} (h0 : 0 ≤ r) (h1 : r ≤ 16383) : qs r = btw (T (r / 256)) (T (r / 256 + 1)) (r % 256) := by
  have := qs_at (k := r / 256) (f := r % 256) (by omega) (by omega) (by omega)
  rwa [show 256 * (r / 256) + r % 256 = r by omega] at this
theorem qs_of' {r : Int} (h0 : 0 ≤ r) (h1 : r ≤ 16383) : qs (16384 - r) = btw (T (64 - r / 256)) (T (63 - r / 256)) (r % 256) := by
  have := qs_down (k := r / 256) (f := r % 256) (by omega) (by omega) (by omega) (by omega)
  rwa [show 256 * (r / 256) + r % 256 = r by omega] at this

theorem btw_bd {x y f : Int} (hx : 0 ≤ x ∧ x ≤ 32768) (hy : 0 ≤ y ∧ y ≤ 32768) (h0 : 0 ≤ f) (h1 : f ≤ 255) : 0 ≤ x * 256 + (y - x) * f ∧ x * 256 + (y - x) * f ≤ 8388608 := by
  have e : x * 256 + (y - x) * f = x * (256 - f) + y * f := by grind
  have a := Int.mul_nonneg hx.1 (show (0:Int) ≤ 256 - f by omega)
  have b := Int.mul_nonneg hy.1 h0
  have c := Int.mul_le_mul_of_nonneg_right hx.2 (show (0:Int) ≤ 256 - f by omega)
  have d := Int.mul_le_mul_of_nonneg_right hy.2 h0
  rw [e]; omega
theorem qs_bd {r : Int} (h0 : 0 ≤ r) (h1 : r ≤ 16384) : 0 ≤ qs r ∧ qs r ≤ 32768 := by
  have e := qs_at (k := r / 256) (f := r % 256) (by omega) (by omega) (by omega)
  rw [show 256 * (r / 256) + r % 256 = r by omega] at e
  have := btw_bd (T_bd (k := r / 256) (by omega) (by omega)) (T_bd (k := r / 256 + 1) (by omega) (by omega)) (show 0 ≤ r % 256 by omega) (by omega)
  rw [e]; unfold btw; omega
theorem qs_0 : qs 0 = 0 := by decide +kernel
theorem qs_q : qs 16384 = 32768 := by decide +kernel
/-- A step of one unit in the first quarter. -/
theorem qs_step {r : Int} (h0 : 0 ≤ r) (h1 : r ≤ 16383) : 0 ≤ qs (r + 1) - qs r ∧ qs (r + 1) - qs r ≤ 4 := by
  have e := qs_of h0 h1
  have u := T_up (k := r / 256) (by omega) (by omega)
  have e' : qs (r + 1) = (T (r / 256) * 256 + ((T (r / 256 + 1) - T (r / 256)) * (r % 256) + (T (r / 256 + 1) - T (r / 256)))) / 256 := by
    by_cases h : r % 256 = 255
    · obtain ⟨z, hz⟩ : ∃ z : Int, z = 0 := ⟨0, rfl⟩
      have := qs_at (k := r / 256 + 1) (f := z) (by omega) (by omega) (by omega)
      rw [show 256 * (r / 256 + 1) + z = r + 1 by omega] at this
      rw [this, h, hz]; unfold btw; exact div_eq (by grind)
    · have := qs_at (k := r / 256) (f := r % 256 + 1) (by omega) (by omega) (by omega)
      rw [show 256 * (r / 256) + (r % 256 + 1) = r + 1 by omega] at this
      rw [this]; unfold btw; exact div_eq (by grind)
  rw [e, e']; unfold btw
  generalize (T (r / 256 + 1) - T (r / 256)) * (r % 256) = p
  omega
theorem qs_mono {r : Int} (n : Nat) (h0 : 0 ≤ r) (h1 : r + n ≤ 16384) : qs r ≤ qs (r + n) := by
  induction n with
  | zero => simp
  | succ n ih =>
    have := ih (by omega)
    have := qs_step (r := r + n) (by omega) (by omega)
    rw [show r + ((n + 1 : Nat) : Int) = r + n + 1 by omega]; omega

/-- Any angle, by a quarter and the rest. -/
theorem rep_cs {a q r : Int} (hq : 0 ≤ q) (hq' : q ≤ 3) (h0 : 0 ≤ r) (h1 : r ≤ 16384) (h : (a - 16384 * q - r) % 65536 = 0) :
    cs a = cosq q (qs (16384 - r)) (qs r) ∧ sn a = sinq q (qs (16384 - r)) (qs r) := by
  unfold cs sn
  by_cases hr : r = 16384
  · subst hr
    rw [show nrm a % 16384 = 0 by unfold nrm; omega, show (16384 : Int) - 0 = 16384 by omega, show (16384 : Int) - 16384 = 0 by omega, qs_0, qs_q]
    obtain rfl | rfl | rfl | rfl : q = 0 ∨ q = 1 ∨ q = 2 ∨ q = 3 := by omega
    · rw [show nrm a / 16384 = 1 by unfold nrm; omega]; decide
    · rw [show nrm a / 16384 = 2 by unfold nrm; omega]; decide
    · rw [show nrm a / 16384 = 3 by unfold nrm; omega]; decide
    · rw [show nrm a / 16384 = 0 by unfold nrm; omega]; decide
  · rw [show nrm a % 16384 = r by unfold nrm; omega, show nrm a / 16384 = q by unfold nrm; omega]; exact ⟨rfl, rfl⟩
theorem rep_ex (a : Int) : ∃ q r : Int, 0 ≤ q ∧ q ≤ 3 ∧ 0 ≤ r ∧ r ≤ 16383 ∧ (a - 16384 * q - r) % 65536 = 0 :=
  ⟨nrm a / 16384, nrm a % 16384, by unfold nrm; omega, by unfold nrm; omega, by omega, by omega, by unfold nrm; omega⟩
theorem cs_bd (a : Int) : -32768 ≤ cs a ∧ cs a ≤ 32768 := by
  obtain ⟨q, r, hq, hq', h0, h1, h⟩ := rep_ex a
  rw [(rep_cs hq hq' h0 (by omega) h).1]
  have := qs_bd h0 (by omega); have := qs_bd (r := 16384 - r) (by omega) (by omega)
  unfold cosq; (repeat' split) <;> omega
theorem sn_bd (a : Int) : -32768 ≤ sn a ∧ sn a ≤ 32768 := by
  obtain ⟨q, r, hq, hq', h0, h1, h⟩ := rep_ex a
  rw [(rep_cs hq hq' h0 (by omega) h).2]
  have := qs_bd h0 (by omega); have := qs_bd (r := 16384 - r) (by omega) (by omega)
  unfold sinq; (repeat' split) <;> omega

/-! P6.4: symmetric. -/
theorem sn_neg (a : Int) : sn (-a) = -sn a := by
  obtain ⟨q, r, hq, hq', h0, h1, h⟩ := rep_ex a
  rw [(rep_cs hq hq' h0 (by omega) h).2, (rep_cs (q := 3 - q) (r := 16384 - r) (by omega) (by omega) (by omega) (by omega) (show (-a - 16384 * (3 - q) - (16384 - r)) % 65536 = 0 by omega)).2,
    show 16384 - (16384 - r) = r by omega]
  obtain rfl | rfl | rfl | rfl : q = 0 ∨ q = 1 ∨ q = 2 ∨ q = 3 := by omega
  all_goals simp [sinq]
theorem cs_neg (a : Int) : cs (-a) = cs a := by
  obtain ⟨q, r, hq, hq', h0, h1, h⟩ := rep_ex a
  rw [(rep_cs hq hq' h0 (by omega) h).1, (rep_cs (q := 3 - q) (r := 16384 - r) (by omega) (by omega) (by omega) (by omega) (show (-a - 16384 * (3 - q) - (16384 - r)) % 65536 = 0 by omega)).1,
    show 16384 - (16384 - r) = r by omega]
  obtain rfl | rfl | rfl | rfl : q = 0 ∨ q = 1 ∨ q = 2 ∨ q = 3 := by omega
  all_goals simp [cosq]
theorem sn_quarter (a : Int) : sn (a + 16384) = cs a := by
  obtain ⟨q, r, hq, hq', h0, h1, h⟩ := rep_ex a
  rw [(rep_cs hq hq' h0 (by omega) h).1, (rep_cs (q := (q + 1) % 4) (r := r) (by omega) (by omega) (by omega) (by omega) (show (a + 16384 - 16384 * ((q + 1) % 4) - r) % 65536 = 0 by omega)).2]
  obtain rfl | rfl | rfl | rfl : q = 0 ∨ q = 1 ∨ q = 2 ∨ q = 3 := by omega
  all_goals simp [sinq, cosq]
theorem cs_quarter (a : Int) : cs (a + 16384) = -sn a := by
  obtain ⟨q, r, hq, hq', h0, h1, h⟩ := rep_ex a
  rw [(rep_cs hq hq' h0 (by omega) h).2, (rep_cs (q := (q + 1) % 4) (r := r) (by omega) (by omega) (by omega) (by omega) (show (a + 16384 - 16384 * ((q + 1) % 4) - r) % 65536 = 0 by omega)).1]
  obtain rfl | rfl | rfl | rfl : q = 0 ∨ q = 1 ∨ q = 2 ∨ q = 3 := by omega
  all_goals simp [sinq, cosq]
theorem sn_mod {a b : Int} (h : (a - b) % 65536 = 0) : sn a = sn b ∧ cs a = cs b := by
  have : nrm a = nrm b := by unfold nrm; omega
  unfold sn cs; rw [this]; exact ⟨rfl, rfl⟩
theorem sn_half (a : Int) : sn (32768 - a) = sn a := by
  have e1 := sn_quarter (16384 - a)
  have e2 := cs_neg (a - 16384)
  have e3 := sn_quarter (a - 16384)
  rw [show 16384 - a + 16384 = 32768 - a by omega] at e1
  rw [show -(a - 16384) = 16384 - a by omega] at e2
  rw [show a - 16384 + 16384 = a by omega] at e3
  rw [e1, e2, e3]
/-- A step of one unit. -/
theorem step_facts (a : Int) : -4 ≤ cs (a + 1) - cs a ∧ cs (a + 1) - cs a ≤ 4 ∧ -4 ≤ sn (a + 1) - sn a ∧ sn (a + 1) - sn a ≤ 4 ∧ (nrm a < 16384 → cs (a + 1) - cs a ≤ 0 ∧ 0 ≤ sn (a + 1) - sn a) := by
  obtain ⟨q, r, hq, hq', h0, h1, h⟩ := rep_ex a
  obtain ⟨e1, e2⟩ := rep_cs hq hq' h0 (by omega) h
  obtain ⟨e3, e4⟩ := rep_cs (a := a + 1) hq hq' (r := r + 1) (by omega) (by omega) (by omega)
  have s1 := qs_step h0 h1
  have s2 := qs_step (r := 16384 - (r + 1)) (by omega) (by omega)
  rw [show 16384 - (r + 1) + 1 = 16384 - r by omega] at s2
  have hn : nrm a < 16384 → q = 0 := by unfold nrm; omega
  rw [e1, e2, e3, e4]
  generalize qs (16384 - r) = c at *; generalize qs (16384 - (r + 1)) = c' at *; generalize qs r = s at *; generalize qs (r + 1) = s' at *
  obtain rfl | rfl | rfl | rfl : q = 0 ∨ q = 1 ∨ q = 2 ∨ q = 3 := by omega
  all_goals (simp [sinq, cosq] at *; omega)
/-! P6.2, P6.4: lengths and turning. -/
theorem len_tab : ∀ k < 64, ∀ f < 256, (1073348644 ≤ qn (256 * k + f) * qn (256 * k + f) + qn (16384 - (256 * k + f)) * qn (16384 - (256 * k + f)) ∧ qn (256 * k + f) * qn (256 * k + f) + qn (16384 - (256 * k + f)) * qn (16384 - (256 * k + f)) ≤ 1073741824) := by decide +kernel
theorem turn_tab : ∀ k < 64, ∀ f < 256, qn (256 * k + f) * qn (16384 - (256 * k + f) - 1) < qn (16384 - (256 * k + f)) * qn (256 * k + f + 1) := by decide +kernel
theorem len_q {r : Int} (h0 : 0 ≤ r) (h1 : r ≤ 16383) : 1073348644 ≤ qs (16384 - r) * qs (16384 - r) + qs r * qs r ∧ qs (16384 - r) * qs (16384 - r) + qs r * qs r ≤ 1073741824 := by
  have := len_tab (r.toNat / 256) (by omega) (r.toNat % 256) (by omega)
  rw [show 256 * (r.toNat / 256) + r.toNat % 256 = r.toNat by omega] at this
  unfold qs; rw [show (16384 - r).toNat = 16384 - r.toNat by omega]
  generalize qn r.toNat = x at *
  generalize qn (16384 - r.toNat) = y at *
  rw [← Int.natCast_mul, ← Int.natCast_mul]
  omega
theorem turn_q {r : Int} (h0 : 0 ≤ r) (h1 : r ≤ 16383) : qs r * qs (16384 - (r + 1)) < qs (16384 - r) * qs (r + 1) := by
  have := turn_tab (r.toNat / 256) (by omega) (r.toNat % 256) (by omega)
  rw [show 256 * (r.toNat / 256) + r.toNat % 256 = r.toNat by omega] at this
  unfold qs; rw [show (16384 - r).toNat = 16384 - r.toNat by omega, show (16384 - (r + 1)).toNat = 16384 - r.toNat - 1 by omega, show (r + 1).toNat = r.toNat + 1 by omega]
  exact_mod_cast this
theorem len_fact (a : Int) : 1073348644 ≤ cs a * cs a + sn a * sn a ∧ cs a * cs a + sn a * sn a ≤ 1073741824 := by
  obtain ⟨q, r, hq, hq', h0, h1, h⟩ := rep_ex a
  obtain ⟨e1, e2⟩ := rep_cs hq hq' h0 (by omega) h
  have l := len_q h0 h1
  rw [e1, e2]
  generalize qs (16384 - r) = c at *; generalize qs r = s at *
  have e : cosq q c s * cosq q c s + sinq q c s * sinq q c s = c * c + s * s := by
    obtain rfl | rfl | rfl | rfl : q = 0 ∨ q = 1 ∨ q = 2 ∨ q = 3 := by omega
    all_goals (simp only [sinq, cosq]; first | grind | (simp; grind))
  rw [e]; exact l
theorem cross_q {r t : Int} (h0 : 0 ≤ r) (h : r < t) (h1 : t ≤ 16384) : 0 < qs (16384 - r) * qs t - qs r * qs (16384 - t) := by
  have u := turn_q h0 (by omega)
  have m1 := qs_mono (r := r + 1) (t - (r + 1)).toNat (by omega) (by omega)
  have m2 := qs_mono (r := 16384 - t) (t - (r + 1)).toNat (by omega) (by omega)
  rw [show r + 1 + ((t - (r + 1)).toNat : Int) = t by omega] at m1
  rw [show 16384 - t + ((t - (r + 1)).toNat : Int) = 16384 - (r + 1) by omega] at m2
  have a := Int.mul_le_mul_of_nonneg_left m1 (qs_bd (r := 16384 - r) (by omega) (by omega)).1
  have b := Int.mul_le_mul_of_nonneg_left m2 (qs_bd (r := r) (by omega) (by omega)).1
  omega
theorem pos_q {r : Int} (h0 : 0 ≤ r) (h1 : r ≤ 16383) : 0 < qs (16384 - r) := by
  have u := turn_q h0 h1
  have n0 := (qs_bd (r := r) h0 (by omega)).1
  have n1 := (qs_bd (r := 16384 - (r + 1)) (by omega) (by omega)).1
  have n2 := (qs_bd (r := 16384 - r) (by omega) (by omega)).1
  have p := Int.mul_nonneg n0 n1
  by_cases h : qs (16384 - r) = 0
  · rw [h, Int.zero_mul] at u; omega
  · omega
/-- Two directions less than half a turn apart. -/
theorem cross_fact {a d : Int} (h : 1 ≤ d) (h' : d ≤ 32767) : 0 < cs a * sn (a + d) - sn a * cs (a + d) := by
  obtain ⟨q, r, hq, hq', h0, h1, hr⟩ := rep_ex a
  obtain ⟨e1, e2⟩ := rep_cs hq hq' h0 (by omega) hr
  obtain ⟨j, t, hj0, hj2, t0, t1, e⟩ : ∃ j t : Int, 0 ≤ j ∧ j ≤ 2 ∧ 0 ≤ t ∧ t ≤ 16383 ∧ r + d = 16384 * j + t := ⟨(r + d) / 16384, (r + d) % 16384, by omega, by omega, by omega, by omega, by omega⟩
  obtain ⟨e3, e4⟩ := rep_cs (a := a + d) (q := (q + j) % 4) (r := t) (by omega) (by omega) t0 (by omega) (by omega)
  rw [e1, e2, e3, e4]
  obtain rfl | rfl | rfl : j = 0 ∨ j = 1 ∨ j = 2 := by omega
  · have c := cross_q (r := r) (t := t) h0 (by omega) (by omega)
    generalize qs (16384 - r) = x at *; generalize qs r = y at *; generalize qs (16384 - t) = z at *; generalize qs t = u at *
    obtain rfl | rfl | rfl | rfl : q = 0 ∨ q = 1 ∨ q = 2 ∨ q = 3 := by omega
    all_goals (simp [sinq, cosq]; grind)
  · have c1 := Int.mul_pos (pos_q h0 h1) (pos_q t0 t1)
    have c2 := Int.mul_nonneg (qs_bd (r := r) h0 (by omega)).1 (qs_bd (r := t) t0 (by omega)).1
    generalize qs (16384 - r) = x at *; generalize qs r = y at *; generalize qs (16384 - t) = z at *; generalize qs t = u at *
    obtain rfl | rfl | rfl | rfl : q = 0 ∨ q = 1 ∨ q = 2 ∨ q = 3 := by omega
    all_goals (simp [sinq, cosq]; grind)
  · have c := cross_q (r := t) (t := r) t0 (by omega) (by omega)
    generalize qs (16384 - r) = x at *; generalize qs r = y at *; generalize qs (16384 - t) = z at *; generalize qs t = u at *
    obtain rfl | rfl | rfl | rfl : q = 0 ∨ q = 1 ∨ q = 2 ∨ q = 3 := by omega
    all_goals (simp [sinq, cosq]; grind)
end Go.Proofs.YtecpkggnjajppaaDoor
