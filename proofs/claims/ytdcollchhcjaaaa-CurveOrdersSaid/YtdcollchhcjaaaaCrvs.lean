/- Curves: one below another one, by the code and by the reference. -/
import Derived.Test.YtdcollchhcjaaaaCrvl
namespace Go.Proofs.Ytdcollchhcjaaaa
open Go.RowKit

theorem floor_facts (a d : Int) (hd : 0 < d) : ∃ t m : Int, a.tdiv d = t ∧ a.tmod d = m ∧ a = d * t + m ∧ -d < m ∧ m < d := by
  refine ⟨a.tdiv d, a.tmod d, rfl, rfl, (Int.mul_tdiv_add_tmod a d).symm, ?_, ?_⟩
  · by_cases h : 0 ≤ a
    · have := Int.tmod_nonneg d h; omega
    · have h1 := Int.tmod_lt_of_pos (-a) hd
      rw [Int.neg_tmod] at h1; omega
  · exact Int.tmod_lt_of_pos a hd
theorem fl_lt {a d t m q : Int} (hd : 0 < d) (h : a = d * t + m) (h0 : 0 ≤ m) (h1 : m < d) : a < q * d ↔ t < q := by
  constructor
  · intro hh
    apply Classical.byContradiction; intro hc
    have := Int.mul_le_mul_of_nonneg_left (show q ≤ t by omega) (show 0 ≤ d by omega)
    rw [Int.mul_comm q d] at hh; omega
  · intro hh
    have := Int.mul_le_mul_of_nonneg_left (show t + 1 ≤ q by omega) (show 0 ≤ d by omega)
    rw [Int.mul_add, Int.mul_one] at this
    rw [Int.mul_comm q d]; omega
theorem fl_gt {a d t m q : Int} (hd : 0 < d) (h : a = d * t + m) (h0 : 0 ≤ m) (h1 : m < d) : q * d < a ↔ q < t ∨ (q = t ∧ 0 < m) := by
  rw [Int.mul_comm q d]
  constructor
  · intro hh
    by_cases h2 : q < t
    · exact .inl h2
    · by_cases h3 : q = t
      · subst h3; exact .inr ⟨rfl, by omega⟩
      · have := Int.mul_le_mul_of_nonneg_left (show t + 1 ≤ q by omega) (show 0 ≤ d by omega)
        rw [Int.mul_add, Int.mul_one] at this; omega
  · rintro (h2 | ⟨rfl, h2⟩)
    · have := Int.mul_le_mul_of_nonneg_left (show q + 1 ≤ t by omega) (show 0 ≤ d by omega)
      rw [Int.mul_add, Int.mul_one] at this; omega
    · omega


theorem fl_bd {a d t m : Int} (hd : 0 < d) (h : a = d * t + m) (m1 : -d < m) (m2 : m < d) (a1 : -4611686018427387904 ≤ a) (a2 : a ≤ 4611686018427387904) (d2 : d ≤ 4611686018427387904) : -4611686018427387906 ≤ t ∧ t ≤ 4611686018427387906 := by
  constructor
  · apply Classical.byContradiction; intro hc
    have h1 := Int.mul_le_mul_of_nonneg_left (show t + 1 ≤ -4611686018427387905 by omega) (show 0 ≤ d by omega)
    have h2 := Int.mul_le_mul_of_nonpos_right (a := d) (b := 1) (c := -4611686018427387905) (by omega) (by decide)
    have h3 : d * (t + 1) = d * t + d := by rw [Int.mul_add, Int.mul_one]
    omega
  · apply Classical.byContradiction; intro hc
    have h1 := Int.mul_le_mul_of_nonneg_left (show 4611686018427387905 ≤ t - 1 by omega) (show 0 ≤ d by omega)
    have h2 := Int.mul_le_mul_of_nonneg_right (a := 1) (b := d) (c := 4611686018427387905) (by omega) (by decide)
    have h3 : d * (t - 1) = d * t - d := by rw [Int.mul_sub, Int.mul_one]
    omega

set_option maxRecDepth 100000 in
set_option maxHeartbeats 4000000 in
theorem less1_any (a d q : Int) (w : World) (hd : 0 < d) (a1 : -4611686018427387904 ≤ a) (a2 : a ≤ 4611686018427387904) (hd2 : d ≤ 4611686018427387904) (b1 : -4611686018427387904 ≤ q) (b2 : q ≤ 4611686018427387904) :
    Calls Try.prog 43 #[I a, I d, I q, I 1] w fun e w' => e = .returned (.bool (decide (a < q * d))) ∧ Ext w w' := by
  obtain ⟨t, m, e1, e2, e3, m1, m2⟩ := floor_facts a d hd
  obtain ⟨t1, t2⟩ := fl_bd hd e3 m1 m2 a1 a2 hd2
  have d0 : d ≠ 0 := by omega
  have f1 : q.tdiv 1 = q := Int.tdiv_one q
  have f2 : q.tmod 1 = 0 := Int.tmod_one q
  have g1 : IntKind.i64.wrap t = t := wrap_in (by omega) (by omega)
  have g2 : IntKind.i64.wrap q = q := wrap_in (by omega) (by omega)
  by_cases hm : m < 0
  · have K := fl_lt (q := q) hd (show a = d * (t - 1) + (m + d) by rw [Int.mul_sub, Int.mul_one]; omega) (by omega) (by omega)
    clear e3
    by_cases hq : t - 1 < q
    · have hq2 : ¬ q < t - 1 := by omega
      have hq3 : q ≠ t - 1 := by omega
      have hd1 : decide (t - 1 < q) = true := by simp; omega
      have HV : Hid (decide (a < q * d) = true) := by show decide (a < q * d) = true; exact decide_eq_true (K.2 (by omega))
      clear K
      go_enter Try.func43, Try.ntmps43
      go_wp2_with fail
      go_loopw [0, 1, 2, 3] (fun s0 s1 s2 s3 wr => Ext w wr ∧ s0 = I a ∧ s1 = I d ∧ s2 = I q ∧ s3 = I 1) (fun _ _ _ _ _ => 0)
      case atStart => exact ⟨Ext.refl _, rfl, rfl, rfl, rfl⟩
      case round =>
        obtain ⟨hb, rfl, rfl, rfl, rfl⟩ := hrel
        go_wp2_with fail
        go_quiet (fail)
        go_wp2_with fail
        go_quiet (fail)
        go_wp2_with fail
        go_ret
        exact ⟨by rw [HV.out]; rfl, (by repeat (first | exact Ext.refl _ | assumption | exact Ext.alloc _ _ | refine Ext.trans ?_ (by assumption) | refine Ext.trans ?_ (Ext.alloc _ _) | refine Ext.trans ?_ (Ext.drewN _ _) | refine Ext.trans ?_ (Ext.drew _)))⟩
    · by_cases hq1 : q < t - 1
      · have hq3 : q ≠ t - 1 := by omega
        have hd1 : decide (t - 1 < q) = false := by simp; omega
        have HV : Hid (decide (a < q * d) = false) := by show decide (a < q * d) = false; exact decide_eq_false (fun hh => by have := K.1 hh; omega)
        clear K
        go_enter Try.func43, Try.ntmps43
        go_wp2_with fail
        go_loopw [0, 1, 2, 3] (fun s0 s1 s2 s3 wr => Ext w wr ∧ s0 = I a ∧ s1 = I d ∧ s2 = I q ∧ s3 = I 1) (fun _ _ _ _ _ => 0)
        case atStart => exact ⟨Ext.refl _, rfl, rfl, rfl, rfl⟩
        case round =>
          obtain ⟨hb, rfl, rfl, rfl, rfl⟩ := hrel
          go_wp2_with fail
          go_quiet (fail)
          go_wp2_with fail
          go_quiet (fail)
          go_wp2_with fail
          go_ret
          exact ⟨by rw [HV.out]; rfl, (by repeat (first | exact Ext.refl _ | assumption | exact Ext.alloc _ _ | refine Ext.trans ?_ (by assumption) | refine Ext.trans ?_ (Ext.alloc _ _) | refine Ext.trans ?_ (Ext.drewN _ _) | refine Ext.trans ?_ (Ext.drew _)))⟩
      · obtain rfl : q = t - 1 := by omega
        by_cases hM : m + d = 0
        · have HV : Hid (decide (a < (t - 1) * d) = false) := by show decide (a < (t - 1) * d) = false; exact decide_eq_false (fun hh => by have := K.1 hh; omega)
          clear K
          go_enter Try.func43, Try.ntmps43
          go_wp2_with fail
          go_loopw [0, 1, 2, 3] (fun s0 s1 s2 s3 wr => Ext w wr ∧ s0 = I a ∧ s1 = I d ∧ s2 = I (t - 1) ∧ s3 = I 1) (fun _ _ _ _ _ => 0)
          case atStart => exact ⟨Ext.refl _, rfl, rfl, rfl, rfl⟩
          case round =>
            obtain ⟨hb, rfl, rfl, rfl, rfl⟩ := hrel
            go_wp2_with fail
            go_quiet (fail)
            go_wp2_with fail
            go_quiet (fail)
            go_wp2_with fail
            go_ret
            exact ⟨by rw [HV.out]; rfl, (by repeat (first | exact Ext.refl _ | assumption | exact Ext.alloc _ _ | refine Ext.trans ?_ (by assumption) | refine Ext.trans ?_ (Ext.alloc _ _) | refine Ext.trans ?_ (Ext.drewN _ _) | refine Ext.trans ?_ (Ext.drew _)))⟩
        · have HV : Hid (decide (a < (t - 1) * d) = false) := by show decide (a < (t - 1) * d) = false; exact decide_eq_false (fun hh => by have := K.1 hh; omega)
          clear K
          go_enter Try.func43, Try.ntmps43
          go_wp2_with fail
          go_loopw [0, 1, 2, 3] (fun s0 s1 s2 s3 wr => Ext w wr ∧ s0 = I a ∧ s1 = I d ∧ s2 = I (t - 1) ∧ s3 = I 1) (fun _ _ _ _ _ => 0)
          case atStart => exact ⟨Ext.refl _, rfl, rfl, rfl, rfl⟩
          case round =>
            obtain ⟨hb, rfl, rfl, rfl, rfl⟩ := hrel
            go_wp2_with fail
            go_quiet (fail)
            go_wp2_with fail
            go_quiet (fail)
            go_wp2_with fail
            go_ret
            exact ⟨by rw [HV.out]; rfl, (by repeat (first | exact Ext.refl _ | assumption | exact Ext.alloc _ _ | refine Ext.trans ?_ (by assumption) | refine Ext.trans ?_ (Ext.alloc _ _) | refine Ext.trans ?_ (Ext.drewN _ _) | refine Ext.trans ?_ (Ext.drew _)))⟩
  · have K := fl_lt (q := q) hd e3 (by omega) m2
    clear e3
    by_cases hq : t < q
    · have hq2 : ¬ q < t := by omega
      have hq3 : q ≠ t := by omega
      have hd1 : decide (t < q) = true := by simp; omega
      have HV : Hid (decide (a < q * d) = true) := by show decide (a < q * d) = true; exact decide_eq_true (K.2 (by omega))
      clear K
      go_enter Try.func43, Try.ntmps43
      go_wp2_with fail
      go_loopw [0, 1, 2, 3] (fun s0 s1 s2 s3 wr => Ext w wr ∧ s0 = I a ∧ s1 = I d ∧ s2 = I q ∧ s3 = I 1) (fun _ _ _ _ _ => 0)
      case atStart => exact ⟨Ext.refl _, rfl, rfl, rfl, rfl⟩
      case round =>
        obtain ⟨hb, rfl, rfl, rfl, rfl⟩ := hrel
        go_wp2_with fail
        go_quiet (fail)
        go_wp2_with fail
        go_quiet (fail)
        go_wp2_with fail
        go_ret
        exact ⟨by rw [HV.out]; rfl, (by repeat (first | exact Ext.refl _ | assumption | exact Ext.alloc _ _ | refine Ext.trans ?_ (by assumption) | refine Ext.trans ?_ (Ext.alloc _ _) | refine Ext.trans ?_ (Ext.drewN _ _) | refine Ext.trans ?_ (Ext.drew _)))⟩
    · by_cases hq1 : q < t
      · have hq3 : q ≠ t := by omega
        have hd1 : decide (t < q) = false := by simp; omega
        have HV : Hid (decide (a < q * d) = false) := by show decide (a < q * d) = false; exact decide_eq_false (fun hh => by have := K.1 hh; omega)
        clear K
        go_enter Try.func43, Try.ntmps43
        go_wp2_with fail
        go_loopw [0, 1, 2, 3] (fun s0 s1 s2 s3 wr => Ext w wr ∧ s0 = I a ∧ s1 = I d ∧ s2 = I q ∧ s3 = I 1) (fun _ _ _ _ _ => 0)
        case atStart => exact ⟨Ext.refl _, rfl, rfl, rfl, rfl⟩
        case round =>
          obtain ⟨hb, rfl, rfl, rfl, rfl⟩ := hrel
          go_wp2_with fail
          go_quiet (fail)
          go_wp2_with fail
          go_quiet (fail)
          go_wp2_with fail
          go_ret
          exact ⟨by rw [HV.out]; rfl, (by repeat (first | exact Ext.refl _ | assumption | exact Ext.alloc _ _ | refine Ext.trans ?_ (by assumption) | refine Ext.trans ?_ (Ext.alloc _ _) | refine Ext.trans ?_ (Ext.drewN _ _) | refine Ext.trans ?_ (Ext.drew _)))⟩
      · obtain rfl : t = q := by omega
        by_cases hM : m = 0
        · have HV : Hid (decide (a < t * d) = false) := by show decide (a < t * d) = false; exact decide_eq_false (fun hh => by have := K.1 hh; omega)
          clear K
          go_enter Try.func43, Try.ntmps43
          go_wp2_with fail
          go_loopw [0, 1, 2, 3] (fun s0 s1 s2 s3 wr => Ext w wr ∧ s0 = I a ∧ s1 = I d ∧ s2 = I t ∧ s3 = I 1) (fun _ _ _ _ _ => 0)
          case atStart => exact ⟨Ext.refl _, rfl, rfl, rfl, rfl⟩
          case round =>
            obtain ⟨hb, rfl, rfl, rfl, rfl⟩ := hrel
            go_wp2_with fail
            go_quiet (fail)
            go_wp2_with fail
            go_quiet (fail)
            go_wp2_with fail
            go_ret
            exact ⟨by rw [HV.out]; rfl, (by repeat (first | exact Ext.refl _ | assumption | exact Ext.alloc _ _ | refine Ext.trans ?_ (by assumption) | refine Ext.trans ?_ (Ext.alloc _ _) | refine Ext.trans ?_ (Ext.drewN _ _) | refine Ext.trans ?_ (Ext.drew _)))⟩
        · have HV : Hid (decide (a < t * d) = false) := by show decide (a < t * d) = false; exact decide_eq_false (fun hh => by have := K.1 hh; omega)
          clear K
          go_enter Try.func43, Try.ntmps43
          go_wp2_with fail
          go_loopw [0, 1, 2, 3] (fun s0 s1 s2 s3 wr => Ext w wr ∧ s0 = I a ∧ s1 = I d ∧ s2 = I t ∧ s3 = I 1) (fun _ _ _ _ _ => 0)
          case atStart => exact ⟨Ext.refl _, rfl, rfl, rfl, rfl⟩
          case round =>
            obtain ⟨hb, rfl, rfl, rfl, rfl⟩ := hrel
            go_wp2_with fail
            go_quiet (fail)
            go_wp2_with fail
            go_quiet (fail)
            go_wp2_with fail
            go_ret
            exact ⟨by rw [HV.out]; rfl, (by repeat (first | exact Ext.refl _ | assumption | exact Ext.alloc _ _ | refine Ext.trans ?_ (by assumption) | refine Ext.trans ?_ (Ext.alloc _ _) | refine Ext.trans ?_ (Ext.drewN _ _) | refine Ext.trans ?_ (Ext.drew _)))⟩

set_option maxRecDepth 100000 in
set_option maxHeartbeats 4000000 in
theorem less2_any (a d q : Int) (w : World) (hd : 0 < d) (a1 : -4611686018427387904 ≤ a) (a2 : a ≤ 4611686018427387904) (hd2 : d ≤ 4611686018427387904) (b1 : -4611686018427387904 ≤ q) (b2 : q ≤ 4611686018427387904) :
    Calls Try.prog 43 #[I q, I 1, I a, I d] w fun e w' => e = .returned (.bool (decide (q * d < a))) ∧ Ext w w' := by
  obtain ⟨t, m, e1, e2, e3, m1, m2⟩ := floor_facts a d hd
  obtain ⟨t1, t2⟩ := fl_bd hd e3 m1 m2 a1 a2 hd2
  have d0 : d ≠ 0 := by omega
  have f1 : q.tdiv 1 = q := Int.tdiv_one q
  have f2 : q.tmod 1 = 0 := Int.tmod_one q
  have g1 : IntKind.i64.wrap t = t := wrap_in (by omega) (by omega)
  have g2 : IntKind.i64.wrap q = q := wrap_in (by omega) (by omega)
  by_cases hm : m < 0
  · have K := fl_gt (q := q) hd (show a = d * (t - 1) + (m + d) by rw [Int.mul_sub, Int.mul_one]; omega) (by omega) (by omega)
    clear e3
    by_cases hq : t - 1 < q
    · have hq2 : ¬ q < t - 1 := by omega
      have hq3 : q ≠ t - 1 := by omega
      have hd1 : decide (q < t - 1) = false := by simp; omega
      have HV : Hid (decide (q * d < a) = false) := by show decide (q * d < a) = false; exact decide_eq_false (fun hh => by have := K.1 hh; omega)
      clear K
      go_enter Try.func43, Try.ntmps43
      go_wp2_with fail
      go_loopw [0, 1, 2, 3] (fun s0 s1 s2 s3 wr => Ext w wr ∧ s0 = I q ∧ s1 = I 1 ∧ s2 = I a ∧ s3 = I d) (fun _ _ _ _ _ => 0)
      case atStart => exact ⟨Ext.refl _, rfl, rfl, rfl, rfl⟩
      case round =>
        obtain ⟨hb, rfl, rfl, rfl, rfl⟩ := hrel
        go_wp2_with fail
        go_quiet (fail)
        go_wp2_with fail
        go_quiet (fail)
        go_wp2_with fail
        go_ret
        exact ⟨by rw [HV.out]; rfl, (by repeat (first | exact Ext.refl _ | assumption | exact Ext.alloc _ _ | refine Ext.trans ?_ (by assumption) | refine Ext.trans ?_ (Ext.alloc _ _) | refine Ext.trans ?_ (Ext.drewN _ _) | refine Ext.trans ?_ (Ext.drew _)))⟩
    · by_cases hq1 : q < t - 1
      · have hq3 : q ≠ t - 1 := by omega
        have hd1 : decide (q < t - 1) = true := by simp; omega
        have HV : Hid (decide (q * d < a) = true) := by show decide (q * d < a) = true; exact decide_eq_true (K.2 (.inl (by omega)))
        clear K
        go_enter Try.func43, Try.ntmps43
        go_wp2_with fail
        go_loopw [0, 1, 2, 3] (fun s0 s1 s2 s3 wr => Ext w wr ∧ s0 = I q ∧ s1 = I 1 ∧ s2 = I a ∧ s3 = I d) (fun _ _ _ _ _ => 0)
        case atStart => exact ⟨Ext.refl _, rfl, rfl, rfl, rfl⟩
        case round =>
          obtain ⟨hb, rfl, rfl, rfl, rfl⟩ := hrel
          go_wp2_with fail
          go_quiet (fail)
          go_wp2_with fail
          go_quiet (fail)
          go_wp2_with fail
          go_ret
          exact ⟨by rw [HV.out]; rfl, (by repeat (first | exact Ext.refl _ | assumption | exact Ext.alloc _ _ | refine Ext.trans ?_ (by assumption) | refine Ext.trans ?_ (Ext.alloc _ _) | refine Ext.trans ?_ (Ext.drewN _ _) | refine Ext.trans ?_ (Ext.drew _)))⟩
      · obtain rfl : q = t - 1 := by omega
        by_cases hM : m + d = 0
        · have HV : Hid (decide ((t - 1) * d < a) = false) := by show decide ((t - 1) * d < a) = false; exact decide_eq_false (fun hh => by have := K.1 hh; omega)
          clear K
          go_enter Try.func43, Try.ntmps43
          go_wp2_with fail
          go_loopw [0, 1, 2, 3] (fun s0 s1 s2 s3 wr => Ext w wr ∧ s0 = I (t - 1) ∧ s1 = I 1 ∧ s2 = I a ∧ s3 = I d) (fun _ _ _ _ _ => 0)
          case atStart => exact ⟨Ext.refl _, rfl, rfl, rfl, rfl⟩
          case round =>
            obtain ⟨hb, rfl, rfl, rfl, rfl⟩ := hrel
            go_wp2_with fail
            go_quiet (fail)
            go_wp2_with fail
            go_quiet (fail)
            go_wp2_with fail
            go_ret
            exact ⟨by rw [HV.out]; rfl, (by repeat (first | exact Ext.refl _ | assumption | exact Ext.alloc _ _ | refine Ext.trans ?_ (by assumption) | refine Ext.trans ?_ (Ext.alloc _ _) | refine Ext.trans ?_ (Ext.drewN _ _) | refine Ext.trans ?_ (Ext.drew _)))⟩
        · have HV : Hid (decide ((t - 1) * d < a) = true) := by show decide ((t - 1) * d < a) = true; exact decide_eq_true (K.2 (.inr ⟨rfl, by omega⟩))
          have hM2 : 0 < m + d := by omega
          clear K
          go_enter Try.func43, Try.ntmps43
          go_wp2_with fail
          go_loopw [0, 1, 2, 3] (fun s0 s1 s2 s3 wr => Ext w wr ∧ s0 = I (t - 1) ∧ s1 = I 1 ∧ s2 = I a ∧ s3 = I d) (fun _ _ _ _ _ => 0)
          case atStart => exact ⟨Ext.refl _, rfl, rfl, rfl, rfl⟩
          case round =>
            obtain ⟨hb, rfl, rfl, rfl, rfl⟩ := hrel
            go_wp2_with fail
            go_quiet (fail)
            go_wp2_with fail
            go_quiet (fail)
            go_wp2_with fail
            go_ret
            exact ⟨by rw [HV.out]; rfl, (by repeat (first | exact Ext.refl _ | assumption | exact Ext.alloc _ _ | refine Ext.trans ?_ (by assumption) | refine Ext.trans ?_ (Ext.alloc _ _) | refine Ext.trans ?_ (Ext.drewN _ _) | refine Ext.trans ?_ (Ext.drew _)))⟩
  · have K := fl_gt (q := q) hd e3 (by omega) m2
    clear e3
    by_cases hq : t < q
    · have hq2 : ¬ q < t := by omega
      have hq3 : q ≠ t := by omega
      have hd1 : decide (q < t) = false := by simp; omega
      have HV : Hid (decide (q * d < a) = false) := by show decide (q * d < a) = false; exact decide_eq_false (fun hh => by have := K.1 hh; omega)
      clear K
      go_enter Try.func43, Try.ntmps43
      go_wp2_with fail
      go_loopw [0, 1, 2, 3] (fun s0 s1 s2 s3 wr => Ext w wr ∧ s0 = I q ∧ s1 = I 1 ∧ s2 = I a ∧ s3 = I d) (fun _ _ _ _ _ => 0)
      case atStart => exact ⟨Ext.refl _, rfl, rfl, rfl, rfl⟩
      case round =>
        obtain ⟨hb, rfl, rfl, rfl, rfl⟩ := hrel
        go_wp2_with fail
        go_quiet (fail)
        go_wp2_with fail
        go_quiet (fail)
        go_wp2_with fail
        go_ret
        exact ⟨by rw [HV.out]; rfl, (by repeat (first | exact Ext.refl _ | assumption | exact Ext.alloc _ _ | refine Ext.trans ?_ (by assumption) | refine Ext.trans ?_ (Ext.alloc _ _) | refine Ext.trans ?_ (Ext.drewN _ _) | refine Ext.trans ?_ (Ext.drew _)))⟩
    · by_cases hq1 : q < t
      · have hq3 : q ≠ t := by omega
        have hd1 : decide (q < t) = true := by simp; omega
        have HV : Hid (decide (q * d < a) = true) := by show decide (q * d < a) = true; exact decide_eq_true (K.2 (.inl (by omega)))
        clear K
        go_enter Try.func43, Try.ntmps43
        go_wp2_with fail
        go_loopw [0, 1, 2, 3] (fun s0 s1 s2 s3 wr => Ext w wr ∧ s0 = I q ∧ s1 = I 1 ∧ s2 = I a ∧ s3 = I d) (fun _ _ _ _ _ => 0)
        case atStart => exact ⟨Ext.refl _, rfl, rfl, rfl, rfl⟩
        case round =>
          obtain ⟨hb, rfl, rfl, rfl, rfl⟩ := hrel
          go_wp2_with fail
          go_quiet (fail)
          go_wp2_with fail
          go_quiet (fail)
          go_wp2_with fail
          go_ret
          exact ⟨by rw [HV.out]; rfl, (by repeat (first | exact Ext.refl _ | assumption | exact Ext.alloc _ _ | refine Ext.trans ?_ (by assumption) | refine Ext.trans ?_ (Ext.alloc _ _) | refine Ext.trans ?_ (Ext.drewN _ _) | refine Ext.trans ?_ (Ext.drew _)))⟩
      · obtain rfl : t = q := by omega
        by_cases hM : m = 0
        · have HV : Hid (decide (t * d < a) = false) := by show decide (t * d < a) = false; exact decide_eq_false (fun hh => by have := K.1 hh; omega)
          clear K
          go_enter Try.func43, Try.ntmps43
          go_wp2_with fail
          go_loopw [0, 1, 2, 3] (fun s0 s1 s2 s3 wr => Ext w wr ∧ s0 = I t ∧ s1 = I 1 ∧ s2 = I a ∧ s3 = I d) (fun _ _ _ _ _ => 0)
          case atStart => exact ⟨Ext.refl _, rfl, rfl, rfl, rfl⟩
          case round =>
            obtain ⟨hb, rfl, rfl, rfl, rfl⟩ := hrel
            go_wp2_with fail
            go_quiet (fail)
            go_wp2_with fail
            go_quiet (fail)
            go_wp2_with fail
            go_ret
            exact ⟨by rw [HV.out]; rfl, (by repeat (first | exact Ext.refl _ | assumption | exact Ext.alloc _ _ | refine Ext.trans ?_ (by assumption) | refine Ext.trans ?_ (Ext.alloc _ _) | refine Ext.trans ?_ (Ext.drewN _ _) | refine Ext.trans ?_ (Ext.drew _)))⟩
        · have HV : Hid (decide (t * d < a) = true) := by show decide (t * d < a) = true; exact decide_eq_true (K.2 (.inr ⟨rfl, by omega⟩))
          have hM2 : 0 < m := by omega
          clear K
          go_enter Try.func43, Try.ntmps43
          go_wp2_with fail
          go_loopw [0, 1, 2, 3] (fun s0 s1 s2 s3 wr => Ext w wr ∧ s0 = I t ∧ s1 = I 1 ∧ s2 = I a ∧ s3 = I d) (fun _ _ _ _ _ => 0)
          case atStart => exact ⟨Ext.refl _, rfl, rfl, rfl, rfl⟩
          case round =>
            obtain ⟨hb, rfl, rfl, rfl, rfl⟩ := hrel
            go_wp2_with fail
            go_quiet (fail)
            go_wp2_with fail
            go_quiet (fail)
            go_wp2_with fail
            go_ret
            exact ⟨by rw [HV.out]; rfl, (by repeat (first | exact Ext.refl _ | assumption | exact Ext.alloc _ _ | refine Ext.trans ?_ (by assumption) | refine Ext.trans ?_ (Ext.alloc _ _) | refine Ext.trans ?_ (Ext.drewN _ _) | refine Ext.trans ?_ (Ext.drew _)))⟩
end Go.Proofs.Ytdcollchhcjaaaa
