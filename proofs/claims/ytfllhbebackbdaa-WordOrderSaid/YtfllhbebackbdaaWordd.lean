/- Contracts of the functions of package word and of its reference, fourth part: rounding. -/
import Derived.Test.YtfllhbebackbdaaWordc
namespace Go.Proofs.Ytfllhbebackbdaa
open Go.RowKit

/-- An int of 64 bits. -/
def In64 (x : Int) : Prop := -9223372036854775808 ≤ x ∧ x ≤ 9223372036854775807

theorem shr_facts {x : Int} {k : Nat} (hx : In64 x) (hk : k ≤ 62) :
    (1 : Int) ≤ 2 ^ k ∧ (2 : Int) ^ k ≤ 4611686018427387904 ∧ 0 ≤ x % 2 ^ k ∧ x % 2 ^ k < 2 ^ k ∧ -9223372036854775808 ≤ x / 2 ^ k ∧ x / 2 ^ k ≤ 9223372036854775807 ∧
    (x % 2 ^ k = 0 ∨ x / 2 ^ k ≤ 4611686018427387904) ∧ wrap64 (x - wrap64 (x / 2 ^ k * 2 ^ k)) = x % 2 ^ k ∧ (x < 0 ↔ x / 2 ^ k < 0) := by
  obtain ⟨l, u⟩ := hx
  have p1 := pow_pos k
  have p2 := pow62 hk
  have m0 : 0 ≤ x % 2 ^ k := Int.emod_nonneg _ (by omega)
  have m1 : x % 2 ^ k < 2 ^ k := Int.emod_lt_of_pos _ (by omega)
  have dm := Int.mul_ediv_add_emod x (2 ^ k)
  have q0 : -9223372036854775808 ≤ x / 2 ^ k := by
    by_cases h : 0 ≤ x
    · have := Int.ediv_nonneg h (show (0 : Int) ≤ 2 ^ k by omega); omega
    · have : x ≤ x / 2 ^ k := by
        have h1 : x * 2 ^ k ≤ x * 1 := Int.mul_le_mul_of_nonpos_left (by omega) (by omega)
        exact Int.le_ediv_of_mul_le (by omega) (by omega)
      omega
  have q1 : x / 2 ^ k ≤ 9223372036854775807 := by
    by_cases h : 0 ≤ x
    · have := Int.ediv_le_self (2 ^ k) h; omega
    · have := Int.ediv_neg_of_neg_of_pos (show x < 0 by omega) (show (0 : Int) < 2 ^ k by omega); omega
  have q2 : x % 2 ^ k = 0 ∨ x / 2 ^ k ≤ 4611686018427387904 := by
    cases k with
    | zero => left; simp
    | succ k =>
      right
      by_cases h : 0 ≤ x
      · have h2 : (2 : Int) ≤ 2 ^ (k + 1) := by have := pow_le (j := 1) (k := k + 1) (by omega); simpa using this
        have : x / 2 ^ (k + 1) ≤ x / 2 := by
          apply Int.le_ediv_of_mul_le (by decide)
          have hq := Int.ediv_nonneg h (show (0 : Int) ≤ 2 ^ (k + 1) by omega)
          have := Int.mul_le_mul_of_nonneg_left h2 hq
          rw [Int.mul_comm] at dm
          omega
        omega
      · have := Int.ediv_neg_of_neg_of_pos (show x < 0 by omega) (show (0 : Int) < 2 ^ (k + 1) by omega); omega
  refine ⟨p1, p2, m0, m1, q0, q1, q2, ?_, ?_⟩
  · rw [Int.mul_comm] at dm
    have e : x / 2 ^ k * 2 ^ k = x - x % 2 ^ k := by omega
    rw [e]
    by_cases hb : -9223372036854775808 ≤ x - x % 2 ^ k
    · rw [wrap_id hb (by omega), wrap_id (by omega) (by omega)]; omega
    · unfold wrap64; omega
  · constructor
    · intro h; exact Int.ediv_neg_of_neg_of_pos h (by omega)
    · intro h
      by_cases h0 : 0 ≤ x
      · have := Int.ediv_nonneg h0 (show (0 : Int) ≤ 2 ^ k by omega); omega
      · omega

set_option maxHeartbeats 400000 in
theorem shiftRight_any (x n m : Int) (w : World) (hx : In64 x) (hn0 : 0 ≤ n) (hn : n ≤ 62) (hm0 : 0 ≤ m) (hm3 : m ≤ 3) :
    Calls Try.prog 40 #[I x, I n, I m] w fun e w' => e = .returned (I (rnd x n m)) ∧ Ext w w' := by
  obtain ⟨p1, p2, f1, f2, f3, f4, f5, f6, f7⟩ := shr_facts (k := n.toNat) hx (by omega)
  have hm := and_mask (x := x) (k := n.toNat) (by omega)
  clear f6 f7
  have F5 := Lib.hid f5; clear f5
  have HX := Lib.hid hx; clear hx
  go_enter Try.func40, Try.ntmps40
  go_wp2_with (first
    | (go_at_call 53; refine (round_any _ _ _ _ _ f1 f2 p2 hm0 hm3 f3 F5.out).mono ?_; rintro e w1 ⟨rfl, hb1⟩; (first | replace hb := Ext.trans hb hb1 | replace hb := Ext.trans (Ext.trans hb (Ext.drewN _ _)) hb1 | replace hb := Ext.trans (Ext.trans hb (Ext.alloc _ _)) hb1 | have hb := hb1); clear hb1; obtain ⟨hc1, hf1⟩ := hb.old))
  go_ret
  exact ⟨ret_int rfl, (by repeat (first | exact Ext.refl _ | assumption | exact Ext.alloc _ _ | refine Ext.trans ?_ (by assumption) | refine Ext.trans ?_ (Ext.alloc _ _) | refine Ext.trans ?_ (Ext.drewN _ _) | refine Ext.trans ?_ (Ext.drew _)))⟩

set_option maxHeartbeats 400000 in
theorem up_any (q r d m : Int) (ng : Bool) (w : World) (hr0 : 0 ≤ r) (hrd : r < d) (hd : d ≤ 4611686018427387904) (hm0 : 0 ≤ m) (hm3 : m ≤ 3) (hg : ng = decide (q < 0)) :
    Calls Try.prog 47 #[I q, I r, I d, I m, .bool ng] w fun e w' => e = .returned (.bool (upB m q r d)) ∧ Ext w w' := by
  obtain rfl | rfl | rfl | rfl : m = 0 ∨ m = 1 ∨ m = 2 ∨ m = 3 := by omega
  · have HG := Lib.hid hg; clear hg
    go_enter Try.func47, Try.ntmps47
    go_wp2
    all_goals (go_ret; exact ⟨by simp [upB], Ext.refl _⟩)
  · subst hg
    go_enter Try.func47, Try.ntmps47
    go_wp2
    all_goals (go_ret; exact ⟨by simp [upB] <;> omega, Ext.refl _⟩)
  · have HG := Lib.hid hg; clear hg
    go_enter Try.func47, Try.ntmps47
    go_wp2
    all_goals (go_ret; exact ⟨by simp [upB] <;> omega, Ext.refl _⟩)
  · have HG := Lib.hid hg; clear hg
    obtain h1 | h1 | h1 : d < 2 * r ∨ 2 * r = d ∨ 2 * r < d := by omega
    · have hv : upB 3 q r d = true := by simp [upB, h1]
      have HV := Lib.hid hv; clear hv
      go_enter Try.func47, Try.ntmps47
      go_wp2
      go_ret
      exact ⟨by rw [HV.out]; rfl, Ext.refl _⟩
    · have hv : upB 3 q r d = (q.tmod 2 != 0) := by
        have h2 : ¬ d < 2 * r := by omega
        simp [upB, h1, bne]
      have HV := Lib.hid hv; clear hv
      have h3 : ¬ d - r < r := by omega
      have h5 : (r == d - r) = true := by simp; omega
      have H1 := Lib.hid h1; clear h1
      go_enter Try.func47, Try.ntmps47
      go_wp2
      go_ret
      exact ⟨by rw [HV.out]; rfl, Ext.refl _⟩
    · have hv : upB 3 q r d = false := by
        have h2 : ¬ d < 2 * r := by omega
        have h3 : ¬ 2 * r = d := by omega
        simp [upB, h2, h3]
      have HV := Lib.hid hv; clear hv
      have h3 : ¬ d - r < r := by omega
      have h5 : (r == d - r) = false := by simp; omega
      go_enter Try.func47, Try.ntmps47
      go_wp2
      go_ret
      exact ⟨by rw [HV.out]; rfl, Ext.refl _⟩

theorem rndQ_up {m q r d : Int} (h : upB m q r d = true) : rndQ m q r d = q + 1 := by unfold rndQ; rw [if_pos h]
theorem rndQ_dn {m q r d : Int} (h : upB m q r d = false) : rndQ m q r d = q := by unfold rndQ; rw [h]; rfl
theorem upB_zero {m q d : Int} (hd : 1 ≤ d) : upB m q 0 d = false := by
  have h1 : ¬ d ≤ 0 := by omega
  have h2 : ¬ d < 0 := by omega
  have h3 : ¬ 0 = d := by omega
  simp [upB, h1, h2, h3]

set_option maxHeartbeats 400000 in
theorem rround_any (x n m : Int) (w : World) (hx : In64 x) (hn0 : 0 ≤ n) (hn : n ≤ 62) (hm0 : 0 ≤ m) (hm3 : m ≤ 3) :
    Calls Try.prog 42 #[I x, I n, I m] w fun e w' => e = .returned (I (rnd x n m)) ∧ Ext w w' := by
  obtain ⟨p1, p2, f1, f2, f3, f4, f5, f6, f7⟩ := shr_facts (k := n.toNat) hx (by omega)
  have F7 := Lib.hid (show decide (x < 0) = decide (x / 2 ^ n.toNat < 0) by simp [f7]); clear f7
  have HX := Lib.hid hx; clear hx
  by_cases hu : upB m (x / 2 ^ n.toNat) (x % 2 ^ n.toNat) (2 ^ n.toNat) = true
  · have hq : x / 2 ^ n.toNat ≤ 4611686018427387904 := by
      rcases f5 with h | h
      · rw [h, upB_zero p1] at hu; cases hu
      · exact h
    have HV := Lib.hid (rndQ_up hu)
    clear f5
    go_enter Try.func42, Try.ntmps42
    go_wp2_with (first
      | (go_at_call 47; refine (up_any _ _ _ _ _ _ f1 f2 p2 hm0 hm3 F7.out).mono ?_; rintro e w1 ⟨rfl, hb1⟩; (first | replace hb := Ext.trans hb hb1 | replace hb := Ext.trans (Ext.trans hb (Ext.drewN _ _)) hb1 | replace hb := Ext.trans (Ext.trans hb (Ext.alloc _ _)) hb1 | have hb := hb1); clear hb1; obtain ⟨hc1, hf1⟩ := hb.old))
    go_ret
    exact ⟨ret_int (by unfold rnd; rw [HV.out]), (by repeat (first | exact Ext.refl _ | assumption | exact Ext.alloc _ _ | refine Ext.trans ?_ (by assumption) | refine Ext.trans ?_ (Ext.alloc _ _) | refine Ext.trans ?_ (Ext.drewN _ _) | refine Ext.trans ?_ (Ext.drew _)))⟩
  · replace hu : upB m (x / 2 ^ n.toNat) (x % 2 ^ n.toNat) (2 ^ n.toNat) = false := by simpa using hu
    have HV := Lib.hid (rndQ_dn hu)
    clear f5
    go_enter Try.func42, Try.ntmps42
    go_wp2_with (first
      | (go_at_call 47; refine (up_any _ _ _ _ _ _ f1 f2 p2 hm0 hm3 F7.out).mono ?_; rintro e w1 ⟨rfl, hb1⟩; (first | replace hb := Ext.trans hb hb1 | replace hb := Ext.trans (Ext.trans hb (Ext.drewN _ _)) hb1 | replace hb := Ext.trans (Ext.trans hb (Ext.alloc _ _)) hb1 | have hb := hb1); clear hb1; obtain ⟨hc1, hf1⟩ := hb.old))
    go_ret
    exact ⟨ret_int (by unfold rnd; rw [HV.out]), (by repeat (first | exact Ext.refl _ | assumption | exact Ext.alloc _ _ | refine Ext.trans ?_ (by assumption) | refine Ext.trans ?_ (Ext.alloc _ _) | refine Ext.trans ?_ (Ext.drewN _ _) | refine Ext.trans ?_ (Ext.drew _)))⟩

end Go.Proofs.Ytfllhbebackbdaa
