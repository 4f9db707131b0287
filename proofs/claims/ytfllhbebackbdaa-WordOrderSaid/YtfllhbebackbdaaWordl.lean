/- Symmetry of the symmetric modes; monotony. -/
import Derived.Test.YtfllhbebackbdaaWordk
namespace Go.Proofs.Ytfllhbebackbdaa
open Go.RowKit

theorem neg_div (x d : Int) (hd : 1 ≤ d) : (x % d = 0 ∧ -x / d = -(x / d) ∧ -x % d = 0) ∨ (0 < x % d ∧ -x / d = -(x / d) - 1 ∧ -x % d = d - x % d) := by
  have m0 := Int.emod_nonneg x (show d ≠ 0 by omega)
  have m1 := Int.emod_lt_of_pos x (show 0 < d by omega)
  have n0 := Int.emod_nonneg (-x) (show d ≠ 0 by omega)
  have n1 := Int.emod_lt_of_pos (-x) (show 0 < d by omega)
  have a := Int.mul_ediv_add_emod x d
  have b := Int.mul_ediv_add_emod (-x) d
  have hs : d * (x / d + -x / d) = -(x % d + -x % d) := by rw [Int.mul_add]; omega
  have key : ∀ t : Int, d * t = -(x % d + -x % d) → (t = 0 ∧ x % d + -x % d = 0) ∨ (t = -1 ∧ x % d + -x % d = d) := by
    intro t ht
    have h1 : ¬ 1 ≤ t := by intro h; have := Int.mul_le_mul_of_nonneg_left h (show 0 ≤ d by omega); omega
    have h2 : ¬ t ≤ -2 := by intro h; have := Int.mul_le_mul_of_nonneg_left h (show 0 ≤ d by omega); omega
    obtain rfl | rfl : t = 0 ∨ t = -1 := by omega
    · left; omega
    · right; omega
  rcases key _ hs with ⟨e1, e2⟩ | ⟨e1, e2⟩
  · left; omega
  · by_cases h : x % d = 0
    · omega
    · right; omega

theorem tmod2 (q : Int) : (q.tmod 2 == 0) = decide (q % 2 = 0) := by
  rw [Bool.eq_iff_iff]; simp only [beq_iff_eq, decide_eq_true_eq]
  exact ⟨fun h => Int.emod_eq_zero_of_dvd (Int.dvd_of_tmod_eq_zero h), fun h => Int.tmod_eq_zero_of_dvd (Int.dvd_of_emod_eq_zero h)⟩

theorem rnd_neg (x k m : Int) (hm : m = 1 ∨ m = 3) : rnd (-x) k m = -(rnd x k m) := by
  have p1 := pow_pos k.toNat
  unfold rnd
  generalize (2 : Int) ^ k.toNat = d at *
  have m0 := Int.emod_nonneg x (show d ≠ 0 by omega)
  have m1 := Int.emod_lt_of_pos x (show 0 < d by omega)
  rcases neg_div x d p1 with ⟨h1, h2, h3⟩ | ⟨h1, h2, h3⟩
  · rw [h1, h2, h3, rndQ_dn (upB_zero p1), rndQ_dn (upB_zero p1)]
  · rw [h2, h3]
    generalize x / d = q at *
    generalize x % d = r at *
    rcases hm with rfl | rfl
    · by_cases hq : q < 0
      · rw [rndQ_up (m := 1) (q := q) (r := r) (d := d) (by simp [upB]; omega), rndQ_dn (m := 1) (q := -q - 1) (r := d - r) (d := d) (by simp [upB]; omega)]; omega
      · rw [rndQ_dn (m := 1) (q := q) (r := r) (d := d) (by simp [upB]; omega), rndQ_up (m := 1) (q := -q - 1) (r := d - r) (d := d) (by simp [upB]; omega)]; omega
    · obtain h | h | h : d < 2 * r ∨ 2 * r < d ∨ 2 * r = d := by omega
      · rw [rndQ_up (m := 3) (q := q) (r := r) (d := d) (by simp [upB]; omega), rndQ_dn (m := 3) (q := -q - 1) (r := d - r) (d := d) (by simp [upB]; omega)]; omega
      · rw [rndQ_dn (m := 3) (q := q) (r := r) (d := d) (by simp [upB]; omega), rndQ_up (m := 3) (q := -q - 1) (r := d - r) (d := d) (by simp [upB]; omega)]; omega
      · by_cases hq : q % 2 = 0
        · rw [rndQ_dn (m := 3) (q := q) (r := r) (d := d) (by simp [upB, tmod2]; omega), rndQ_up (m := 3) (q := -q - 1) (r := d - r) (d := d) (by simp [upB, tmod2]; omega)]; omega
        · rw [rndQ_up (m := 3) (q := q) (r := r) (d := d) (by simp [upB, tmod2]; omega), rndQ_dn (m := 3) (q := -q - 1) (r := d - r) (d := d) (by simp [upB, tmod2]; omega)]; omega

set_option maxRecDepth 100000 in
set_option maxHeartbeats 4000000 in
theorem symLaw_any (x n : Int) (w : World) (hn0 : 0 ≤ n) (hn : n ≤ 255) :
    Calls Try.prog 11 #[I x, .int .u8 n] w fun e w' => e = .returned (.bool true) ∧ Ext w w' := by
  have h4 : errv 0 = .nilIface := rfl
  obtain ⟨K, hK⟩ : ∃ K, n % 63 = K := ⟨_, rfl⟩
  have hK0 : 0 ≤ K := by omega
  have hK1 : K ≤ 62 := by omega
  obtain ⟨X, hX⟩ : ∃ X, clpN x (-4611686018427387904) 4611686018427387904 = X := ⟨_, rfl⟩
  have hX1 : -4611686018427387904 ≤ X := by rw [← hX]; exact (clpN_bd (by omega)).1
  have hX2 : X ≤ 4611686018427387904 := by rw [← hX]; exact (clpN_bd (by omega)).2
  have HI : Hid (In64 X) := ⟨by omega, by omega⟩
  have HJ : Hid (In64 (-X)) := ⟨by omega, by omega⟩
  have s1 : shiftF X K 1 = (rnd X K 1, 0) := shift_right (by omega) (by decide) (by decide) hK0
  have s3 : shiftF X K 3 = (rnd X K 3, 0) := shift_right (by omega) (by decide) (by decide) hK0
  have t1 : shiftF (-X) K 1 = (-(rnd X K 1), 0) := by rw [← rnd_neg X K 1 (.inl rfl)]; exact shift_right (by omega) (by decide) (by decide) hK0
  have t3 : shiftF (-X) K 3 = (-(rnd X K 3), 0) := by rw [← rnd_neg X K 3 (.inr rfl)]; exact shift_right (by omega) (by decide) (by decide) hK0
  obtain ⟨y1, hy1⟩ : ∃ y, rnd X K 1 = y := ⟨_, rfl⟩
  obtain ⟨y3, hy3⟩ : ∃ y, rnd X K 3 = y := ⟨_, rfl⟩
  rw [hy1] at s1 t1
  rw [hy3] at s3 t3
  have bd : ∀ m, rnd X K m ≤ X / 2 ^ K.toNat + 1 ∧ X / 2 ^ K.toNat ≤ rnd X K m := by
    intro m; rcases rnd_split X K m with ⟨_, e, _⟩ | ⟨_, e, _⟩ <;> omega
  have q := shr_facts (x := X) (k := K.toNat) HI.out (by omega)
  have b1 := bd 1
  have b3 := bd 3
  rw [hy1] at b1
  rw [hy3] at b3
  have bq := ediv_bd (X := X) (d := 2 ^ K.toNat) q.1 hX1 hX2
  have c1 : -4611686018427387905 ≤ y1 := by omega
  have c2 : y1 ≤ 4611686018427387905 := by omega
  have c3 : -4611686018427387905 ≤ y3 := by omega
  have c4 : y3 ≤ 4611686018427387905 := by omega
  clear hy1 hy3 b1 b3 bq q bd
  go_enter Try.func11, Try.ntmps11
  go_wp2_with (first
    | (go_at_call 14; refine (awake_any _).mono ?_; rintro e w1 ⟨rfl, hb1⟩; (first | replace hb := Ext.trans hb hb1 | replace hb := Ext.trans (Ext.trans hb (Ext.drewN _ _)) hb1 | replace hb := Ext.trans (Ext.trans hb (Ext.alloc _ _)) hb1 | have hb := hb1); clear hb1; obtain ⟨hc1, hf1⟩ := hb.old)
    | (go_at_call 35; refine (bclip_any _ _ _ _ (by decide)).mono ?_; rintro e w1 ⟨rfl, hb1⟩; (first | replace hb := Ext.trans hb hb1 | replace hb := Ext.trans (Ext.trans hb (Ext.drewN _ _)) hb1 | replace hb := Ext.trans (Ext.trans hb (Ext.alloc _ _)) hb1 | have hb := hb1); clear hb1; obtain ⟨hc1, hf1⟩ := hb.old))
  go_loopw [21] (fun j wr => Ext w wr ∧ w1.heap.size < wr.heap.size ∧ wr.cell? ⟨w1.heap.size, 0, none⟩ = some (I 1) ∧ wr.cell? ⟨w1.heap.size, 1, none⟩ = some (I 3) ∧ (j = I 0 ∨ j = I 1 ∨ j = I 2)) (fun j _ => 2 - (intOf j).toNat)
  case atStart => exact ⟨(by repeat (first | exact Ext.refl _ | assumption | exact Ext.alloc _ _ | refine Ext.trans ?_ (by assumption) | refine Ext.trans ?_ (Ext.alloc _ _) | refine Ext.trans ?_ (Ext.drewN _ _) | refine Ext.trans ?_ (Ext.drew _))), by simp, by go_simp, by go_simp, .inl rfl⟩
  case round =>
    clear hb hc1 hf1
    obtain ⟨hb0, hz, k0, k1, rfl | rfl | rfl⟩ := hrel
    · have hb := Ext.refl wr
      go_wp2_with (first | (go_at_call 23; refine (shift_any _ _ _ _ (by first | exact HI.out | exact HJ.out)).mono ?_; rintro e w1 ⟨rfl, hb1⟩; (first | replace hb := Ext.trans hb hb1 | replace hb := Ext.trans (Ext.trans hb (Ext.drewN _ _)) hb1 | replace hb := Ext.trans (Ext.trans hb (Ext.alloc _ _)) hb1 | have hb := hb1); clear hb1; obtain ⟨hc1, hf1⟩ := hb.old))
      go_roundw
      case rel => exact ⟨(by repeat (first | exact Ext.refl _ | assumption | exact Ext.alloc _ _ | refine Ext.trans ?_ (by assumption) | refine Ext.trans ?_ (Ext.alloc _ _) | refine Ext.trans ?_ (Ext.drewN _ _) | refine Ext.trans ?_ (Ext.drew _))), Nat.lt_of_lt_of_le hz hb.size, by rw [hc1 _ _ hz]; exact k0, by rw [hc1 _ _ hz]; exact k1, .inr (.inl rfl)⟩
      case measure => simp [intOf]
    · have hb := Ext.refl wr
      go_wp2_with (first | (go_at_call 23; refine (shift_any _ _ _ _ (by first | exact HI.out | exact HJ.out)).mono ?_; rintro e w1 ⟨rfl, hb1⟩; (first | replace hb := Ext.trans hb hb1 | replace hb := Ext.trans (Ext.trans hb (Ext.drewN _ _)) hb1 | replace hb := Ext.trans (Ext.trans hb (Ext.alloc _ _)) hb1 | have hb := hb1); clear hb1; obtain ⟨hc1, hf1⟩ := hb.old))
      go_roundw
      case rel => exact ⟨(by repeat (first | exact Ext.refl _ | assumption | exact Ext.alloc _ _ | refine Ext.trans ?_ (by assumption) | refine Ext.trans ?_ (Ext.alloc _ _) | refine Ext.trans ?_ (Ext.drewN _ _) | refine Ext.trans ?_ (Ext.drew _))), Nat.lt_of_lt_of_le hz hb.size, by rw [hc1 _ _ hz]; exact k0, by rw [hc1 _ _ hz]; exact k1, .inr (.inr rfl)⟩
      case measure => simp [intOf]
    · go_wp2
      go_ret
      exact ⟨rfl, (by repeat (first | exact Ext.refl _ | assumption | exact Ext.alloc _ _ | refine Ext.trans ?_ (by assumption) | refine Ext.trans ?_ (Ext.alloc _ _) | refine Ext.trans ?_ (Ext.drewN _ _) | refine Ext.trans ?_ (Ext.drew _)))⟩

end Go.Proofs.Ytfllhbebackbdaa
