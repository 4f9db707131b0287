/- What rounding loses; symmetry. -/
import Derived.Test.YtfllhbebackbdaaWordj
namespace Go.Proofs.Ytfllhbebackbdaa
open Go.RowKit

def clpN (n lo hi : Int) : Int := if n < lo then lo else if hi < n then hi else n
theorem clpN_bd {n lo hi : Int} (h : lo ≤ hi) : lo ≤ clpN n lo hi ∧ clpN n lo hi ≤ hi := by unfold clpN; split <;> (try split) <;> omega
set_option maxHeartbeats 400000 in
theorem bclip_any (n lo hi : Int) (w : World) (h : lo ≤ hi) :
    Calls Try.prog 35 #[I n, I lo, I hi] w fun e w' => e = .returned (I (clpN n lo hi)) ∧ Ext w w' := by
  obtain h1 | h1 | h1 : n < lo ∨ hi < n ∨ (lo ≤ n ∧ n ≤ hi) := by omega
  · have HV : Hid (clpN n lo hi = lo) := by show clpN n lo hi = lo; unfold clpN; rw [if_pos h1]
    have h2 : n ≤ hi := by omega
    go_enter Try.func35, Try.ntmps35
    go_wp2
    all_goals (go_ret; exact ⟨by rw [HV.out]; exact ret_int (by omega), (by repeat (first | exact Ext.refl _ | assumption | exact Ext.alloc _ _ | refine Ext.trans ?_ (by assumption) | refine Ext.trans ?_ (Ext.alloc _ _) | refine Ext.trans ?_ (Ext.drewN _ _) | refine Ext.trans ?_ (Ext.drew _)))⟩)
  · have HV : Hid (clpN n lo hi = hi) := by show clpN n lo hi = hi; unfold clpN; rw [if_neg (by omega), if_pos h1]
    go_enter Try.func35, Try.ntmps35
    go_wp2
    all_goals (go_ret; exact ⟨by rw [HV.out]; exact ret_int (by omega), (by repeat (first | exact Ext.refl _ | assumption | exact Ext.alloc _ _ | refine Ext.trans ?_ (by assumption) | refine Ext.trans ?_ (Ext.alloc _ _) | refine Ext.trans ?_ (Ext.drewN _ _) | refine Ext.trans ?_ (Ext.drew _)))⟩)
  · have HV : Hid (clpN n lo hi = n) := by show clpN n lo hi = n; unfold clpN; rw [if_neg (by omega), if_neg (by omega)]
    obtain ⟨h2, h3⟩ := h1
    go_enter Try.func35, Try.ntmps35
    go_wp2
    all_goals (go_ret; exact ⟨by rw [HV.out]; exact ret_int (by omega), (by repeat (first | exact Ext.refl _ | assumption | exact Ext.alloc _ _ | refine Ext.trans ?_ (by assumption) | refine Ext.trans ?_ (Ext.alloc _ _) | refine Ext.trans ?_ (Ext.drewN _ _) | refine Ext.trans ?_ (Ext.drew _)))⟩)

theorem rnd_split (x k m : Int) :
    (upB m (x / 2 ^ k.toNat) (x % 2 ^ k.toNat) (2 ^ k.toNat) = true ∧ rnd x k m = x / 2 ^ k.toNat + 1 ∧ x - rnd x k m * 2 ^ k.toNat = x % 2 ^ k.toNat - 2 ^ k.toNat) ∨
    (upB m (x / 2 ^ k.toNat) (x % 2 ^ k.toNat) (2 ^ k.toNat) = false ∧ rnd x k m = x / 2 ^ k.toNat ∧ x - rnd x k m * 2 ^ k.toNat = x % 2 ^ k.toNat) := by
  have dm := Int.mul_ediv_add_emod x (2 ^ k.toNat)
  rw [Int.mul_comm] at dm
  cases hu : upB m (x / 2 ^ k.toNat) (x % 2 ^ k.toNat) (2 ^ k.toNat) with
  | true =>
    have e : rnd x k m = x / 2 ^ k.toNat + 1 := rndQ_up hu
    exact .inl ⟨rfl, e, by rw [e, Int.add_mul]; omega⟩
  | false =>
    have e : rnd x k m = x / 2 ^ k.toNat := rndQ_dn hu
    exact .inr ⟨rfl, e, by rw [e]; omega⟩

theorem near_facts (X K m : Int) (hX1 : -1152921504606846976 ≤ X) (hX2 : X ≤ 1152921504606846976) (hK0 : 0 ≤ K) (hK : K ≤ 39) (hm0 : 0 ≤ m) (hm : m ≤ 3) :
    ∃ y d q p : Int, shiftF X K m = (y, 0) ∧ 2 ^ K.toNat = d ∧ X / d = q ∧ y * d = p ∧ 1 ≤ d ∧ d ≤ 549755813888 ∧ -1152921504606846976 ≤ y ∧ y ≤ 1152921504606846976 ∧ q ≤ y ∧ y ≤ q + 1 ∧
      -1152921504606846976 ≤ q ∧ q ≤ 1152921504606846976 ∧ -549755813888 ≤ X - p ∧ X - p ≤ 549755813888 ∧
      (m = 0 → 0 ≤ X - p ∧ X - p < d) ∧ (m = 1 → (0 ≤ X ∧ 0 ≤ X - p ∧ X - p < d) ∨ (X < 0 ∧ X - p ≤ 0 ∧ -(X - p) < d)) ∧ (2 ≤ m → 2 * (X - p) ≤ d ∧ -2 * (X - p) ≤ d) := by
  have p1 := pow_pos K.toNat
  have p2 : (2 : Int) ^ K.toNat ≤ 549755813888 := by have := pow_le (j := K.toNat) (k := 39) (by omega); simpa using this
  obtain ⟨_, _, m0, m1, q0, q1, q2, _, sg⟩ := shr_facts (x := X) (k := K.toNat) ⟨by omega, by omega⟩ (by omega)
  obtain ⟨b1, b2⟩ : -1152921504606846976 ≤ X / 2 ^ K.toNat ∧ X / 2 ^ K.toNat ≤ 1152921504606846976 := by
    by_cases h : 0 ≤ X
    · have := Int.ediv_le_self (2 ^ K.toNat) h
      have := Int.ediv_nonneg h (show (0 : Int) ≤ 2 ^ K.toNat by omega); omega
    · have : X ≤ X / 2 ^ K.toNat := by
        have h1 : X * 2 ^ K.toNat ≤ X * 1 := Int.mul_le_mul_of_nonpos_left (by omega) (by omega)
        exact Int.le_ediv_of_mul_le (by omega) (by omega)
      have := Int.ediv_neg_of_neg_of_pos (show X < 0 by omega) (show (0 : Int) < 2 ^ K.toNat by omega); omega
  refine ⟨rnd X K m, 2 ^ K.toNat, X / 2 ^ K.toNat, rnd X K m * 2 ^ K.toNat, shift_right (by omega) hm0 hm hK0, rfl, rfl, rfl, p1, p2, ?_⟩
  have hq60 : X / 2 ^ K.toNat = 1152921504606846976 → X % 2 ^ K.toNat = 0 := by
    intro h
    have dm := Int.mul_ediv_add_emod X (2 ^ K.toNat)
    rw [h] at dm
    omega
  rcases rnd_split X K m with ⟨hu, e, l⟩ | ⟨hu, e, l⟩
  · have hz : ¬ X % 2 ^ K.toNat = 0 := by
      intro h; rw [h, upB_zero p1] at hu; cases hu
    rw [l]
    refine ⟨by omega, by omega, by omega, by omega, b1, b2, by omega, by omega, ?_, ?_, ?_⟩
    · rintro rfl; simp [upB] at hu
    · rintro rfl
      simp [upB] at hu
      right; omega
    · intro h2
      obtain rfl | rfl : m = 2 ∨ m = 3 := by omega
      · simp [upB] at hu; omega
      · simp [upB] at hu; omega
  · rw [l]
    refine ⟨by omega, by omega, by omega, by omega, b1, b2, by omega, by omega, ?_, ?_, ?_⟩
    · rintro rfl; omega
    · rintro rfl
      simp [upB] at hu
      by_cases h : X < 0
      · right; have := hu (sg.1 h); omega
      · left; omega
    · intro h2
      obtain rfl | rfl : m = 2 ∨ m = 3 := by omega
      · simp [upB] at hu; omega
      · simp [upB] at hu; omega

set_option maxRecDepth 100000 in
set_option maxHeartbeats 4000000 in
theorem nearLaw_any (x n : Int) (w : World) (hn0 : 0 ≤ n) (hn : n ≤ 255) :
    Calls Try.prog 9 #[I x, .int .u8 n] w fun e w' => e = .returned (.bool true) ∧ Ext w w' := by
  have h4 : errv 0 = .nilIface := rfl
  obtain ⟨K, hK⟩ : ∃ K, n % 40 = K := ⟨_, rfl⟩
  have hK0 : 0 ≤ K := by omega
  have hK1 : K ≤ 39 := by omega
  have p1 := pow_pos K.toNat
  have p2 : (2 : Int) ^ K.toNat ≤ 549755813888 := by have := pow_le (j := K.toNat) (k := 39) (by omega); simpa using this
  obtain ⟨d, hd⟩ : ∃ d, (2 : Int) ^ K.toNat = d := ⟨_, rfl⟩
  rw [hd] at p1 p2
  obtain ⟨X, hX⟩ : ∃ X, clpN x (-1152921504606846976) 1152921504606846976 = X := ⟨_, rfl⟩
  have hX1 : -1152921504606846976 ≤ X := by rw [← hX]; exact (clpN_bd (by omega)).1
  have hX2 : X ≤ 1152921504606846976 := by rw [← hX]; exact (clpN_bd (by omega)).2
  have HI : Hid (In64 X) := ⟨by omega, by omega⟩
  go_enter Try.func9, Try.ntmps9
  go_wp2_with (first
    | (go_at_call 14; refine (awake_any _).mono ?_; rintro e w1 ⟨rfl, hb1⟩; (first | replace hb := Ext.trans hb hb1 | replace hb := Ext.trans (Ext.trans hb (Ext.drewN _ _)) hb1 | replace hb := Ext.trans (Ext.trans hb (Ext.alloc _ _)) hb1 | have hb := hb1); clear hb1; obtain ⟨hc1, hf1⟩ := hb.old)
    | (go_at_call 35; refine (bclip_any _ _ _ _ (by decide)).mono ?_; rintro e w1 ⟨rfl, hb1⟩; (first | replace hb := Ext.trans hb hb1 | replace hb := Ext.trans (Ext.trans hb (Ext.drewN _ _)) hb1 | replace hb := Ext.trans (Ext.trans hb (Ext.alloc _ _)) hb1 | have hb := hb1); clear hb1; obtain ⟨hc1, hf1⟩ := hb.old))
  go_loopw [21] (fun j wr => Ext w wr ∧ (j = I 0 ∨ j = I 1 ∨ j = I 2 ∨ j = I 3 ∨ j = I 4)) (fun j _ => 4 - (intOf j).toNat)
  case atStart => exact ⟨(by repeat (first | exact Ext.refl _ | assumption | exact Ext.alloc _ _ | refine Ext.trans ?_ (by assumption) | refine Ext.trans ?_ (Ext.alloc _ _) | refine Ext.trans ?_ (Ext.drewN _ _) | refine Ext.trans ?_ (Ext.drew _))), .inl rfl⟩
  case round =>
    clear hb
    obtain ⟨hb, rfl | rfl | rfl | rfl | rfl⟩ := hrel
    · obtain ⟨y, d', q, p, hs, hd', hq, hp, d1, d2, y1, y2, y3, y4, q1, q2, l1, l2, g0, g1, g2⟩ := near_facts X K 0 hX1 hX2 hK0 hK1 (by decide) (by decide)
      obtain rfl : d' = d := hd'.symm.trans hd
      clear hd'
      obtain ⟨e1, e2⟩ := g0 rfl
      clear g0 g1 g2
      by_cases hk : 0 < K
      · go_wp2_with (first | (go_at_call 23; refine (shift_any _ _ _ _ HI.out).mono ?_; rintro e w1 ⟨rfl, hb1⟩; (first | replace hb := Ext.trans hb hb1 | replace hb := Ext.trans (Ext.trans hb (Ext.drewN _ _)) hb1 | replace hb := Ext.trans (Ext.trans hb (Ext.alloc _ _)) hb1 | have hb := hb1); clear hb1; obtain ⟨hc1, hf1⟩ := hb.old))
        go_roundw
        case rel => exact ⟨(by repeat (first | exact Ext.refl _ | assumption | exact Ext.alloc _ _ | refine Ext.trans ?_ (by assumption) | refine Ext.trans ?_ (Ext.alloc _ _) | refine Ext.trans ?_ (Ext.drewN _ _) | refine Ext.trans ?_ (Ext.drew _))), .inr (.inl rfl)⟩
        case measure => simp [intOf]
      · go_wp2_with (first | (go_at_call 23; refine (shift_any _ _ _ _ HI.out).mono ?_; rintro e w1 ⟨rfl, hb1⟩; (first | replace hb := Ext.trans hb hb1 | replace hb := Ext.trans (Ext.trans hb (Ext.drewN _ _)) hb1 | replace hb := Ext.trans (Ext.trans hb (Ext.alloc _ _)) hb1 | have hb := hb1); clear hb1; obtain ⟨hc1, hf1⟩ := hb.old))
        go_roundw
        case rel => exact ⟨(by repeat (first | exact Ext.refl _ | assumption | exact Ext.alloc _ _ | refine Ext.trans ?_ (by assumption) | refine Ext.trans ?_ (Ext.alloc _ _) | refine Ext.trans ?_ (Ext.drewN _ _) | refine Ext.trans ?_ (Ext.drew _))), .inr (.inl rfl)⟩
        case measure => simp [intOf]
    · obtain ⟨y, d', q, p, hs, hd', hq, hp, d1, d2, y1, y2, y3, y4, q1, q2, l1, l2, g0, g1, g2⟩ := near_facts X K 1 hX1 hX2 hK0 hK1 (by decide) (by decide)
      obtain rfl : d' = d := hd'.symm.trans hd
      clear hd'
      replace g1 := g1 rfl
      clear g0 g2
      rcases g1 with ⟨f1, f2, f3⟩ | ⟨f1, f2, f3⟩
      all_goals
        by_cases hk : 0 < K
        · go_wp2_with (first | (go_at_call 23; refine (shift_any _ _ _ _ HI.out).mono ?_; rintro e w1 ⟨rfl, hb1⟩; (first | replace hb := Ext.trans hb hb1 | replace hb := Ext.trans (Ext.trans hb (Ext.drewN _ _)) hb1 | replace hb := Ext.trans (Ext.trans hb (Ext.alloc _ _)) hb1 | have hb := hb1); clear hb1; obtain ⟨hc1, hf1⟩ := hb.old))
          go_roundw
          case rel => exact ⟨(by repeat (first | exact Ext.refl _ | assumption | exact Ext.alloc _ _ | refine Ext.trans ?_ (by assumption) | refine Ext.trans ?_ (Ext.alloc _ _) | refine Ext.trans ?_ (Ext.drewN _ _) | refine Ext.trans ?_ (Ext.drew _))), .inr (.inr (.inl rfl))⟩
          case measure => simp [intOf]
        · go_wp2_with (first | (go_at_call 23; refine (shift_any _ _ _ _ HI.out).mono ?_; rintro e w1 ⟨rfl, hb1⟩; (first | replace hb := Ext.trans hb hb1 | replace hb := Ext.trans (Ext.trans hb (Ext.drewN _ _)) hb1 | replace hb := Ext.trans (Ext.trans hb (Ext.alloc _ _)) hb1 | have hb := hb1); clear hb1; obtain ⟨hc1, hf1⟩ := hb.old))
          go_roundw
          case rel => exact ⟨(by repeat (first | exact Ext.refl _ | assumption | exact Ext.alloc _ _ | refine Ext.trans ?_ (by assumption) | refine Ext.trans ?_ (Ext.alloc _ _) | refine Ext.trans ?_ (Ext.drewN _ _) | refine Ext.trans ?_ (Ext.drew _))), .inr (.inr (.inl rfl))⟩
          case measure => simp [intOf]
    · obtain ⟨y, d', q, p, hs, hd', hq, hp, d1, d2, y1, y2, y3, y4, q1, q2, l1, l2, g0, g1, g2⟩ := near_facts X K 2 hX1 hX2 hK0 hK1 (by decide) (by decide)
      obtain rfl : d' = d := hd'.symm.trans hd
      clear hd'
      obtain ⟨e1, e2⟩ := g2 (by decide)
      clear g0 g1 g2
      by_cases hk : 0 < K
      · go_wp2_with (first | (go_at_call 23; refine (shift_any _ _ _ _ HI.out).mono ?_; rintro e w1 ⟨rfl, hb1⟩; (first | replace hb := Ext.trans hb hb1 | replace hb := Ext.trans (Ext.trans hb (Ext.drewN _ _)) hb1 | replace hb := Ext.trans (Ext.trans hb (Ext.alloc _ _)) hb1 | have hb := hb1); clear hb1; obtain ⟨hc1, hf1⟩ := hb.old))
        go_roundw
        case rel => exact ⟨(by repeat (first | exact Ext.refl _ | assumption | exact Ext.alloc _ _ | refine Ext.trans ?_ (by assumption) | refine Ext.trans ?_ (Ext.alloc _ _) | refine Ext.trans ?_ (Ext.drewN _ _) | refine Ext.trans ?_ (Ext.drew _))), .inr (.inr (.inr (.inl rfl)))⟩
        case measure => simp [intOf]
      · go_wp2_with (first | (go_at_call 23; refine (shift_any _ _ _ _ HI.out).mono ?_; rintro e w1 ⟨rfl, hb1⟩; (first | replace hb := Ext.trans hb hb1 | replace hb := Ext.trans (Ext.trans hb (Ext.drewN _ _)) hb1 | replace hb := Ext.trans (Ext.trans hb (Ext.alloc _ _)) hb1 | have hb := hb1); clear hb1; obtain ⟨hc1, hf1⟩ := hb.old))
        go_roundw
        case rel => exact ⟨(by repeat (first | exact Ext.refl _ | assumption | exact Ext.alloc _ _ | refine Ext.trans ?_ (by assumption) | refine Ext.trans ?_ (Ext.alloc _ _) | refine Ext.trans ?_ (Ext.drewN _ _) | refine Ext.trans ?_ (Ext.drew _))), .inr (.inr (.inr (.inl rfl)))⟩
        case measure => simp [intOf]
    · obtain ⟨y, d', q, p, hs, hd', hq, hp, d1, d2, y1, y2, y3, y4, q1, q2, l1, l2, g0, g1, g2⟩ := near_facts X K 3 hX1 hX2 hK0 hK1 (by decide) (by decide)
      obtain rfl : d' = d := hd'.symm.trans hd
      clear hd'
      obtain ⟨e1, e2⟩ := g2 (by decide)
      clear g0 g1 g2
      by_cases hk : 0 < K
      · go_wp2_with (first | (go_at_call 23; refine (shift_any _ _ _ _ HI.out).mono ?_; rintro e w1 ⟨rfl, hb1⟩; (first | replace hb := Ext.trans hb hb1 | replace hb := Ext.trans (Ext.trans hb (Ext.drewN _ _)) hb1 | replace hb := Ext.trans (Ext.trans hb (Ext.alloc _ _)) hb1 | have hb := hb1); clear hb1; obtain ⟨hc1, hf1⟩ := hb.old))
        go_roundw
        case rel => exact ⟨(by repeat (first | exact Ext.refl _ | assumption | exact Ext.alloc _ _ | refine Ext.trans ?_ (by assumption) | refine Ext.trans ?_ (Ext.alloc _ _) | refine Ext.trans ?_ (Ext.drewN _ _) | refine Ext.trans ?_ (Ext.drew _))), .inr (.inr (.inr (.inr rfl)))⟩
        case measure => simp [intOf]
      · go_wp2_with (first | (go_at_call 23; refine (shift_any _ _ _ _ HI.out).mono ?_; rintro e w1 ⟨rfl, hb1⟩; (first | replace hb := Ext.trans hb hb1 | replace hb := Ext.trans (Ext.trans hb (Ext.drewN _ _)) hb1 | replace hb := Ext.trans (Ext.trans hb (Ext.alloc _ _)) hb1 | have hb := hb1); clear hb1; obtain ⟨hc1, hf1⟩ := hb.old))
        go_roundw
        case rel => exact ⟨(by repeat (first | exact Ext.refl _ | assumption | exact Ext.alloc _ _ | refine Ext.trans ?_ (by assumption) | refine Ext.trans ?_ (Ext.alloc _ _) | refine Ext.trans ?_ (Ext.drewN _ _) | refine Ext.trans ?_ (Ext.drew _))), .inr (.inr (.inr (.inr rfl)))⟩
        case measure => simp [intOf]
    · go_wp2
      go_ret
      exact ⟨rfl, (by repeat (first | exact Ext.refl _ | assumption | exact Ext.alloc _ _ | refine Ext.trans ?_ (by assumption) | refine Ext.trans ?_ (Ext.alloc _ _) | refine Ext.trans ?_ (Ext.drewN _ _) | refine Ext.trans ?_ (Ext.drew _)))⟩

end Go.Proofs.Ytfllhbebackbdaa
