/- Conversions of formats. -/
import Derived.Test.YtfllhbebackbdaaWordh
namespace Go.Proofs.Ytfllhbebackbdaa
open Go.RowKit

def capN (n k : Int) : Int := if n ≤ k then n else k
def resF (n x m : Int) : Int := if n < 0 then x * 2 ^ (capN (-n) 32).toNat else rnd x (capN n 62) m
def convP (fb fs tb ts x m : Int) : Prop := chkF fb fs = 0 ∧ chkF tb ts = 0 ∧ inB fb x = true ∧ okM m = true
instance (fb fs tb ts x m : Int) : Decidable (convP fb fs tb ts x m) := inferInstanceAs (Decidable (_ ∧ _ ∧ _ ∧ _))
def convF (fb fs tb ts x m : Int) : Int × Bool × Int := if convP fb fs tb ts x m then (clipF tb (resF (fs - ts) x m), cutF tb (resF (fs - ts) x m), 0) else (0, false, 3)
theorem conv_ok {fb fs tb ts x m : Int} (h : convP fb fs tb ts x m) : convF fb fs tb ts x m = (clipF tb (resF (fs - ts) x m), cutF tb (resF (fs - ts) x m), 0) := by unfold convF; rw [if_pos h]
theorem conv_bad {fb fs tb ts x m : Int} (h : ¬ convP fb fs tb ts x m) : convF fb fs tb ts x m = (0, false, 3) := by unfold convF; rw [if_neg h]
theorem okM_of {m : Int} (h : okM m = true) : 0 ≤ m ∧ m ≤ 3 := by unfold okM at h; simpa using h

theorem shl32 {x k : Int} (bx : -2147483648 ≤ x ∧ x ≤ 2147483647) (h1 : k ≤ 32) : -9223372036854775808 ≤ x * 2 ^ k.toNat ∧ x * 2 ^ k.toNat ≤ 9223372036854775807 := by
  have p : (2 : Int) ^ k.toNat ≤ 4294967296 := by have := pow_le (j := k.toNat) (k := 32) (by omega); simpa using this
  have p1 := pow_pos k.toNat
  constructor
  · by_cases h : 0 ≤ x
    · have := Int.mul_nonneg h (show (0 : Int) ≤ 2 ^ k.toNat by omega); omega
    · have h2 : -x * 2 ^ k.toNat ≤ 2147483648 * 4294967296 := Int.mul_le_mul (by omega) p (by omega) (by omega)
      rw [Int.neg_mul] at h2; omega
  · by_cases h : 0 ≤ x
    · have h2 : x * 2 ^ k.toNat ≤ 2147483647 * 4294967296 := Int.mul_le_mul (by omega) p (by omega) (by omega)
      omega
    · have := Int.mul_nonneg (show (0 : Int) ≤ -x by omega) (show (0 : Int) ≤ 2 ^ k.toNat by omega)
      rw [Int.neg_mul] at this; omega

theorem resF_neg {n x m : Int} (h : n < 0) : resF n x m = x * 2 ^ (capN (-n) 32).toNat := by unfold resF; rw [if_pos h]
theorem resF_pos {n x m : Int} (h : ¬ n < 0) : resF n x m = rnd x (capN n 62) m := by unfold resF; rw [if_neg h]

set_option maxHeartbeats 400000 in
theorem rescale_any (x n m : Int) (w : World) (b1 : -2147483648 ≤ x) (b2 : x ≤ 2147483647) (n1 : -128 ≤ n) (n2 : n ≤ 128) (m1 : 0 ≤ m) (m2 : m ≤ 3) :
    Calls Try.prog 49 #[I x, I n, I m] w fun e w' => e = .returned (I (resF n x m)) ∧ Ext w w' := by
  have HI : Hid (In64 x) := ⟨by omega, by omega⟩
  by_cases hn : n < 0
  · have HR := Lib.hid (resF_neg (x := x) (m := m) hn)
    by_cases hk : -n ≤ 32
    · have hc : capN (-n) 32 = -n := by unfold capN; rw [if_pos hk]
      obtain ⟨s1, s2⟩ := shl32 (x := x) (k := -n) ⟨b1, b2⟩ hk
      have HC := Lib.hid hc; clear hc
      go_enter Try.func49, Try.ntmps49
      go_wp2
      go_ret
      exact ⟨by rw [HR.out, HC.out]; rfl, (by repeat (first | exact Ext.refl _ | assumption | exact Ext.alloc _ _ | refine Ext.trans ?_ (by assumption) | refine Ext.trans ?_ (Ext.alloc _ _) | refine Ext.trans ?_ (Ext.drewN _ _) | refine Ext.trans ?_ (Ext.drew _)))⟩
    · have hc : capN (-n) 32 = 32 := by unfold capN; rw [if_neg hk]
      have HC := Lib.hid hc; clear hc
      go_enter Try.func49, Try.ntmps49
      go_wp2
      go_ret
      exact ⟨by rw [HR.out, HC.out]; rfl, (by repeat (first | exact Ext.refl _ | assumption | exact Ext.alloc _ _ | refine Ext.trans ?_ (by assumption) | refine Ext.trans ?_ (Ext.alloc _ _) | refine Ext.trans ?_ (Ext.drewN _ _) | refine Ext.trans ?_ (Ext.drew _)))⟩
  · have HR := Lib.hid (resF_pos (x := x) (m := m) hn)
    by_cases hk : n ≤ 62
    · have HC : Hid (capN n 62 = n) := by show capN n 62 = n; unfold capN; rw [if_pos hk]
      have hn0 : 0 ≤ n := by omega
      go_enter Try.func49, Try.ntmps49
      go_wp2_with (first | (go_at_call 40; refine (shiftRight_any _ _ _ _ HI.out hn0 hk m1 m2).mono ?_; rintro e w1 ⟨rfl, hb1⟩; (first | replace hb := Ext.trans hb hb1 | replace hb := Ext.trans (Ext.trans hb (Ext.drewN _ _)) hb1 | replace hb := Ext.trans (Ext.trans hb (Ext.alloc _ _)) hb1 | have hb := hb1); clear hb1; obtain ⟨hc1, hf1⟩ := hb.old))
      go_ret
      exact ⟨by rw [HR.out, HC.out]; rfl, (by repeat (first | exact Ext.refl _ | assumption | exact Ext.alloc _ _ | refine Ext.trans ?_ (by assumption) | refine Ext.trans ?_ (Ext.alloc _ _) | refine Ext.trans ?_ (Ext.drewN _ _) | refine Ext.trans ?_ (Ext.drew _)))⟩
    · have HC : Hid (capN n 62 = 62) := by show capN n 62 = 62; unfold capN; rw [if_neg hk]
      have hq0 : (0 : Int) ≤ 62 := by decide
      have hq1 : (62 : Int) ≤ 62 := by decide
      go_enter Try.func49, Try.ntmps49
      go_wp2_with (first | (go_at_call 40; refine (shiftRight_any _ _ _ _ HI.out (by decide) (by decide) m1 m2).mono ?_; rintro e w1 ⟨rfl, hb1⟩; (first | replace hb := Ext.trans hb hb1 | replace hb := Ext.trans (Ext.trans hb (Ext.drewN _ _)) hb1 | replace hb := Ext.trans (Ext.trans hb (Ext.alloc _ _)) hb1 | have hb := hb1); clear hb1; obtain ⟨hc1, hf1⟩ := hb.old))
      go_ret
      exact ⟨by rw [HR.out, HC.out]; rfl, (by repeat (first | exact Ext.refl _ | assumption | exact Ext.alloc _ _ | refine Ext.trans ?_ (by assumption) | refine Ext.trans ?_ (Ext.alloc _ _) | refine Ext.trans ?_ (Ext.drewN _ _) | refine Ext.trans ?_ (Ext.drew _)))⟩

set_option maxHeartbeats 400000 in
theorem convert_any (fb fs tb ts x m : Int) (w : World) :
    Calls Try.prog 33 #[fmt fb fs, fmt tb ts, I x, I m] w fun e w' => e = .returned (res3 (convF fb fs tb ts x m)) ∧ Ext w w' := by
  by_cases hc : convP fb fs tb ts x m
  · have HR := Lib.hid (conv_ok hc)
    obtain ⟨hf, ht, hx, hm⟩ := hc
    obtain ⟨h1, h2, h3, h4⟩ := chk_of hf
    obtain ⟨g1, g2, g3, g4⟩ := chk_of ht
    obtain ⟨m1, m2⟩ := okM_of hm
    obtain ⟨x1, x2⟩ := inB_bd h2 hx
    have HF := Lib.hid hf; clear hf
    have HT := Lib.hid ht; clear ht
    have HM := Lib.hid hm; clear hm
    go_enter Try.func33, Try.ntmps33
    go_wp2_with (first
      | (go_at_call 19; refine (check_ok _ _ _ (by first | exact HF.out | exact HT.out)).mono ?_; rintro e w1 ⟨rfl, hb1⟩; (first | replace hb := Ext.trans hb hb1 | replace hb := Ext.trans (Ext.trans hb (Ext.drewN _ _)) hb1 | replace hb := Ext.trans (Ext.trans hb (Ext.alloc _ _)) hb1 | have hb := hb1); clear hb1; obtain ⟨hc1, hf1⟩ := hb.old)
      | (go_at_call 48; refine (isWord_any _ _ _ _ h1 h2).mono ?_; rintro e w1 ⟨rfl, hb1⟩; (first | replace hb := Ext.trans hb hb1 | replace hb := Ext.trans (Ext.trans hb (Ext.drewN _ _)) hb1 | replace hb := Ext.trans (Ext.trans hb (Ext.alloc _ _)) hb1 | have hb := hb1); clear hb1; obtain ⟨hc1, hf1⟩ := hb.old)
      | (go_at_call 39; refine (isMode_is _ _ _ HM.out).mono ?_; rintro e w1 ⟨rfl, hb1⟩; (first | replace hb := Ext.trans hb hb1 | replace hb := Ext.trans (Ext.trans hb (Ext.drewN _ _)) hb1 | replace hb := Ext.trans (Ext.trans hb (Ext.alloc _ _)) hb1 | have hb := hb1); clear hb1; obtain ⟨hc1, hf1⟩ := hb.old))
    have hL := fun (x : Later _) => (Ext.trans hb x.ext).old.1
    refine wp_region_later (by kernel_rfl) (by kernel_rfl) ?_
    repeat (go_big_quiet_step ((first | (go_at_call 49; exact Calls.later (rescale_any _ _ _ _ x1 x2 (by omega) (by omega) m1 m2)) | (go_at_call 38; exact Calls.later (saturate_any _ _ _ _ g1 g2)))))
    refine wpQuiet_nil ?_
    intro w2 hw2
    replace hb := Ext.trans hb (Later.of hw2)
    clear hw2 hL
    obtain ⟨hc, hf⟩ := hb.old
    go_wp2
    go_ret3
    exact ⟨by rw [HR.out]; rfl, (by repeat (first | exact Ext.refl _ | assumption | exact Ext.alloc _ _ | refine Ext.trans ?_ (by assumption) | refine Ext.trans ?_ (Ext.alloc _ _) | refine Ext.trans ?_ (Ext.drewN _ _) | refine Ext.trans ?_ (Ext.drew _)))⟩
  · have HR := Lib.hid (conv_bad hc)
    by_cases hf : chkF fb fs = 0
    · by_cases ht : chkF tb ts = 0
      · obtain ⟨h1, h2, h3, h4⟩ := chk_of hf
        by_cases hx : inB fb x = true
        · have hm : okM m = false := by
            cases h : okM m with
            | false => rfl
            | true => exact absurd ⟨hf, ht, hx, h⟩ hc
          have HF := Lib.hid hf; clear hf
          have HT := Lib.hid ht; clear ht
          have HM := Lib.hid hm; clear hm hc
          go_enter Try.func33, Try.ntmps33
          go_wp2_with (first
            | (go_at_call 19; refine (check_ok _ _ _ (by first | exact HF.out | exact HT.out)).mono ?_; rintro e w1 ⟨rfl, hb1⟩; (first | replace hb := Ext.trans hb hb1 | replace hb := Ext.trans (Ext.trans hb (Ext.drewN _ _)) hb1 | replace hb := Ext.trans (Ext.trans hb (Ext.alloc _ _)) hb1 | have hb := hb1); clear hb1; obtain ⟨hc1, hf1⟩ := hb.old)
            | (go_at_call 48; refine (isWord_any _ _ _ _ h1 h2).mono ?_; rintro e w1 ⟨rfl, hb1⟩; (first | replace hb := Ext.trans hb hb1 | replace hb := Ext.trans (Ext.trans hb (Ext.drewN _ _)) hb1 | replace hb := Ext.trans (Ext.trans hb (Ext.alloc _ _)) hb1 | have hb := hb1); clear hb1; obtain ⟨hc1, hf1⟩ := hb.old)
            | (go_at_call 39; refine (isMode_is _ _ _ HM.out).mono ?_; rintro e w1 ⟨rfl, hb1⟩; (first | replace hb := Ext.trans hb hb1 | replace hb := Ext.trans (Ext.trans hb (Ext.drewN _ _)) hb1 | replace hb := Ext.trans (Ext.trans hb (Ext.alloc _ _)) hb1 | have hb := hb1); clear hb1; obtain ⟨hc1, hf1⟩ := hb.old))
          go_ret3
          exact ⟨by rw [HR.out]; rfl, (by repeat (first | exact Ext.refl _ | assumption | exact Ext.alloc _ _ | refine Ext.trans ?_ (by assumption) | refine Ext.trans ?_ (Ext.alloc _ _) | refine Ext.trans ?_ (Ext.drewN _ _) | refine Ext.trans ?_ (Ext.drew _)))⟩
        · replace hx : inB fb x = false := by simpa using hx
          have HF := Lib.hid hf; clear hf
          have HT := Lib.hid ht; clear ht hc
          go_enter Try.func33, Try.ntmps33
          go_wp2_with (first
            | (go_at_call 19; refine (check_ok _ _ _ (by first | exact HF.out | exact HT.out)).mono ?_; rintro e w1 ⟨rfl, hb1⟩; (first | replace hb := Ext.trans hb hb1 | replace hb := Ext.trans (Ext.trans hb (Ext.drewN _ _)) hb1 | replace hb := Ext.trans (Ext.trans hb (Ext.alloc _ _)) hb1 | have hb := hb1); clear hb1; obtain ⟨hc1, hf1⟩ := hb.old)
            | (go_at_call 48; refine (isWord_any _ _ _ _ h1 h2).mono ?_; rintro e w1 ⟨rfl, hb1⟩; (first | replace hb := Ext.trans hb hb1 | replace hb := Ext.trans (Ext.trans hb (Ext.drewN _ _)) hb1 | replace hb := Ext.trans (Ext.trans hb (Ext.alloc _ _)) hb1 | have hb := hb1); clear hb1; obtain ⟨hc1, hf1⟩ := hb.old))
          go_ret3
          exact ⟨by rw [HR.out]; rfl, (by repeat (first | exact Ext.refl _ | assumption | exact Ext.alloc _ _ | refine Ext.trans ?_ (by assumption) | refine Ext.trans ?_ (Ext.alloc _ _) | refine Ext.trans ?_ (Ext.drewN _ _) | refine Ext.trans ?_ (Ext.drew _)))⟩
      · have HF := Lib.hid hf; clear hf
        have HT := Lib.hid ht; clear ht hc
        go_enter Try.func33, Try.ntmps33
        go_wp2_with fail
        refine (check_ok _ _ _ HF.out).mono ?_
        rintro e w1 ⟨rfl, hb⟩
        obtain ⟨hc1, hf1⟩ := hb.old
        go_wp2_with (first
          | (go_at_call 19; refine (check_bad _ _ _ HT.out).mono ?_; rintro e w1 ⟨rfl, hb1⟩; (first | replace hb := Ext.trans hb hb1 | replace hb := Ext.trans (Ext.trans hb (Ext.drewN _ _)) hb1 | replace hb := Ext.trans (Ext.trans hb (Ext.alloc _ _)) hb1 | have hb := hb1); clear hb1; obtain ⟨hc1, hf1⟩ := hb.old))
        go_ret3
        exact ⟨by rw [HR.out]; rfl, (by repeat (first | exact Ext.refl _ | assumption | exact Ext.alloc _ _ | refine Ext.trans ?_ (by assumption) | refine Ext.trans ?_ (Ext.alloc _ _) | refine Ext.trans ?_ (Ext.drewN _ _) | refine Ext.trans ?_ (Ext.drew _)))⟩
    · have HF := Lib.hid hf; clear hf hc
      go_enter Try.func33, Try.ntmps33
      go_wp2_with (first
        | (go_at_call 19; refine (check_bad _ _ _ HF.out).mono ?_; rintro e w1 ⟨rfl, hb1⟩; (first | replace hb := Ext.trans hb hb1 | replace hb := Ext.trans (Ext.trans hb (Ext.drewN _ _)) hb1 | replace hb := Ext.trans (Ext.trans hb (Ext.alloc _ _)) hb1 | have hb := hb1); clear hb1; obtain ⟨hc1, hf1⟩ := hb.old))
      go_ret3
      exact ⟨by rw [HR.out]; rfl, (by repeat (first | exact Ext.refl _ | assumption | exact Ext.alloc _ _ | refine Ext.trans ?_ (by assumption) | refine Ext.trans ?_ (Ext.alloc _ _) | refine Ext.trans ?_ (Ext.drewN _ _) | refine Ext.trans ?_ (Ext.drew _)))⟩

/-- What clips alike. -/
theorem clip_lt {b z : Int} (h : z < loW b) : clipF b z = loW b ∧ cutF b z = true := by
  have e : clipF b z = loW b := by unfold clipF; rw [if_pos h]
  refine ⟨e, ?_⟩
  unfold cutF; rw [e]; simp; omega

theorem clip_far {tb x : Int} {i j : Nat} (g2 : tb ≤ 32) (hi : ¬ (-4294967296 < x * 2 ^ i ∧ x * 2 ^ i < 4294967296)) (hx0 : ¬ x = 0) (bx : -2147483648 ≤ x ∧ x ≤ 2147483647) (hj : i ≤ j ∨ j = 32) :
    clipF tb (x * 2 ^ i) = clipF tb (x * 2 ^ j) ∧ cutF tb (x * 2 ^ i) = cutF tb (x * 2 ^ j) := by
  have hp := powW tb g2
  have p1 := pow_pos i
  have p2 := pow_pos j
  have big : ∀ z : Int, 0 < x → 2147483648 ≤ z → clipF tb z = hiW tb ∧ cutF tb z = true := fun z _ hz => clip_gt (by unfold hiW; omega)
  have small : ∀ z : Int, x < 0 → z < -2147483648 → clipF tb z = loW tb ∧ cutF tb z = true := fun z _ hz => clip_lt (by unfold loW; omega)
  by_cases hx : 0 < x
  · have h0 : 0 ≤ x * 2 ^ i := Int.mul_nonneg (by omega) (by omega)
    have h1 : 4294967296 ≤ x * 2 ^ i := by omega
    have h2 : 2147483648 ≤ x * 2 ^ j := by
      rcases hj with hj | hj
      · have := Int.mul_le_mul_of_nonneg_left (pow_le hj) (show 0 ≤ x by omega); omega
      · subst hj
        have := Int.mul_le_mul_of_nonneg_right (show 1 ≤ x by omega) (show (0 : Int) ≤ 2 ^ 32 by decide)
        have e : (2 : Int) ^ 32 = 4294967296 := by decide
        omega
    obtain ⟨a1, a2⟩ := big _ hx (show 2147483648 ≤ x * 2 ^ i by omega)
    obtain ⟨b1, b2⟩ := big _ hx h2
    exact ⟨a1.trans b1.symm, a2.trans b2.symm⟩
  · have hx' : x < 0 := by omega
    have h0 : x * 2 ^ i ≤ 0 := Int.mul_nonpos_of_nonpos_of_nonneg (by omega) (by omega)
    have h1 : x * 2 ^ i ≤ -4294967296 := by omega
    have h2 : x * 2 ^ j < -2147483648 := by
      rcases hj with hj | hj
      · have := Int.mul_le_mul_of_nonpos_left (show x ≤ 0 by omega) (pow_le hj)
        omega
      · subst hj
        have := Int.mul_le_mul_of_nonneg_right (show x ≤ -1 by omega) (show (0 : Int) ≤ 2 ^ 32 by decide)
        have e : (2 : Int) ^ 32 = 4294967296 := by decide
        omega
    obtain ⟨a1, a2⟩ := small _ hx' (show x * 2 ^ i < -2147483648 by omega)
    obtain ⟨b1, b2⟩ := small _ hx' h2
    exact ⟨a1.trans b1.symm, a2.trans b2.symm⟩

theorem isF_of {b s x : Int} (h : chkF b s = 0) (hx : inB b x = true) : isF b s x = true := by rw [isF_ok h, hx]

set_option maxRecDepth 100000 in
set_option maxHeartbeats 1000000 in
theorem rconvert_right (fb fs tb ts x m : Int) (w : World) (hc : convP fb fs tb ts x m) (hn : 0 ≤ fs - ts) :
    Calls Try.prog 34 #[fmt fb fs, fmt tb ts, I x, I m] w fun e w' => e = .returned (ref3 (convF fb fs tb ts x m)) ∧ Ext w w' := by
  have HR := Lib.hid (conv_ok hc)
  obtain ⟨hf, ht, hx, hm⟩ := hc
  obtain ⟨h1, h2, h3, h4⟩ := chk_of hf
  obtain ⟨g1, g2, g3, g4⟩ := chk_of ht
  obtain ⟨m1, m2⟩ := okM_of hm
  obtain ⟨x1, x2⟩ := inB_bd h2 hx
  have ix := isF_of hf hx
  have hf' : (chkF fb fs != 0) = false := by simpa using hf
  have ht' : (chkF tb ts != 0) = false := by simpa using ht
  have HI : Hid (In64 x) := ⟨by omega, by omega⟩
  have hneg : ¬ 0 < ts - fs := by omega
  have hq : Hid (resF (fs - ts) x m = rnd x (capN (fs - ts) 62) m) := resF_pos (by omega)
  have HM := Lib.hid hm; clear hm hf ht hx
  obtain ⟨k, hk⟩ : ∃ k, ts - fs = k := ⟨_, rfl⟩
  obtain ⟨j, hj⟩ : ∃ j, -k = j := ⟨_, rfl⟩
  have ej : fs - ts = j := by omega
  rw [ej] at HR hq hn
  have hj0 : 0 ≤ j := hn
  have hk0 : -128 ≤ k := by omega
  have hk1 : k ≤ 0 := by omega
  clear hneg ej hn
  by_cases hk2 : j ≤ 62
  · have HC : Hid (capN j 62 = j) := by show capN j 62 = j; unfold capN; rw [if_pos hk2]
    go_enter Try.func34, Try.ntmps34
    go_wp2_with (first
      | (go_at_call 15; refine (rcheck_any _ _ _).mono ?_; rintro e w1 ⟨rfl, hb1⟩; (first | replace hb := Ext.trans hb hb1 | replace hb := Ext.trans (Ext.trans hb (Ext.drewN _ _)) hb1 | replace hb := Ext.trans (Ext.trans hb (Ext.alloc _ _)) hb1 | have hb := hb1); clear hb1; obtain ⟨hc1, hf1⟩ := hb.old)
      | (go_at_call 44; refine (is_any _ _ _ _).mono ?_; rintro e w1 ⟨rfl, hb1⟩; (first | replace hb := Ext.trans hb hb1 | replace hb := Ext.trans (Ext.trans hb (Ext.drewN _ _)) hb1 | replace hb := Ext.trans (Ext.trans hb (Ext.alloc _ _)) hb1 | have hb := hb1); clear hb1; obtain ⟨hc1, hf1⟩ := hb.old)
      | (go_at_call 41; refine (mode_is _ _ _ HM.out).mono ?_; rintro e w1 ⟨rfl, hb1⟩; (first | replace hb := Ext.trans hb hb1 | replace hb := Ext.trans (Ext.trans hb (Ext.drewN _ _)) hb1 | replace hb := Ext.trans (Ext.trans hb (Ext.alloc _ _)) hb1 | have hb := hb1); clear hb1; obtain ⟨hc1, hf1⟩ := hb.old))
    have hL := fun (x : Later _) => (Ext.trans hb x.ext).old.1
    refine wp_region_later (by kernel_rfl) (by kernel_rfl) ?_
    repeat (go_big_quiet_step ((first | (go_at_call 42; exact Calls.later (rround_any _ _ _ _ HI.out hj0 hk2 m1 m2)) | (go_at_call 20; exact Calls.later (rclip_any _ _ _ _ g1 g2)))))
    refine wpQuiet_nil ?_
    intro w2 hw2
    replace hb := Ext.trans hb (Later.of hw2)
    clear hw2 hL
    obtain ⟨hc, hf⟩ := hb.old
    go_wp2
    go_ret3
    exact ⟨by rw [HR.out, hq.out, HC.out]; rfl, (by repeat (first | exact Ext.refl _ | assumption | exact Ext.alloc _ _ | refine Ext.trans ?_ (by assumption) | refine Ext.trans ?_ (Ext.alloc _ _) | refine Ext.trans ?_ (Ext.drewN _ _) | refine Ext.trans ?_ (Ext.drew _)))⟩
  · have HC : Hid (capN j 62 = 62) := by show capN j 62 = 62; unfold capN; rw [if_neg hk2]
    go_enter Try.func34, Try.ntmps34
    go_wp2_with (first
      | (go_at_call 15; refine (rcheck_any _ _ _).mono ?_; rintro e w1 ⟨rfl, hb1⟩; (first | replace hb := Ext.trans hb hb1 | replace hb := Ext.trans (Ext.trans hb (Ext.drewN _ _)) hb1 | replace hb := Ext.trans (Ext.trans hb (Ext.alloc _ _)) hb1 | have hb := hb1); clear hb1; obtain ⟨hc1, hf1⟩ := hb.old)
      | (go_at_call 44; refine (is_any _ _ _ _).mono ?_; rintro e w1 ⟨rfl, hb1⟩; (first | replace hb := Ext.trans hb hb1 | replace hb := Ext.trans (Ext.trans hb (Ext.drewN _ _)) hb1 | replace hb := Ext.trans (Ext.trans hb (Ext.alloc _ _)) hb1 | have hb := hb1); clear hb1; obtain ⟨hc1, hf1⟩ := hb.old)
      | (go_at_call 41; refine (mode_is _ _ _ HM.out).mono ?_; rintro e w1 ⟨rfl, hb1⟩; (first | replace hb := Ext.trans hb hb1 | replace hb := Ext.trans (Ext.trans hb (Ext.drewN _ _)) hb1 | replace hb := Ext.trans (Ext.trans hb (Ext.alloc _ _)) hb1 | have hb := hb1); clear hb1; obtain ⟨hc1, hf1⟩ := hb.old))
    have hL := fun (x : Later _) => (Ext.trans hb x.ext).old.1
    refine wp_region_later (by kernel_rfl) (by kernel_rfl) ?_
    repeat (go_big_quiet_step ((first | (go_at_call 42; exact Calls.later (rround_any _ _ _ _ HI.out (by decide) (by decide) m1 m2)) | (go_at_call 20; exact Calls.later (rclip_any _ _ _ _ g1 g2)))))
    refine wpQuiet_nil ?_
    intro w2 hw2
    replace hb := Ext.trans hb (Later.of hw2)
    clear hw2 hL
    obtain ⟨hc, hf⟩ := hb.old
    go_wp2
    go_ret3
    exact ⟨by rw [HR.out, hq.out, HC.out]; rfl, (by repeat (first | exact Ext.refl _ | assumption | exact Ext.alloc _ _ | refine Ext.trans ?_ (by assumption) | refine Ext.trans ?_ (Ext.alloc _ _) | refine Ext.trans ?_ (Ext.drewN _ _) | refine Ext.trans ?_ (Ext.drew _)))⟩

set_option maxRecDepth 100000 in
set_option maxHeartbeats 1000000 in
theorem rconvert_left (fb fs tb ts x m : Int) (w : World) (hc : convP fb fs tb ts x m) (hn : fs - ts < 0) :
    Calls Try.prog 34 #[fmt fb fs, fmt tb ts, I x, I m] w fun e w' => e = .returned (ref3 (convF fb fs tb ts x m)) ∧ Ext w w' := by
  have HR := Lib.hid (conv_ok hc)
  obtain ⟨hf, ht, hx, hm⟩ := hc
  obtain ⟨h1, h2, h3, h4⟩ := chk_of hf
  obtain ⟨g1, g2, g3, g4⟩ := chk_of ht
  obtain ⟨m1, m2⟩ := okM_of hm
  obtain ⟨x1, x2⟩ := inB_bd h2 hx
  have ix := isF_of hf hx
  have hf' : (chkF fb fs != 0) = false := by simpa using hf
  have ht' : (chkF tb ts != 0) = false := by simpa using ht
  have HM := Lib.hid hm; clear hm hf ht hx
  have hq : Hid (resF (fs - ts) x m = x * 2 ^ (capN (-(fs - ts)) 32).toNat) := resF_neg hn
  obtain ⟨k, hk⟩ : ∃ k, ts - fs = k := ⟨_, rfl⟩
  have ek : -(fs - ts) = k := by omega
  rw [ek] at hq
  have hk0 : 0 < k := by omega
  have hk1 : k ≤ 128 := by omega
  -- where the loop ends, the word is the same
  have FIN : ∀ i : Nat, (i : Int) ≤ k → ((i : Int) = k ∨ x * 2 ^ i = 0 ∨ ¬ (-1099511627776 < x * 2 ^ i ∧ x * 2 ^ i < 1099511627776)) → clipF tb (x * 2 ^ i) = clipF tb (resF (fs - ts) x m) ∧ cutF tb (x * 2 ^ i) = cutF tb (resF (fs - ts) x m) := by
    intro i hi hend
    rw [hq.out]
    have hp := pow_pos i
    by_cases hx0 : x = 0
    · subst hx0; simp
    have hnz : ¬ x * 2 ^ i = 0 := by
      intro h; rcases Int.mul_eq_zero.1 h with h | h
      · exact hx0 h
      · omega
    by_cases hk32 : k ≤ 32
    · have ec : capN k 32 = k := by unfold capN; rw [if_pos hk32]
      rw [ec]
      rcases hend with he | he | he
      · rw [← he]; simp
      · exact absurd he hnz
      · exact clip_far g2 (by omega) hx0 ⟨x1, x2⟩ (.inl (by omega))
    · have ec : capN k 32 = 32 := by unfold capN; rw [if_neg hk32]
      rw [ec]
      rcases hend with he | he | he
      · refine clip_far g2 ?_ hx0 ⟨x1, x2⟩ (.inr rfl)
        have h33 := pow_le (j := 32) (k := i) (by omega)
        have e : (2 : Int) ^ 32 = 4294967296 := by decide
        rw [e] at h33
        by_cases hpos : 0 < x
        · have := Int.mul_le_mul_of_nonneg_right (show 1 ≤ x by omega) (show (0 : Int) ≤ 2 ^ i by omega); omega
        · have := Int.mul_le_mul_of_nonneg_right (show x ≤ -1 by omega) (show (0 : Int) ≤ 2 ^ i by omega); omega
      · exact absurd he hnz
      · exact clip_far g2 (by omega) hx0 ⟨x1, x2⟩ (.inr rfl)
  have FIN := Lib.hid FIN
  have DBL := Lib.hid (fun i : Nat => show x * 2 ^ i * 2 = x * 2 ^ (i + 1) by rw [Int.pow_succ, Int.mul_assoc])
  clear ek hq
  go_enter Try.func34, Try.ntmps34
  go_wp2_with (first
    | (go_at_call 15; refine (rcheck_any _ _ _).mono ?_; rintro e w1 ⟨rfl, hb1⟩; (first | replace hb := Ext.trans hb hb1 | replace hb := Ext.trans (Ext.trans hb (Ext.drewN _ _)) hb1 | replace hb := Ext.trans (Ext.trans hb (Ext.alloc _ _)) hb1 | have hb := hb1); clear hb1; obtain ⟨hc1, hf1⟩ := hb.old)
    | (go_at_call 44; refine (is_any _ _ _ _).mono ?_; rintro e w1 ⟨rfl, hb1⟩; (first | replace hb := Ext.trans hb hb1 | replace hb := Ext.trans (Ext.trans hb (Ext.drewN _ _)) hb1 | replace hb := Ext.trans (Ext.trans hb (Ext.alloc _ _)) hb1 | have hb := hb1); clear hb1; obtain ⟨hc1, hf1⟩ := hb.old)
    | (go_at_call 41; refine (mode_is _ _ _ HM.out).mono ?_; rintro e w1 ⟨rfl, hb1⟩; (first | replace hb := Ext.trans hb hb1 | replace hb := Ext.trans (Ext.trans hb (Ext.drewN _ _)) hb1 | replace hb := Ext.trans (Ext.trans hb (Ext.alloc _ _)) hb1 | have hb := hb1); clear hb1; obtain ⟨hc1, hf1⟩ := hb.old))
  go_loop [14, 15] (fun y c => ∃ i : Nat, c = I i ∧ y = I (x * 2 ^ i) ∧ (i : Int) ≤ k ∧ -2199023255552 ≤ x * 2 ^ i ∧ x * 2 ^ i ≤ 2199023255552) (fun _ c => (k - intOf c).toNat)
  case atStart => exact ⟨0, rfl, by simp, by omega, by simp; omega, by simp; omega⟩
  case round =>
    obtain ⟨i, rfl, rfl, hi, z1, z2⟩ := hrel
    have dbl := DBL.out i
    have hp := pow_pos (i + 1)
    by_cases hik : (i : Int) < k
    · by_cases hz : x * 2 ^ i = 0
      · have hz' : (x * 2 ^ i == 0) = true := by simpa using hz
        have hz'' : (x * 2 ^ i != 0) = false := by simpa using hz
        have HE := Lib.hid (FIN.out i hi (.inr (.inl hz)))
        clear hz dbl
        go_wp2_with (first | (go_at_call 20; refine (rclip_any _ _ _ _ g1 g2).mono ?_; rintro e w1 ⟨rfl, hb1⟩; (first | replace hb := Ext.trans hb hb1 | replace hb := Ext.trans (Ext.trans hb (Ext.drewN _ _)) hb1 | replace hb := Ext.trans (Ext.trans hb (Ext.alloc _ _)) hb1 | have hb := hb1); clear hb1; obtain ⟨hc1, hf1⟩ := hb.old))
        go_ret3
        exact ⟨by rw [HR.out, ← HE.out.1, ← HE.out.2]; rfl, (by repeat (first | exact Ext.refl _ | assumption | exact Ext.alloc _ _ | refine Ext.trans ?_ (by assumption) | refine Ext.trans ?_ (Ext.alloc _ _) | refine Ext.trans ?_ (Ext.drewN _ _) | refine Ext.trans ?_ (Ext.drew _)))⟩
      · have hz' : (x * 2 ^ i == 0) = false := by simpa using hz
        have hz'' : (x * 2 ^ i != 0) = true := by simpa using hz
        clear hz
        by_cases hlo : -1099511627776 < x * 2 ^ i
        · by_cases hhi : x * 2 ^ i < 1099511627776
          · go_wp2
            go_round
            case rel => exact ⟨i + 1, by go_num, by rw [← DBL.out i], by omega, by omega, by omega⟩
            case measure => simp [intOf]; omega
          · have HE := Lib.hid (FIN.out i hi (.inr (.inr (by omega))))
            clear dbl
            go_wp2_with (first | (go_at_call 20; refine (rclip_any _ _ _ _ g1 g2).mono ?_; rintro e w1 ⟨rfl, hb1⟩; (first | replace hb := Ext.trans hb hb1 | replace hb := Ext.trans (Ext.trans hb (Ext.drewN _ _)) hb1 | replace hb := Ext.trans (Ext.trans hb (Ext.alloc _ _)) hb1 | have hb := hb1); clear hb1; obtain ⟨hc1, hf1⟩ := hb.old))
            go_ret3
            exact ⟨by rw [HR.out, ← HE.out.1, ← HE.out.2]; rfl, (by repeat (first | exact Ext.refl _ | assumption | exact Ext.alloc _ _ | refine Ext.trans ?_ (by assumption) | refine Ext.trans ?_ (Ext.alloc _ _) | refine Ext.trans ?_ (Ext.drewN _ _) | refine Ext.trans ?_ (Ext.drew _)))⟩
        · have HE := Lib.hid (FIN.out i hi (.inr (.inr (by omega))))
          clear dbl
          go_wp2_with (first | (go_at_call 20; refine (rclip_any _ _ _ _ g1 g2).mono ?_; rintro e w1 ⟨rfl, hb1⟩; (first | replace hb := Ext.trans hb hb1 | replace hb := Ext.trans (Ext.trans hb (Ext.drewN _ _)) hb1 | replace hb := Ext.trans (Ext.trans hb (Ext.alloc _ _)) hb1 | have hb := hb1); clear hb1; obtain ⟨hc1, hf1⟩ := hb.old))
          go_ret3
          exact ⟨by rw [HR.out, ← HE.out.1, ← HE.out.2]; rfl, (by repeat (first | exact Ext.refl _ | assumption | exact Ext.alloc _ _ | refine Ext.trans ?_ (by assumption) | refine Ext.trans ?_ (Ext.alloc _ _) | refine Ext.trans ?_ (Ext.drewN _ _) | refine Ext.trans ?_ (Ext.drew _)))⟩
    · have HE := Lib.hid (FIN.out i hi (.inl (by omega)))
      clear dbl
      go_wp2_with (first | (go_at_call 20; refine (rclip_any _ _ _ _ g1 g2).mono ?_; rintro e w1 ⟨rfl, hb1⟩; (first | replace hb := Ext.trans hb hb1 | replace hb := Ext.trans (Ext.trans hb (Ext.drewN _ _)) hb1 | replace hb := Ext.trans (Ext.trans hb (Ext.alloc _ _)) hb1 | have hb := hb1); clear hb1; obtain ⟨hc1, hf1⟩ := hb.old))
      go_ret3
      exact ⟨by rw [HR.out, ← HE.out.1, ← HE.out.2]; rfl, (by repeat (first | exact Ext.refl _ | assumption | exact Ext.alloc _ _ | refine Ext.trans ?_ (by assumption) | refine Ext.trans ?_ (Ext.alloc _ _) | refine Ext.trans ?_ (Ext.drewN _ _) | refine Ext.trans ?_ (Ext.drew _)))⟩

set_option maxRecDepth 100000 in
set_option maxHeartbeats 1000000 in
theorem rconvert_bad (fb fs tb ts x m : Int) (w : World) (hc : ¬ convP fb fs tb ts x m) :
    Calls Try.prog 34 #[fmt fb fs, fmt tb ts, I x, I m] w fun e w' => e = .returned (ref3 (convF fb fs tb ts x m)) ∧ Ext w w' := by
  have HR := Lib.hid (conv_bad hc)
  by_cases hf : chkF fb fs = 0
  · have hf' : (chkF fb fs != 0) = false := by simpa using hf
    by_cases ht : chkF tb ts = 0
    · have ht' : (chkF tb ts != 0) = false := by simpa using ht
      by_cases hx : inB fb x = true
      · have hm : okM m = false := by
          cases h : okM m with
          | false => rfl
          | true => exact absurd ⟨hf, ht, hx, h⟩ hc
        have ix := isF_of hf hx
        have HM := Lib.hid hm; clear hm hc hf ht hx
        go_enter Try.func34, Try.ntmps34
        go_wp2_with (first
          | (go_at_call 15; refine (rcheck_any _ _ _).mono ?_; rintro e w1 ⟨rfl, hb1⟩; (first | replace hb := Ext.trans hb hb1 | replace hb := Ext.trans (Ext.trans hb (Ext.drewN _ _)) hb1 | replace hb := Ext.trans (Ext.trans hb (Ext.alloc _ _)) hb1 | have hb := hb1); clear hb1; obtain ⟨hc1, hf1⟩ := hb.old)
          | (go_at_call 44; refine (is_any _ _ _ _).mono ?_; rintro e w1 ⟨rfl, hb1⟩; (first | replace hb := Ext.trans hb hb1 | replace hb := Ext.trans (Ext.trans hb (Ext.drewN _ _)) hb1 | replace hb := Ext.trans (Ext.trans hb (Ext.alloc _ _)) hb1 | have hb := hb1); clear hb1; obtain ⟨hc1, hf1⟩ := hb.old)
          | (go_at_call 41; refine (mode_is _ _ _ HM.out).mono ?_; rintro e w1 ⟨rfl, hb1⟩; (first | replace hb := Ext.trans hb hb1 | replace hb := Ext.trans (Ext.trans hb (Ext.drewN _ _)) hb1 | replace hb := Ext.trans (Ext.trans hb (Ext.alloc _ _)) hb1 | have hb := hb1); clear hb1; obtain ⟨hc1, hf1⟩ := hb.old))
        go_ret3
        exact ⟨by rw [HR.out]; rfl, (by repeat (first | exact Ext.refl _ | assumption | exact Ext.alloc _ _ | refine Ext.trans ?_ (by assumption) | refine Ext.trans ?_ (Ext.alloc _ _) | refine Ext.trans ?_ (Ext.drewN _ _) | refine Ext.trans ?_ (Ext.drew _)))⟩
      · have ix : isF fb fs x = false := by rw [isF_ok hf]; simpa using hx
        clear hc hf ht hx
        go_enter Try.func34, Try.ntmps34
        go_wp2_with (first
          | (go_at_call 15; refine (rcheck_any _ _ _).mono ?_; rintro e w1 ⟨rfl, hb1⟩; (first | replace hb := Ext.trans hb hb1 | replace hb := Ext.trans (Ext.trans hb (Ext.drewN _ _)) hb1 | replace hb := Ext.trans (Ext.trans hb (Ext.alloc _ _)) hb1 | have hb := hb1); clear hb1; obtain ⟨hc1, hf1⟩ := hb.old)
          | (go_at_call 44; refine (is_any _ _ _ _).mono ?_; rintro e w1 ⟨rfl, hb1⟩; (first | replace hb := Ext.trans hb hb1 | replace hb := Ext.trans (Ext.trans hb (Ext.drewN _ _)) hb1 | replace hb := Ext.trans (Ext.trans hb (Ext.alloc _ _)) hb1 | have hb := hb1); clear hb1; obtain ⟨hc1, hf1⟩ := hb.old))
        go_ret3
        exact ⟨by rw [HR.out]; rfl, (by repeat (first | exact Ext.refl _ | assumption | exact Ext.alloc _ _ | refine Ext.trans ?_ (by assumption) | refine Ext.trans ?_ (Ext.alloc _ _) | refine Ext.trans ?_ (Ext.drewN _ _) | refine Ext.trans ?_ (Ext.drew _)))⟩
    · have ht' : (chkF tb ts != 0) = true := by simpa using ht
      clear hc hf ht
      go_enter Try.func34, Try.ntmps34
      go_wp2_with (first
        | (go_at_call 15; refine (rcheck_any _ _ _).mono ?_; rintro e w1 ⟨rfl, hb1⟩; (first | replace hb := Ext.trans hb hb1 | replace hb := Ext.trans (Ext.trans hb (Ext.drewN _ _)) hb1 | replace hb := Ext.trans (Ext.trans hb (Ext.alloc _ _)) hb1 | have hb := hb1); clear hb1; obtain ⟨hc1, hf1⟩ := hb.old))
      go_ret3
      exact ⟨by rw [HR.out]; rfl, (by repeat (first | exact Ext.refl _ | assumption | exact Ext.alloc _ _ | refine Ext.trans ?_ (by assumption) | refine Ext.trans ?_ (Ext.alloc _ _) | refine Ext.trans ?_ (Ext.drewN _ _) | refine Ext.trans ?_ (Ext.drew _)))⟩
  · have hf' : (chkF fb fs != 0) = true := by simpa using hf
    clear hc hf
    go_enter Try.func34, Try.ntmps34
    go_wp2_with (first
      | (go_at_call 15; refine (rcheck_any _ _ _).mono ?_; rintro e w1 ⟨rfl, hb1⟩; (first | replace hb := Ext.trans hb hb1 | replace hb := Ext.trans (Ext.trans hb (Ext.drewN _ _)) hb1 | replace hb := Ext.trans (Ext.trans hb (Ext.alloc _ _)) hb1 | have hb := hb1); clear hb1; obtain ⟨hc1, hf1⟩ := hb.old))
    go_ret3
    exact ⟨by rw [HR.out]; rfl, (by repeat (first | exact Ext.refl _ | assumption | exact Ext.alloc _ _ | refine Ext.trans ?_ (by assumption) | refine Ext.trans ?_ (Ext.alloc _ _) | refine Ext.trans ?_ (Ext.drewN _ _) | refine Ext.trans ?_ (Ext.drew _)))⟩

theorem rconvert_any (fb fs tb ts x m : Int) (w : World) :
    Calls Try.prog 34 #[fmt fb fs, fmt tb ts, I x, I m] w fun e w' => e = .returned (ref3 (convF fb fs tb ts x m)) ∧ Ext w w' := by
  by_cases hc : convP fb fs tb ts x m
  · by_cases hn : fs - ts < 0
    · exact rconvert_left fb fs tb ts x m w hc hn
    · exact rconvert_right fb fs tb ts x m w hc (by omega)
  · exact rconvert_bad fb fs tb ts x m w hc

end Go.Proofs.Ytfllhbebackbdaa
