/- The sum of Dot, in two words. -/
import Derived.Test.YtfllhbebackbdaaWordo
import Derived.Laws.Externs
namespace Go.Proofs.Ytfllhbebackbdaa
open Go.RowKit

def M64 : Int := 18446744073709551616
def plusLo (lo ux : Int) : Int := (lo + ux) % M64
def plusC (lo ux : Int) : Int := (lo + ux) / M64

theorem run_add64_here (x y : Nat) (w : World) :
    (callFunc 54 #[U x, U y, U 0]).run Try.prog w = .ok (.value (.tuple #[U (((x + y) % 18446744073709551616 : Nat) : Int), U (((x + y) / 18446744073709551616 : Nat) : Int)])) w := by
  rw [run_callFunc_extern Try.func54 (by kernel_rfl) (by kernel_rfl) (by kernel_rfl) (e := add64Entry) (by kernel_rfl)]
  rfl

theorem add64_at (lo ux : Int) (h1 : 0 ≤ lo) (h2 : 0 ≤ ux) (w : World) :
    (callFunc 54 #[U lo, U ux, U 0]).run Try.prog w = .ok (.value (.tuple #[U (plusLo lo ux), U (plusC lo ux)])) w := by
  obtain ⟨a, rfl⟩ := Int.eq_ofNat_of_zero_le h1
  obtain ⟨b, rfl⟩ := Int.eq_ofNat_of_zero_le h2
  have := run_add64_here a b w
  rw [this]
  simp [plusLo, plusC, M64]

abbrev totV (S : Int) : Value := .agg #[I (S / M64), U (S % M64)]
theorem u64_wrap (x : Int) : IntKind.u64.wrap x = x % M64 := by
  rw [IntKind.wrap_u64]; rfl
theorem plus_hi {S x : Int} (hx : In64 x) (s1 : -604462909807314587353088 ≤ S) (s2 : S ≤ 604462909807314587353088) :
    wrap64 (wrap64 (S / M64 + x / 9223372036854775808) + wrap64 (plusC (S % M64) (x % M64))) = (S + x) / M64 := by
  obtain ⟨h1, h2⟩ := hx
  unfold plusC M64
  have a : wrap64 (S / 18446744073709551616 + x / 9223372036854775808) = S / 18446744073709551616 + x / 9223372036854775808 := wrap_id (by omega) (by omega)
  have c : wrap64 ((S % 18446744073709551616 + x % 18446744073709551616) / 18446744073709551616) = (S % 18446744073709551616 + x % 18446744073709551616) / 18446744073709551616 := wrap_id (by omega) (by omega)
  rw [a, c, wrap_id (by omega) (by omega)]
  omega
theorem plus_lo {S x : Int} : plusLo (S % M64) (x % M64) = (S + x) % M64 := by
  unfold plusLo M64; omega

set_option maxHeartbeats 400000 in
theorem plus_any (S x : Int) (w : World) (hx : In64 x) (s1 : -604462909807314587353088 ≤ S) (s2 : S ≤ 604462909807314587353088) :
    Calls Try.prog 51 #[totV S, I x] w fun e w' => e = .returned (totV (S + x)) ∧ Ext w w' := by
  obtain ⟨ux, hu⟩ : ∃ u, IntKind.u64.wrap x = u := ⟨_, rfl⟩
  have hu0 : 0 ≤ ux := by rw [← hu, u64_wrap]; unfold M64; omega
  have eu : Hid (ux = x % M64) := hu.symm.trans (u64_wrap x)
  obtain ⟨lo, hlo⟩ : ∃ u, S % M64 = u := ⟨_, rfl⟩
  obtain ⟨hi, hhi⟩ : ∃ u, S / M64 = u := ⟨_, rfl⟩
  have h1 : 0 ≤ lo := by rw [← hlo]; unfold M64; omega
  have H1 : Hid (wrap64 (wrap64 (hi + x / 9223372036854775808) + wrap64 (plusC lo ux)) = (S + x) / M64) := by
    show wrap64 (wrap64 (hi + x / 9223372036854775808) + wrap64 (plusC lo ux)) = (S + x) / M64
    rw [← hhi, ← hlo, eu.out]; exact plus_hi hx s1 s2
  have H2 : Hid (plusLo lo ux = (S + x) % M64) := by
    show plusLo lo ux = (S + x) % M64
    rw [← hlo, eu.out]; exact plus_lo
  have hadd := add64_at lo ux h1 hu0
  clear hx s1 s2 eu
  show Calls Try.prog 51 #[.agg #[I (S / M64), U (S % M64)], I x] w fun e w' => e = .returned (totV (S + x)) ∧ Ext w w'
  rw [hlo, hhi]
  clear hlo hhi
  go_enter Try.func51, Try.ntmps51
  go_wp2
  refine bodyPost_ret (v := .agg #[I (wrap64 (wrap64 (hi + x / 9223372036854775808) + wrap64 (plusC lo ux))), U (plusLo lo ux)]) (by simp [results, Try.results51, go_sem]) rfl ⟨by rw [H1.out, H2.out], (by repeat (first | exact Ext.refl _ | assumption | exact Ext.alloc _ _ | refine Ext.trans ?_ (by assumption) | refine Ext.trans ?_ (Ext.alloc _ _) | refine Ext.trans ?_ (Ext.drewN _ _) | refine Ext.trans ?_ (Ext.drew _)))⟩

/-- The words of a sum, shifted and joined. -/
def joinF (lo hi n : Int) : Int := wrap64 (bits BinOp.or IntKind.u64 (lo / 2 ^ n.toNat) (IntKind.u64.wrap (IntKind.u64.wrap hi * 2 ^ (64 - n).toNat)))
def tsrQ (S n : Int) : Int :=
  if S / M64 / 2 ^ n.toNat = joinF (S % M64) (S / M64) n / 9223372036854775808 then (if joinF (S % M64) (S / M64) n ≤ 4611686018427387904 then joinF (S % M64) (S / M64) n else 4611686018427387904)
  else if S / M64 / 2 ^ n.toNat < 0 then -4611686018427387904 else 4611686018427387904
def tsr (S n m : Int) : Int := rndQ m (tsrQ S n) (S % 2 ^ n.toNat) (2 ^ n.toNat)

theorem rest_fact (S : Int) (k : Nat) (hk : k ≤ 62) : bits BinOp.and .i64 (wrap64 (S % M64)) (2 ^ k - 1) = S % 2 ^ k := by
  rw [and_mask hk]
  have h1 : wrap64 (S % M64) % M64 = S % M64 := by unfold wrap64 M64; omega
  have hd : ((2 : Int) ^ k) ∣ M64 := ⟨2 ^ (64 - k), by rw [← Int.pow_add, show k + (64 - k) = 64 by omega]; rfl⟩
  rw [← Int.emod_emod_of_dvd (wrap64 (S % M64)) hd, h1, Int.emod_emod_of_dvd S hd]

theorem wrap64_bd (x : Int) : -9223372036854775808 ≤ wrap64 x ∧ wrap64 x ≤ 9223372036854775807 := by unfold wrap64; omega

set_option maxRecDepth 100000 in
set_option maxHeartbeats 1000000 in
theorem tshift_any (S n m : Int) (w : World) (n1 : 0 ≤ n) (n2 : n ≤ 62) (m1 : 0 ≤ m) (m2 : m ≤ 3) :
    Calls Try.prog 52 #[totV S, I n, I m] w fun e w' => e = .returned (I (tsr S n m)) ∧ Ext w w' := by
  have p1 := pow_pos n.toNat
  have p2 := pow62 (k := n.toNat) (by omega)
  have r0 : 0 ≤ S % 2 ^ n.toNat := Int.emod_nonneg _ (by omega)
  have r1 : S % 2 ^ n.toNat < 2 ^ n.toNat := Int.emod_lt_of_pos _ (by omega)
  have hR : Hid (tsr S n m = rndQ m (tsrQ S n) (S % 2 ^ n.toNat) (2 ^ n.toNat)) := rfl
  have hrest := rest_fact S n.toNat (by omega)
  have hQ : Hid (∀ F h : Int, joinF (S % M64) (S / M64) n = F → S / M64 / 2 ^ n.toNat = h → tsrQ S n = if h = F / 9223372036854775808 then (if F ≤ 4611686018427387904 then F else 4611686018427387904) else if h < 0 then -4611686018427387904 else 4611686018427387904) := by
    intro F h e1 e2; unfold tsrQ; rw [e1, e2]
  obtain ⟨R, eR⟩ : ∃ u, S % 2 ^ n.toNat = u := ⟨_, rfl⟩
  obtain ⟨lo, hlo⟩ : ∃ u, S % M64 = u := ⟨_, rfl⟩
  obtain ⟨hi, hhi⟩ : ∃ u, S / M64 = u := ⟨_, rfl⟩
  have l0 : 0 ≤ lo := by rw [← hlo]; unfold M64; omega
  rw [hlo, hhi] at hQ
  rw [eR] at r0 r1 hR hrest
  rw [hlo] at hrest
  obtain ⟨F, hF⟩ : ∃ u, wrap64 (bits BinOp.or IntKind.u64 (lo / 2 ^ n.toNat) (IntKind.u64.wrap (IntKind.u64.wrap hi * 2 ^ (64 - n).toNat))) = u := ⟨_, rfl⟩
  have f1 : -9223372036854775808 ≤ F := by rw [← hF]; exact (wrap64_bd _).1
  obtain ⟨h, hh⟩ : ∃ u, hi / 2 ^ n.toNat = u := ⟨_, rfl⟩
  replace hQ := Lib.hid (hQ.out F h hF hh)
  show Calls Try.prog 52 #[.agg #[I (S / M64), U (S % M64)], I n, I m] w fun e w' => e = .returned (I (tsr S n m)) ∧ Ext w w'
  rw [hlo, hhi]
  have HS := Lib.hid (show tsr S n m = rndQ m (tsrQ S n) R (2 ^ n.toNat) from hR.out)
  clear hlo hhi hR eR
  by_cases hc : h = F / 9223372036854775808
  · have hc1 : (h != F / 9223372036854775808) = false := by rw [hc]; simp
    have HC := Lib.hid hc; clear hc
    by_cases hf : F ≤ 4611686018427387904
    · have HV : Hid (tsr S n m = rndQ m F R (2 ^ n.toNat)) := by show tsr S n m = _; rw [HS.out, hQ.out, if_pos HC.out, if_pos hf]
      have hl : ¬ 4611686018427387904 < F := by omega
      obtain hlt | heq : F < 4611686018427387904 ∨ F = 4611686018427387904 := by omega
      · go_enter Try.func52, Try.ntmps52
        go_wp2_with fail
        go_quiet (fail)
        go_wp2_with (first | (go_at_call 53; refine (round_any _ _ _ _ _ r0 r1 p2 m1 m2 f1 (.inr hf)).mono ?_; rintro e w1 ⟨rfl, hb1⟩; (first | replace hb := Ext.trans hb hb1 | replace hb := Ext.trans (Ext.trans hb (Ext.drewN _ _)) hb1 | replace hb := Ext.trans (Ext.trans hb (Ext.alloc _ _)) hb1 | have hb := hb1); clear hb1; obtain ⟨hc1, hf1⟩ := hb.old))
        go_ret
        exact ⟨by rw [HV.out]; rfl, (by repeat (first | exact Ext.refl _ | assumption | exact Ext.alloc _ _ | refine Ext.trans ?_ (by assumption) | refine Ext.trans ?_ (Ext.alloc _ _) | refine Ext.trans ?_ (Ext.drewN _ _) | refine Ext.trans ?_ (Ext.drew _)))⟩
      · subst heq
        go_enter Try.func52, Try.ntmps52
        go_wp2_with fail
        go_quiet (fail)
        go_wp2_with (first | (go_at_call 53; refine (round_any _ _ _ _ _ r0 r1 p2 m1 m2 f1 (.inr hf)).mono ?_; rintro e w1 ⟨rfl, hb1⟩; (first | replace hb := Ext.trans hb hb1 | replace hb := Ext.trans (Ext.trans hb (Ext.drewN _ _)) hb1 | replace hb := Ext.trans (Ext.trans hb (Ext.alloc _ _)) hb1 | have hb := hb1); clear hb1; obtain ⟨hc1, hf1⟩ := hb.old))
        all_goals (go_ret; exact ⟨by rw [HV.out]; rfl, (by repeat (first | exact Ext.refl _ | assumption | exact Ext.alloc _ _ | refine Ext.trans ?_ (by assumption) | refine Ext.trans ?_ (Ext.alloc _ _) | refine Ext.trans ?_ (Ext.drewN _ _) | refine Ext.trans ?_ (Ext.drew _)))⟩)
    · have HV : Hid (tsr S n m = rndQ m 4611686018427387904 R (2 ^ n.toNat)) := by show tsr S n m = _; rw [HS.out, hQ.out, if_pos HC.out, if_neg hf]
      have hl : 4611686018427387904 < F := by omega
      go_enter Try.func52, Try.ntmps52
      go_wp2_with fail
      go_quiet (fail)
      go_wp2_with (first | (go_at_call 53; refine (round_any _ _ _ _ _ r0 r1 p2 m1 m2 (by decide) (.inr (by decide))).mono ?_; rintro e w1 ⟨rfl, hb1⟩; (first | replace hb := Ext.trans hb hb1 | replace hb := Ext.trans (Ext.trans hb (Ext.drewN _ _)) hb1 | replace hb := Ext.trans (Ext.trans hb (Ext.alloc _ _)) hb1 | have hb := hb1); clear hb1; obtain ⟨hc1, hf1⟩ := hb.old))
      go_ret
      exact ⟨by rw [HV.out]; rfl, (by repeat (first | exact Ext.refl _ | assumption | exact Ext.alloc _ _ | refine Ext.trans ?_ (by assumption) | refine Ext.trans ?_ (Ext.alloc _ _) | refine Ext.trans ?_ (Ext.drewN _ _) | refine Ext.trans ?_ (Ext.drew _)))⟩
  · have hc1 : (h != F / 9223372036854775808) = true := by simpa using hc
    have HC := Lib.hid hc; clear hc
    by_cases hf : h < 0
    · have HV : Hid (tsr S n m = rndQ m (-4611686018427387904) R (2 ^ n.toNat)) := by show tsr S n m = _; rw [HS.out, hQ.out, if_neg HC.out, if_pos hf]
      go_enter Try.func52, Try.ntmps52
      go_wp2_with fail
      go_quiet (fail)
      go_wp2_with (first | (go_at_call 53; refine (round_any _ _ _ _ _ r0 r1 p2 m1 m2 (by decide) (.inr (by decide))).mono ?_; rintro e w1 ⟨rfl, hb1⟩; (first | replace hb := Ext.trans hb hb1 | replace hb := Ext.trans (Ext.trans hb (Ext.drewN _ _)) hb1 | replace hb := Ext.trans (Ext.trans hb (Ext.alloc _ _)) hb1 | have hb := hb1); clear hb1; obtain ⟨hc1, hf1⟩ := hb.old))
      go_ret
      exact ⟨by rw [HV.out]; rfl, (by repeat (first | exact Ext.refl _ | assumption | exact Ext.alloc _ _ | refine Ext.trans ?_ (by assumption) | refine Ext.trans ?_ (Ext.alloc _ _) | refine Ext.trans ?_ (Ext.drewN _ _) | refine Ext.trans ?_ (Ext.drew _)))⟩
    · have HV : Hid (tsr S n m = rndQ m 4611686018427387904 R (2 ^ n.toNat)) := by show tsr S n m = _; rw [HS.out, hQ.out, if_neg HC.out, if_neg hf]
      go_enter Try.func52, Try.ntmps52
      go_wp2_with fail
      go_quiet (fail)
      go_wp2_with (first | (go_at_call 53; refine (round_any _ _ _ _ _ r0 r1 p2 m1 m2 (by decide) (.inr (by decide))).mono ?_; rintro e w1 ⟨rfl, hb1⟩; (first | replace hb := Ext.trans hb hb1 | replace hb := Ext.trans (Ext.trans hb (Ext.drewN _ _)) hb1 | replace hb := Ext.trans (Ext.trans hb (Ext.alloc _ _)) hb1 | have hb := hb1); clear hb1; obtain ⟨hc1, hf1⟩ := hb.old))
      go_ret
      exact ⟨by rw [HV.out]; rfl, (by repeat (first | exact Ext.refl _ | assumption | exact Ext.alloc _ _ | refine Ext.trans ?_ (by assumption) | refine Ext.trans ?_ (Ext.alloc _ _) | refine Ext.trans ?_ (Ext.drewN _ _) | refine Ext.trans ?_ (Ext.drew _)))⟩

end Go.Proofs.Ytfllhbebackbdaa
