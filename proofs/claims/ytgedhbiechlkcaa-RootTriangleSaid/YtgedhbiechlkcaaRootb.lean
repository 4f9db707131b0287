/- Contracts of package root: the roots. -/
import Derived.Test.YtgedhbiechlkcaaRows
import Derived.Test.YtgedhbiechlkcaaRoota
import Derived.WalkSpells
import Derived.WalkLawsBesides
namespace Go.Proofs.Ytgedhbiechlkcaa
open Go.RowKit

abbrev U (n : Int) : Value := .int .u64 n

theorem half0 : (2 : Int) ^ 0 / 2 = 0 := by decide
theorem half1 (k : Nat) : (2 : Int) ^ (k + 1) / 2 = 2 ^ k := by rw [two_succ]; omega
theorem pow32 {k : Nat} (h : k ≤ 31) : (2 : Int) ^ k ≤ 2147483648 := by have := pow_le h; simpa using this
theorem rtG_yes {n r : Int} {k : Nat} (h : (r + 2 ^ k) * (r + 2 ^ k) ≤ n) : rtG n (k + 1) r = rtG n k (r + 2 ^ k) := by rw [rtG, if_pos h]
theorem rtG_no {n r : Int} {k : Nat} (h : ¬ (r + 2 ^ k) * (r + 2 ^ k) ≤ n) : rtG n (k + 1) r = rtG n k r := by rw [rtG, if_neg h]

set_option maxHeartbeats 400000 in
theorem sqrt_neg (n : Int) (w : World) (h : n < 0) : Calls Try.prog 12 #[I n] w fun e w' => e = .returned (I (rt n)) ∧ Ext w w' := by
  have H := Lib.hid (rt_neg h)
  go_enter Try.func12, Try.ntmps12
  go_wp2
  go_ret
  exact ⟨by rw [H.out]; rfl, Ext.refl _⟩

set_option maxRecDepth 100000 in
set_option maxHeartbeats 1000000 in
theorem sqrt_any (n : Int) (w : World) (hn : n ≤ 9223372036854775807) : Calls Try.prog 12 #[I n] w fun e w' => e = .returned (I (rt n)) ∧ Ext w w' := by
  by_cases h0 : n < 0
  · exact sqrt_neg n w h0
  have hu : IntKind.u64.wrap n = n := by show n % 18446744073709551616 = n; omega
  have HR : Hid (rtG n 32 0 = rt n) := by show rtG n 32 0 = rt n; unfold rt; rw [if_neg h0]
  obtain ⟨b1, b2⟩ := rt_bd hn
  generalize rt n = v at *
  go_enter Try.func12, Try.ntmps12
  go_wp2_with fail
  go_loopw [4, 5] (fun r b wr => w = wr ∧ ∃ (k : Nat) (x : Int), k ≤ 32 ∧ 0 ≤ x ∧ x + 2 ^ k ≤ 4294967296 ∧ rtG n k x = v ∧ r = U x ∧ b = U (2 ^ k / 2)) (fun _ b _ => (intOf b).toNat)
  case atStart => exact ⟨rfl, 32, 0, by omega, by omega, by decide, HR.out, rfl, rfl⟩
  case round =>
    obtain ⟨rfl, k, x, hk, x0, x1, hx, rfl, rfl⟩ := hrel
    cases k with
    | zero =>
      rw [half0]
      have hx : x = v := hx
      subst hx
      have hw : wrap64 x = x := wrap_id (by omega) (by omega)
      go_wp2_with fail
      go_ret
      exact ⟨rfl, Ext.refl _⟩
    | succ k =>
      rw [half1]
      have p1 := pow_pos k
      have p2 := pow32 (k := k) (by omega)
      rw [two_succ] at x1
      have HX := Lib.hid hx; clear hx
      have HY := Lib.hid (fun h => rtG_yes (n := n) (r := x) (k := k) h)
      have HN := Lib.hid (fun h => rtG_no (n := n) (r := x) (k := k) h)
      have HD : Hid (∀ b : Int, 2 ^ k = b → 0 < b → (0:Int) ≤ b / 2 ∧ b / 2 < b) := fun b _ hb => by omega
      have HE : Hid ((2 : Int) ^ k = 2 ^ k) := rfl
      generalize hb : (2 : Int) ^ k = b at *
      have h1 : (x + b) * (x + b) ≤ 4294967295 * 4294967295 := sq_le (by omega) (by omega)
      have h2 : 0 ≤ (x + b) * (x + b) := Int.mul_nonneg (by omega) (by omega)
      by_cases hc : (x + b) * (x + b) ≤ n
      · have HV := Lib.hid ((HY.out hc).symm.trans HX.out)
        clear HY HN HX
        go_wp2_with fail
        go_roundw
        case rel => exact ⟨trivial, k, x + b, by omega, by omega, by rw [hb]; omega, HV.out, by go_num, by rw [hb]⟩
        case measure => simp [intOf]; omega
      · have HV := Lib.hid ((HN.out hc).symm.trans HX.out)
        clear HY HN HX
        go_wp2_with fail
        go_roundw
        case rel => exact ⟨trivial, k, x, by omega, by omega, by rw [hb]; omega, HV.out, by go_num, by rw [hb]⟩
        case measure => simp [intOf]; omega

theorem rt0 {n : Int} (h : n ≤ 0) : rt n = 0 := by
  by_cases h2 : n < 0
  · exact rt_neg h2
  · obtain rfl : n = 0 := by omega
    exact rt_is (by omega) ⟨by omega, by omega, by omega⟩

set_option maxRecDepth 100000 in
set_option maxHeartbeats 1000000 in
theorem rsqrt_any (n : Int) (w : World) (hn : n ≤ 9223372036854775807) : Calls Try.prog 13 #[I n] w fun e w' => e = .returned (I (rt n)) ∧ Ext w w' := by
  by_cases h0 : n ≤ 0
  · have H := Lib.hid (rt0 h0)
    go_enter Try.func13, Try.ntmps13
    go_wp2
    go_ret
    exact ⟨by rw [H.out]; rfl, Ext.refl _⟩
  have HR : Hid (rtG n 32 0 = rt n) := by show rtG n 32 0 = rt n; unfold rt; rw [if_neg (by omega)]
  obtain ⟨b1, b2⟩ := rt_bd hn
  generalize rt n = v at *
  go_enter Try.func13, Try.ntmps13
  go_wp2_with fail
  go_loopw [3, 4] (fun r b wr => w = wr ∧ ∃ (k : Nat) (x : Int), k ≤ 32 ∧ 0 ≤ x ∧ x + 2 ^ k ≤ 4294967296 ∧ rtG n k x = v ∧ r = I x ∧ b = I (2 ^ k / 2)) (fun _ b _ => (intOf b).toNat)
  case atStart => exact ⟨rfl, 32, 0, by omega, by omega, by decide, HR.out, rfl, rfl⟩
  case round =>
    obtain ⟨rfl, k, x, hk, x0, x1, hx, rfl, rfl⟩ := hrel
    cases k with
    | zero =>
      rw [half0]
      have hx : x = v := hx
      subst hx
      go_wp2_with fail
      go_ret
      exact ⟨rfl, Ext.refl _⟩
    | succ k =>
      rw [half1]
      have p1 := pow_pos k
      have p2 := pow32 (k := k) (by omega)
      rw [two_succ] at x1
      have HX := Lib.hid hx; clear hx
      have HY := Lib.hid (fun h => rtG_yes (n := n) (r := x) (k := k) h)
      have HN := Lib.hid (fun h => rtG_no (n := n) (r := x) (k := k) h)
      generalize hb : (2 : Int) ^ k = b at *
      by_cases h4 : x + b ≤ 3037000499
      · have h1 : (x + b) * (x + b) ≤ 3037000499 * 3037000499 := sq_le (by omega) (by omega)
        have h2 : 0 ≤ (x + b) * (x + b) := Int.mul_nonneg (by omega) (by omega)
        by_cases hc : (x + b) * (x + b) ≤ n
        · have HV := Lib.hid ((HY.out hc).symm.trans HX.out)
          clear HY HN HX
          go_wp2_with fail
          go_roundw
          case rel => exact ⟨trivial, k, x + b, by omega, by omega, by rw [hb]; omega, HV.out, by go_num, by rw [hb]⟩
          case measure => simp [intOf]; omega
        · have HV := Lib.hid ((HN.out hc).symm.trans HX.out)
          clear HY HN HX
          go_wp2_with fail
          go_roundw
          case rel => exact ⟨trivial, k, x, by omega, by omega, by rw [hb]; omega, HV.out, by go_num, by rw [hb]⟩
          case measure => simp [intOf]; omega
      · have h1 : 3037000500 * 3037000500 ≤ (x + b) * (x + b) := sq_le (by omega) (by omega)
        have HV := Lib.hid ((HN.out (by omega)).symm.trans HX.out)
        clear HY HN HX h1
        go_wp2_with fail
        go_roundw
        case rel => exact ⟨trivial, k, x, by omega, by omega, by rw [hb]; omega, HV.out, by go_num, by rw [hb]⟩
        case measure => simp [intOf]; omega

theorem up_yes {n : Int} (h : rt n * rt n < n) : up n = rt n + 1 := by unfold up; rw [if_pos h]
theorem up_no {n : Int} (h : ¬ rt n * rt n < n) : up n = rt n := by unfold up; rw [if_neg h]

set_option maxRecDepth 100000 in
set_option maxHeartbeats 1000000 in
theorem up_any (n : Int) (w : World) (hn : n ≤ 9223372036854775807) : Calls Try.prog 14 #[I n] w fun e w' => e = .returned (I (up n)) ∧ Ext w w' := by
  have HS := Lib.hid (fun w => sqrt_any n w hn)
  have HY := Lib.hid (fun h => up_yes (n := n) h)
  have HN := Lib.hid (fun h => up_no (n := n) h)
  obtain ⟨b1, b2⟩ := rt_bd hn
  generalize rt n = v at *
  generalize up n = u at *
  have h1 : v * v ≤ 3037000499 * 3037000499 := sq_le b1 b2
  have h2 : 0 ≤ v * v := Int.mul_nonneg b1 b1
  by_cases hc : v * v < n
  · have HV := Lib.hid (HY.out hc)
    clear HY HN
    go_enter Try.func14, Try.ntmps14
    go_wp2_with (first | (go_at_call 12; refine (HS.out _).mono ?_; rintro e w1 ⟨rfl, hb1⟩; (first | replace hb := Ext.trans hb hb1 | replace hb := Ext.trans (Ext.trans hb (Ext.drewN _ _)) hb1 | replace hb := Ext.trans (Ext.trans hb (Ext.alloc _ _)) hb1 | have hb := hb1); clear hb1; obtain ⟨hc1, hf1⟩ := hb.old))
    go_ret
    exact ⟨by rw [HV.out]; first | rfl | go_num, (by repeat (first | exact Ext.refl _ | assumption | exact Ext.alloc _ _ | refine Ext.trans ?_ (by assumption) | refine Ext.trans ?_ (Ext.alloc _ _) | refine Ext.trans ?_ (Ext.drewN _ _) | refine Ext.trans ?_ (Ext.drew _)))⟩
  · have HV := Lib.hid (HN.out hc)
    clear HY HN
    go_enter Try.func14, Try.ntmps14
    go_wp2_with (first | (go_at_call 12; refine (HS.out _).mono ?_; rintro e w1 ⟨rfl, hb1⟩; (first | replace hb := Ext.trans hb hb1 | replace hb := Ext.trans (Ext.trans hb (Ext.drewN _ _)) hb1 | replace hb := Ext.trans (Ext.trans hb (Ext.alloc _ _)) hb1 | have hb := hb1); clear hb1; obtain ⟨hc1, hf1⟩ := hb.old))
    go_ret
    exact ⟨by rw [HV.out]; rfl, (by repeat (first | exact Ext.refl _ | assumption | exact Ext.alloc _ _ | refine Ext.trans ?_ (by assumption) | refine Ext.trans ?_ (Ext.alloc _ _) | refine Ext.trans ?_ (Ext.drewN _ _) | refine Ext.trans ?_ (Ext.drew _)))⟩

set_option maxRecDepth 100000 in
set_option maxHeartbeats 1000000 in
theorem rup_any (n : Int) (w : World) (hn : n ≤ 9223372036854775807) : Calls Try.prog 15 #[I n] w fun e w' => e = .returned (I (up n)) ∧ Ext w w' := by
  have HS := Lib.hid (fun w => rsqrt_any n w hn)
  have HY := Lib.hid (fun h => up_yes (n := n) h)
  have HN := Lib.hid (fun h => up_no (n := n) h)
  have HZ := Lib.hid (fun h : n ≤ 0 => (up_neg h).trans (rt0 h).symm)
  obtain ⟨b1, b2⟩ := rt_bd hn
  generalize rt n = v at *
  generalize up n = u at *
  have h1 : v * v ≤ 3037000499 * 3037000499 := sq_le b1 b2
  have h2 : 0 ≤ v * v := Int.mul_nonneg b1 b1
  by_cases h0 : 0 < n
  · clear HZ
    by_cases hc : v * v < n
    · have HV := Lib.hid (HY.out hc)
      clear HY HN
      go_enter Try.func15, Try.ntmps15
      go_wp2_with (first | (go_at_call 13; refine (HS.out _).mono ?_; rintro e w1 ⟨rfl, hb1⟩; (first | replace hb := Ext.trans hb hb1 | replace hb := Ext.trans (Ext.trans hb (Ext.drewN _ _)) hb1 | replace hb := Ext.trans (Ext.trans hb (Ext.alloc _ _)) hb1 | have hb := hb1); clear hb1; obtain ⟨hc1, hf1⟩ := hb.old))
      go_ret
      exact ⟨by rw [HV.out]; first | rfl | go_num, (by repeat (first | exact Ext.refl _ | assumption | exact Ext.alloc _ _ | refine Ext.trans ?_ (by assumption) | refine Ext.trans ?_ (Ext.alloc _ _) | refine Ext.trans ?_ (Ext.drewN _ _) | refine Ext.trans ?_ (Ext.drew _)))⟩
    · have HV := Lib.hid (HN.out hc)
      clear HY HN
      go_enter Try.func15, Try.ntmps15
      go_wp2_with (first | (go_at_call 13; refine (HS.out _).mono ?_; rintro e w1 ⟨rfl, hb1⟩; (first | replace hb := Ext.trans hb hb1 | replace hb := Ext.trans (Ext.trans hb (Ext.drewN _ _)) hb1 | replace hb := Ext.trans (Ext.trans hb (Ext.alloc _ _)) hb1 | have hb := hb1); clear hb1; obtain ⟨hc1, hf1⟩ := hb.old))
      go_ret
      exact ⟨by rw [HV.out]; rfl, (by repeat (first | exact Ext.refl _ | assumption | exact Ext.alloc _ _ | refine Ext.trans ?_ (by assumption) | refine Ext.trans ?_ (Ext.alloc _ _) | refine Ext.trans ?_ (Ext.drewN _ _) | refine Ext.trans ?_ (Ext.drew _)))⟩
  · have HV := Lib.hid (HZ.out (by omega))
    clear HY HN HZ
    go_enter Try.func15, Try.ntmps15
    go_wp2_with (first | (go_at_call 13; refine (HS.out _).mono ?_; rintro e w1 ⟨rfl, hb1⟩; (first | replace hb := Ext.trans hb hb1 | replace hb := Ext.trans (Ext.trans hb (Ext.drewN _ _)) hb1 | replace hb := Ext.trans (Ext.trans hb (Ext.alloc _ _)) hb1 | have hb := hb1); clear hb1; obtain ⟨hc1, hf1⟩ := hb.old))
    go_ret
    exact ⟨by rw [HV.out]; rfl, (by repeat (first | exact Ext.refl _ | assumption | exact Ext.alloc _ _ | refine Ext.trans ?_ (by assumption) | refine Ext.trans ?_ (Ext.alloc _ _) | refine Ext.trans ?_ (Ext.drewN _ _) | refine Ext.trans ?_ (Ext.drew _)))⟩
end Go.Proofs.Ytgedhbiechlkcaa
