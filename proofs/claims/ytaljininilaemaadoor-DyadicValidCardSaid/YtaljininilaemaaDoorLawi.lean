/- The law DyadicInts. -/
import Derived.Test.YtaljininilaemaaDoorFlr
import Derived.Test.YtaljininilaemaaDoorDyn
import Derived.Test.YtaljininilaemaaDoorLawo
import Derived.Test.YtaljininilaemaaDoorIntb
import Derived.Test.YtaljininilaemaaDoorIntc
namespace Go.Proofs.YtaljininilaemaaDoor
open Go.RowKit

theorem clamp_in' {s : Int} (h : -65536 ≤ s) (h2 : s ≤ 65536) : clampN s = s := by unfold clampN; omega
theorem shiftD_pos' {d : DV} {s : Int} {K : Nat} (h : 0 ≤ clampN s) (hK : (clampN s).toNat = K) : shiftD d s = mkD d.neg (d.m * 2 ^ K) d.den := by unfold shiftD; rw [if_neg (by omega), hK]
theorem int_any {w : World} {neg : Bool} {A A' : Option Addr} {n c c' : Nat} {den : Int} {d : DV} (h : Dy w neg A n c den d A' c') (hT : Tabs w) : Calls Tryd.prog 13 #[dv neg A n c den] w fun e w' => e = .returned (.tuple #[I (if isI d then ivD d else 0), .bool (isI d)]) ∧ Ext w w' := by
  by_cases hi : isI d = true
  · cases hn : d.neg with
    | false => exact int_fy h hT hn hi
    | true => exact int_ty h hT hn hi
  · cases hn : d.neg with
    | false => exact int_fn h hT hn hi
    | true => exact int_tn h hT hn hi

theorem same_zz0 {w : World} {A B : Option Addr} {c k : Nat} : Calls Tryd.prog 16 #[dv false A 0 c 0, dv false B 0 k 0] w fun e w' => e = .returned (.bool true) ∧ Ext w w' := by
  have := same_true (w := w) (d := DV.zero) (A := A) (B := B) (ca := c) (cb := k) (by rw [zero_len]; exact fun h => absurd h (Nat.lt_irrefl 0)) (by rw [zero_len]; exact fun h => absurd h (Nat.lt_irrefl 0)) (by rw [zero_len]; decide)
  rw [zero_len] at this
  exact this
theorem rnumber_two (neg : Bool) (g lo hi m : Nat) (w : World) (hg : g < w.heap.size) (h0 : w.cell? ⟨g, 0, none⟩ = some (U4 lo)) (h1 : w.cell? ⟨g, 1, none⟩ = some (U4 hi)) (hlo : lo < 4294967296) (hhi : hi < 4294967296) (hm : lo + hi * 4294967296 = m) :
    Calls Tryd.prog 63 #[.bool neg, .slice (some ⟨g, 0, none⟩) 2 2, I 0] w (DyRes (mkD neg m 0) w) := by
  have h := rnumber_any neg (some ⟨g, 0, none⟩) 2 2 0 m (fun i => if i = 0 then lo else hi) w (fun _ => ⟨g, 0, rfl, hg, fun i hi2 => by
      have : i = 0 ∨ i = 1 := by omega
      rcases this with rfl | rfl
      · exact h0
      · exact h1⟩) ⟨Nat.le_refl _, by unfold maxLen; omega, fun e => by cases e⟩ (fun i hi2 => by
      have : i = 0 ∨ i = 1 := by omega
      rcases this with rfl | rfl
      · exact hlo
      · exact hhi) (by
      rw [← hm]
      show 0 + _ * pB 0 + _ * pB 1 = _
      have e1 : pB 1 = 4294967296 := by unfold pB; rw [Nat.pow_one]
      rw [pB_zero, e1]
      simp) (by omega) (by omega)
  exact h

theorem make_D (n : Int) (k : Nat) (hk : k ≤ 65536) : mkD (ofI n 0).neg (ofI n 0).m k = ofI n k := by
  by_cases h : n.natAbs = 0
  · have : n = 0 := by omega
    subst this
    have h0 : ofI 0 0 = DV.zero := by unfold ofI; rw [mkD_small (by decide)]; exact nrm_zero _ _
    rw [h0]
    unfold ofI
    rw [mkD_small hk, mkD_small hk]
    exact (nrm_zero _ _).trans (nrm_zero _ _).symm
  · have h0 : ofI n 0 = ⟨decide (n < 0), n.natAbs, 0⟩ := by unfold ofI; rw [mkD_small (by decide), nrm0 h]
    rw [h0]; rfl

set_option maxHeartbeats 400000 in
theorem num_nil0 (w : World) : Calls Tryd.prog 27 #[.nilIface] w fun e w' => e = .returned (I 0) ∧ w = w' := by
  go_enter Tryd.func27, Tryd.ntmps27
  go_wp2
  go_ret
  exact ⟨rfl, rfl⟩
theorem q_ofI (n : Int) : (ofI n 0).q = (n : Rat) := by
  unfold ofI
  rw [q_mkD _ _ (by decide)]
  unfold qOf
  rw [qp_zero]
  by_cases h : n < 0
  · obtain ⟨m, rfl⟩ : ∃ m : Nat, n = -(m : Int) := ⟨n.natAbs, by omega⟩
    have hc : ((m : Int) : Rat) = ((m : Nat) : Rat) := by first | rfl | exact Rat.intCast_natCast m
    rw [decide_eq_true h, if_pos rfl]
    simp [hc]
    try grind
  · obtain ⟨m, rfl⟩ : ∃ m : Nat, n = (m : Int) := ⟨n.natAbs, by omega⟩
    have hc : ((m : Int) : Rat) = ((m : Nat) : Rat) := by first | rfl | exact Rat.intCast_natCast m
    rw [decide_eq_false h, if_neg (by decide)]
    simp [hc]
    try grind
theorem add_ofI (a b : Int) : addD (ofI a 0) (ofI b 0) = ofI (a + b) 0 := DV.uniq (addD_ok _ _) (ofI_ok _ _) (by rw [q_addD (ofI_ok _ _) (ofI_ok _ _), q_ofI, q_ofI, q_ofI]; simp)
theorem den_ofI (n : Int) : (ofI n 0).den = 0 := Nat.le_zero.1 (den_le _ _ _ (by decide))
theorem mul_ofI (a b : Int) : mulD (ofI a 0) (ofI b 0) = ofI (a * b) 0 := DV.uniq (mulD_ok _ _) (ofI_ok _ _) (by rw [q_mulD (by rw [den_ofI, den_ofI]; decide), q_ofI, q_ofI, q_ofI]; simp)
theorem isI_ofI {n : Int} (h1 : -9223372036854775808 ≤ n) (h2 : n ≤ 9223372036854775807) : (if isI (ofI n 0) = true then ivD (ofI n 0) else 0) = n ∧ isI (ofI n 0) = true := by
  obtain ⟨e1, e2⟩ := eq_ofI (v := n) (d := ofI n 0) rfl
  have hi : isI (ofI n 0) = true := decide_eq_true ⟨e1, by omega, by omega⟩
  exact ⟨by rw [if_pos hi]; exact e2, hi⟩
theorem qOf_up (neg : Bool) (m k den : Nat) : qOf neg (m * 2 ^ k) den = qp k * qOf neg m den := by
  unfold qOf
  have : ((m * 2 ^ k : Nat) : Rat) = (m : Rat) * qp k := by unfold qp; exact Rat.natCast_mul _ _
  rw [this]
  cases neg <;> simp <;> grind
theorem up_ofI (n : Int) (k : Nat) (hk : k ≤ 65536) : cmpD (shiftD (ofI n k) (k : Int)) (ofI n 0) = 0 := by
  rw [cmpD_sgn (shiftD_ok _ _) (ofI_ok _ _)]
  have hc : clampN (k : Int) = (k : Int) := clamp_in' (by omega) (by omega)
  have e1 : shiftD (ofI n k) (k : Int) = mkD (ofI n k).neg ((ofI n k).m * 2 ^ k) (ofI n k).den := shiftD_pos' (by omega) (by rw [hc]; simp)
  have e2 : (shiftD (ofI n k) (k : Int)).q = qp k * (ofI n k).q := by
    rw [e1, q_mkD _ _ (ofI_ok n k).2.1, qOf_up]; rfl
  have e3 : (ofI n k).q = qOf (decide (n < 0)) n.natAbs k := by unfold ofI; rw [q_mkD _ _ hk]
  have e4 : (ofI n 0).q = qOf (decide (n < 0)) n.natAbs 0 := by unfold ofI; rw [q_mkD _ _ (by decide)]
  have e5 := qOf_shift (decide (n < 0)) n.natAbs 0 k
  rw [Nat.zero_add, qOf_up] at e5
  rw [e2, e3, e4, e5, show ∀ r : Rat, r - r = 0 from fun r => by grind, sgn_zero]
theorem half_bound {x : Int} (h1 : -9223372036854775808 ≤ x) (h2 : x ≤ 9223372036854775807) : -4611686018427387904 ≤ x.tdiv 2 ∧ x.tdiv 2 ≤ 4611686018427387903 := by
  by_cases h : 0 ≤ x
  · rw [Int.tdiv_eq_ediv_of_nonneg h]; omega
  · have e := Int.neg_tdiv (-x) 2
    rw [Int.neg_neg] at e
    have e2 := Int.tdiv_eq_ediv_of_nonneg (a := -x) (b := 2) (by omega)
    rw [e, e2]; omega
theorem rest_bound (x : Int) : -2147483647 ≤ x.tmod 2147483648 ∧ x.tmod 2147483648 ≤ 2147483647 := by
  have h := Int.natAbs_tmod x 2147483648
  have : (x.tmod 2147483648).natAbs ≤ 2147483647 := by
    rw [h, show (2147483648 : Int).natAbs = 2147483648 from rfl]; exact Nat.le_of_lt_succ (Nat.mod_lt _ (by decide))
  omega
theorem len_ofI {n : Int} (k : Nat) (h1 : -9223372036854775808 ≤ n) (h2 : n ≤ 9223372036854775807) : len (ofI n k).m ≤ 2 := Nat.le_trans (len_mono (mkD_m_le _ _ _)) (len_abs h1 h2)

set_option maxHeartbeats 400000 in
theorem num_err0 (k : Int) (w : World) : Calls Tryd.prog 27 #[.iface 57 (I k)] w fun e w' => e = .returned (I k) ∧ w = w' := by
  have ta := run_assert_int (P := Tryd.prog) (xT := 29) (v := I k) (w := w) Tryd.underlying57
  go_enter Tryd.func27, Tryd.ntmps27
  go_wp2
  go_ret
  exact ⟨rfl, rfl⟩

end Go.Proofs.YtaljininilaemaaDoor
