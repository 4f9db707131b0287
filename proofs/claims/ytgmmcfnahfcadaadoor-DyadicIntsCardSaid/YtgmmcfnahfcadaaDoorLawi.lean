/- The law DyadicInts. -/
import Derived.Test.YtgmmcfnahfcadaaDoorFlr
import Derived.Test.YtgmmcfnahfcadaaDoorDyn
import Derived.Test.YtgmmcfnahfcadaaDoorLawo
import Derived.Test.YtgmmcfnahfcadaaDoorIntb
import Derived.Test.YtgmmcfnahfcadaaDoorIntc
namespace Go.Proofs.YtgmmcfnahfcadaaDoor
open Go.RowKit

theorem clamp_in' {s : Int} (h : -65536 ≤ s) (h2 : s ≤ 65536) : clampN s = s := by unfold clampN; omega
theorem shiftD_pos' {d : DV} {s : Int} {K : Nat} (h : 0 ≤ clampN s) (hK : (clampN s).toNat = K) : shiftD d s = mkD d.neg (d.m * 2 ^ K) d.den := by unfold shiftD; rw [if_neg (by omega), hK]
theorem int_any {w : World} {neg : Bool} {A A' : Option Addr} {n c c' : Nat} {den : Int} {d : DV} (h : Dy w neg A n c den d A' c') (hT : Tabs w) : Calls Tryd.prog 18 #[dv neg A n c den] w fun e w' => e = .returned (.tuple #[I (if isI d then ivD d else 0), .bool (isI d)]) ∧ Ext w w' := by
  by_cases hi : isI d = true
  · cases hn : d.neg with
    | false => exact int_fy h hT hn hi
    | true => exact int_ty h hT hn hi
  · cases hn : d.neg with
    | false => exact int_fn h hT hn hi
    | true => exact int_tn h hT hn hi

theorem same_zz0 {w : World} {A B : Option Addr} {c k : Nat} : Calls Tryd.prog 21 #[dv false A 0 c 0, dv false B 0 k 0] w fun e w' => e = .returned (.bool true) ∧ Ext w w' := by
  have := same_true (w := w) (d := DV.zero) (A := A) (B := B) (ca := c) (cb := k) (by rw [zero_len]; exact fun h => absurd h (Nat.lt_irrefl 0)) (by rw [zero_len]; exact fun h => absurd h (Nat.lt_irrefl 0)) (by rw [zero_len]; decide)
  rw [zero_len] at this
  exact this
theorem rnumber_two (neg : Bool) (g lo hi m : Nat) (w : World) (hg : g < w.heap.size) (h0 : w.cell? ⟨g, 0, none⟩ = some (U4 lo)) (h1 : w.cell? ⟨g, 1, none⟩ = some (U4 hi)) (hlo : lo < 4294967296) (hhi : hi < 4294967296) (hm : lo + hi * 4294967296 = m) :
    Calls Tryd.prog 82 #[.bool neg, .slice (some ⟨g, 0, none⟩) 2 2, I 0] w (DyRes (mkD neg m 0) w) := by
  have h := rnumber_any neg (some ⟨g, 0, none⟩) 2 2 0 m (fun i => if i = 0 then lo else hi) w (fun _ => ⟨g, 0, rfl, hg, fun i hi2 => by
      have : i = 0 ∨ i = 1 := by omega
      rcases this with rfl | rfl
      · exact h0
      · exact h1⟩) ⟨Nat.le_refl _, by unfold maxLen; omega, fun e => by cases e⟩ (fun i hi2 => by
      have : i = 0 ∨ i = 1 := by omega
      rcases this with rfl | rfl
      · exact hlo
      · exact hhi) (by
      rw [← hm]
      show 0 + _ * pB 0 + _ * pB 1 = _
      have e1 : pB 1 = 4294967296 := by unfold pB; rw [Nat.pow_one]
      rw [pB_zero, e1]
      simp) (by omega) (by omega)
  exact h

set_option maxRecDepth 100000 in
set_option maxHeartbeats 1000000 in
theorem rof_any (n : Int) (w : World) (h1 : -9223372036854775808 ≤ n) (h2 : n ≤ 9223372036854775807) : Calls Tryd.prog 89 #[I n] w (DyRes (ofI n 0) w) := by
  have SB := Lib.hid (Bx.new w (.bool false) (.slice none 0 0) (I 0) 24)
  obtain ⟨m, hm⟩ : ∃ m, n.natAbs = m := ⟨_, rfl⟩
  obtain ⟨lo, hlo⟩ : ∃ x, m % 4294967296 = x := ⟨_, rfl⟩
  obtain ⟨hi, hhi⟩ : ∃ x, m / 4294967296 = x := ⟨_, rfl⟩
  have el : (m : Int) % 4294967296 = (lo : Int) := by omega
  have eh : (m : Int) / 4294967296 = (hi : Int) := by omega
  have hlb : lo < 4294967296 := by omega
  have hhb : hi < 4294967296 := by omega
  have eh2 : (hi : Int) % 4294967296 = (hi : Int) := by omega
  have hsum : Hid (lo + hi * 4294967296 = m) := by show _ = _; omega
  have HLO := Lib.hid hlb; have HHI := Lib.hid hhb
  by_cases hn : n < 0
  · have HD : Hid (mkD true m 0 = ofI n 0) := by show _ = _; unfold ofI; rw [hm, decide_eq_true hn]
    have e1 : -(n + 1) % 18446744073709551616 = -(n + 1) := by omega
    have e2 : -(n + 1) + 1 = (m : Int) := by omega
    obtain ⟨d', hd'⟩ : ∃ d', ofI n 0 = d' := ⟨_, rfl⟩
    rw [hd'] at HD ⊢
    clear hd' hm hlo hhi
    go_enter Tryd.func89, Tryd.ntmps89
    go_wp2_with (go_at_call 82; (with_reducible refine (rnumber_two true _ lo hi m _ (by go_simp) (by go_simp) (by go_simp) HLO.out HHI.out hsum.out).mono ?_); rw [HD.out]; rintro e w2 ⟨A2, c2, rfl, hon, hx⟩; obtain ⟨⟨r0, r1, r2⟩, rz⟩ := SB.out.ext ((Ext.alloc _ _).trans hx); have HO := Lib.hid hon; have HX := Lib.hid (((Ext.alloc _ _).trans (Ext.alloc _ _)).trans hx); clear hon hx)
    exact bodyPost_ret (v := dv d'.neg A2 (len d'.m) c2 d'.den) (by simp [results, Tryd.results89, go_sem, r0, r1, r2]) rfl (DyRes.end3 rfl HO.out HX.out (by simp; omega) (Nat.le_refl _) (by simp; omega))
  · have HD : Hid (mkD false m 0 = ofI n 0) := by show _ = _; unfold ofI; rw [hm, decide_eq_false hn]
    have e1 : n % 18446744073709551616 = (m : Int) := by omega
    have e2 : n = (m : Int) := by omega
    obtain ⟨d', hd'⟩ : ∃ d', ofI n 0 = d' := ⟨_, rfl⟩
    rw [hd'] at HD ⊢
    subst e2
    have e3 : ¬ (m : Int) < 0 := by omega
    clear hd' hm hlo hhi hn
    go_enter Tryd.func89, Tryd.ntmps89
    go_wp2_with (go_at_call 82; (with_reducible refine (rnumber_two false _ lo hi m _ (by go_simp) (by go_simp) (by go_simp) HLO.out HHI.out hsum.out).mono ?_); rw [HD.out]; rintro e w2 ⟨A2, c2, rfl, hon, hx⟩; obtain ⟨⟨r0, r1, r2⟩, rz⟩ := SB.out.ext ((Ext.alloc _ _).trans hx); have HO := Lib.hid hon; have HX := Lib.hid (((Ext.alloc _ _).trans (Ext.alloc _ _)).trans hx); clear hon hx)
    exact bodyPost_ret (v := dv d'.neg A2 (len d'.m) c2 d'.den) (by simp [results, Tryd.results89, go_sem, r0, r1, r2]) rfl (DyRes.end3 rfl HO.out HX.out (by simp; omega) (Nat.le_refl _) (by simp; omega))

theorem make_D (n : Int) (k : Nat) (hk : k ≤ 65536) : mkD (ofI n 0).neg (ofI n 0).m k = ofI n k := by
  by_cases h : n.natAbs = 0
  · have : n = 0 := by omega
    subst this
    have h0 : ofI 0 0 = DV.zero := by unfold ofI; rw [mkD_small (by decide)]; exact nrm_zero _ _
    rw [h0]
    unfold ofI
    rw [mkD_small hk, mkD_small hk]
    exact (nrm_zero _ _).trans (nrm_zero _ _).symm
  · have h0 : ofI n 0 = ⟨decide (n < 0), n.natAbs, 0⟩ := by unfold ofI; rw [mkD_small (by decide), nrm0 h]
    rw [h0]; rfl

set_option maxRecDepth 100000 in
set_option maxHeartbeats 1000000 in
theorem rmake_any (n : Int) (k : Nat) (w : World) (h1 : -9223372036854775808 ≤ n) (h2 : n ≤ 9223372036854775807) (hk : k ≤ 65536) : Calls Tryd.prog 52 #[I n, I k] w (DyNum (ofI n k) w) := by
  have SB := Lib.hid (Bx.new w (.bool false) (.slice none 0 0) (I 0) 24)
  have HM := Lib.hid (make_D n k hk)
  have lo := Nat.le_trans (len_mono (mkD_m_le (decide (n < 0)) n.natAbs 0)) (len_abs h1 h2)
  obtain ⟨d', hd'⟩ : ∃ d', ofI n k = d' := ⟨_, rfl⟩
  rw [hd'] at HM ⊢
  obtain ⟨o, ho⟩ : ∃ o, ofI n 0 = o := ⟨_, rfl⟩
  have lo2 : len o.m ≤ 2 := by rw [← ho]; exact lo
  rw [ho] at HM
  have HO := Lib.hid ho
  clear hd' ho lo
  go_enter Tryd.func52, Tryd.ntmps52
  go_wp2_with (first
    | (go_at_call 89; (with_reducible refine (rof_any n _ h1 h2).mono ?_); rw [HO.out]; rintro e w2 ⟨A2, c2, rfl, hon, hx⟩; have HON := Lib.hid hon; have HX := Lib.hid ((Ext.alloc _ _).trans hx); have SB2 := Lib.hid (SB.out.ext hx); have hs2 := hx.size; clear hon hx)
    | (go_at_call 82; (with_reducible refine (rnumber_of o.neg A2 c2 k o.m _ (HON.out.rd.ext (Ext.alloc _ _)) HON.out.ok (by omega) (by omega)).mono ?_); rw [HM.out]; rintro e w3 ⟨A3, c3, rfl, hon, hx⟩; obtain ⟨⟨r0, r1, r2⟩, rz⟩ := SB2.out.ext ((Ext.alloc _ _).trans hx); have HO3 := Lib.hid hon; have HX3 := Lib.hid ((HX.out.trans (Ext.alloc _ _)).trans hx); clear hon hx))
  have hlt := SB2.out.lt
  exact bodyPost_ret (v := .tuple #[dv d'.neg A3 (len d'.m) c3 d'.den, I 0]) (by simp [results, Tryd.results52, go_sem, r0, r1, r2]) rfl (DyNum.end3 rfl HO3.out HX3.out (by simp; omega) (Nat.le_refl _) (by simp; omega))

set_option maxRecDepth 100000 in
set_option maxHeartbeats 1000000 in
theorem rmake_err {w : World} (n s : Int) (hs : s < 0 ∨ 65536 < s) : Calls Tryd.prog 52 #[I n, I s] w fun e w' => e = .returned (.tuple #[dv false none 0 0 0, I 3]) ∧ Ext w w' := by
  rcases hs with hs | hs
  · go_enter Tryd.func52, Tryd.ntmps52
    go_wp2_with fail
    exact bodyPost_ret (v := .tuple #[dv false none 0 0 0, I 3]) (by simp [results, Tryd.results52, go_sem]) rfl ⟨rfl, by repeat (first | exact Ext.alloc _ _ | refine Ext.set ?_ (by omega) _)⟩
  · go_enter Tryd.func52, Tryd.ntmps52
    go_wp2_with fail
    exact bodyPost_ret (v := .tuple #[dv false none 0 0 0, I 3]) (by simp [results, Tryd.results52, go_sem]) rfl ⟨rfl, by repeat (first | exact Ext.alloc _ _ | refine Ext.set ?_ (by omega) _)⟩

set_option maxHeartbeats 400000 in
theorem num_nil0 (w : World) : Calls Tryd.prog 32 #[.nilIface] w fun e w' => e = .returned (I 0) ∧ w = w' := by
  go_enter Tryd.func32, Tryd.ntmps32
  go_wp2
  go_ret
  exact ⟨rfl, rfl⟩
theorem q_ofI (n : Int) : (ofI n 0).q = (n : Rat) := by
  unfold ofI
  rw [q_mkD _ _ (by decide)]
  unfold qOf
  rw [qp_zero]
  by_cases h : n < 0
  · obtain ⟨m, rfl⟩ : ∃ m : Nat, n = -(m : Int) := ⟨n.natAbs, by omega⟩
    have hc : ((m : Int) : Rat) = ((m : Nat) : Rat) := by first | rfl | exact Rat.intCast_natCast m
    rw [decide_eq_true h, if_pos rfl]
    simp [hc]
    try grind
  · obtain ⟨m, rfl⟩ : ∃ m : Nat, n = (m : Int) := ⟨n.natAbs, by omega⟩
    have hc : ((m : Int) : Rat) = ((m : Nat) : Rat) := by first | rfl | exact Rat.intCast_natCast m
    rw [decide_eq_false h, if_neg (by decide)]
    simp [hc]
    try grind
theorem add_ofI (a b : Int) : addD (ofI a 0) (ofI b 0) = ofI (a + b) 0 := DV.uniq (addD_ok _ _) (ofI_ok _ _) (by rw [q_addD (ofI_ok _ _) (ofI_ok _ _), q_ofI, q_ofI, q_ofI]; simp)
theorem den_ofI (n : Int) : (ofI n 0).den = 0 := Nat.le_zero.1 (den_le _ _ _ (by decide))
theorem mul_ofI (a b : Int) : mulD (ofI a 0) (ofI b 0) = ofI (a * b) 0 := DV.uniq (mulD_ok _ _) (ofI_ok _ _) (by rw [q_mulD (by rw [den_ofI, den_ofI]; decide), q_ofI, q_ofI, q_ofI]; simp)
theorem isI_ofI {n : Int} (h1 : -9223372036854775808 ≤ n) (h2 : n ≤ 9223372036854775807) : (if isI (ofI n 0) = true then ivD (ofI n 0) else 0) = n ∧ isI (ofI n 0) = true := by
  obtain ⟨e1, e2⟩ := eq_ofI (v := n) (d := ofI n 0) rfl
  have hi : isI (ofI n 0) = true := decide_eq_true ⟨e1, by omega, by omega⟩
  exact ⟨by rw [if_pos hi]; exact e2, hi⟩
theorem qOf_up (neg : Bool) (m k den : Nat) : qOf neg (m * 2 ^ k) den = qp k * qOf neg m den := by
  unfold qOf
  have : ((m * 2 ^ k : Nat) : Rat) = (m : Rat) * qp k := by unfold qp; exact Rat.natCast_mul _ _
  rw [this]
  cases neg <;> simp <;> grind
theorem up_ofI (n : Int) (k : Nat) (hk : k ≤ 65536) : cmpD (shiftD (ofI n k) (k : Int)) (ofI n 0) = 0 := by
  rw [cmpD_sgn (shiftD_ok _ _) (ofI_ok _ _)]
  have hc : clampN (k : Int) = (k : Int) := clamp_in' (by omega) (by omega)
  have e1 : shiftD (ofI n k) (k : Int) = mkD (ofI n k).neg ((ofI n k).m * 2 ^ k) (ofI n k).den := shiftD_pos' (by omega) (by rw [hc]; simp)
  have e2 : (shiftD (ofI n k) (k : Int)).q = qp k * (ofI n k).q := by
    rw [e1, q_mkD _ _ (ofI_ok n k).2.1, qOf_up]; rfl
  have e3 : (ofI n k).q = qOf (decide (n < 0)) n.natAbs k := by unfold ofI; rw [q_mkD _ _ hk]
  have e4 : (ofI n 0).q = qOf (decide (n < 0)) n.natAbs 0 := by unfold ofI; rw [q_mkD _ _ (by decide)]
  have e5 := qOf_shift (decide (n < 0)) n.natAbs 0 k
  rw [Nat.zero_add, qOf_up] at e5
  rw [e2, e3, e4, e5, show ∀ r : Rat, r - r = 0 from fun r => by grind, sgn_zero]
theorem half_bound {x : Int} (h1 : -9223372036854775808 ≤ x) (h2 : x ≤ 9223372036854775807) : -4611686018427387904 ≤ x.tdiv 2 ∧ x.tdiv 2 ≤ 4611686018427387903 := by
  by_cases h : 0 ≤ x
  · rw [Int.tdiv_eq_ediv_of_nonneg h]; omega
  · have e := Int.neg_tdiv (-x) 2
    rw [Int.neg_neg] at e
    have e2 := Int.tdiv_eq_ediv_of_nonneg (a := -x) (b := 2) (by omega)
    rw [e, e2]; omega
theorem rest_bound (x : Int) : -2147483647 ≤ x.tmod 2147483648 ∧ x.tmod 2147483648 ≤ 2147483647 := by
  have h := Int.natAbs_tmod x 2147483648
  have : (x.tmod 2147483648).natAbs ≤ 2147483647 := by
    rw [h, show (2147483648 : Int).natAbs = 2147483648 from rfl]; exact Nat.le_of_lt_succ (Nat.mod_lt _ (by decide))
  omega
theorem len_ofI {n : Int} (k : Nat) (h1 : -9223372036854775808 ≤ n) (h2 : n ≤ 9223372036854775807) : len (ofI n k).m ≤ 2 := Nat.le_trans (len_mono (mkD_m_le _ _ _)) (len_abs h1 h2)

set_option maxRecDepth 100000 in
set_option maxHeartbeats 4000000 in
theorem ints_good {w : World} {x y : Int} (hT : Tabs w) (hx1 : -9223372036854775808 ≤ x) (hx2 : x ≤ 9223372036854775807) (hy1 : -9223372036854775808 ≤ y) (hy2 : y ≤ 9223372036854775807) (k : Nat) (hk : k ≤ 400) :
    Calls Tryd.prog 9 #[I x, I y, I k] w fun e w' => e = .returned (.bool true) ∧ Ext w w' := by
  have HT0 := Lib.hid hT; clear hT
  have hk2 : k ≤ 65536 := by omega
  obtain ⟨xh, hxh⟩ : ∃ z, x.tdiv 2 = z := ⟨_, rfl⟩
  obtain ⟨yh, hyh⟩ : ∃ z, y.tdiv 2 = z := ⟨_, rfl⟩
  obtain ⟨xm, hxm⟩ : ∃ z, x.tmod 2147483648 = z := ⟨_, rfl⟩
  obtain ⟨ym, hym⟩ : ∃ z, y.tmod 2147483648 = z := ⟨_, rfl⟩
  have bx := half_bound hx1 hx2
  have by_ := half_bound hy1 hy2
  have bxm := rest_bound x
  have bym := rest_bound y
  rw [hxh] at bx; rw [hyh] at by_; rw [hxm] at bxm; rw [hym] at bym
  have bp : -4611686018427387904 ≤ xm * ym ∧ xm * ym ≤ 4611686018427387904 := by
    have h1 : (xm * ym).natAbs ≤ 2147483647 * 2147483647 := by rw [Int.natAbs_mul]; exact Nat.mul_le_mul (by omega) (by omega)
    omega
  obtain ⟨hxh1, hxh2⟩ : -9223372036854775808 ≤ xh ∧ xh ≤ 9223372036854775807 := by omega
  obtain ⟨hyh1, hyh2⟩ : -9223372036854775808 ≤ yh ∧ yh ≤ 9223372036854775807 := by omega
  obtain ⟨hxm1, hxm2⟩ : -9223372036854775808 ≤ xm ∧ xm ≤ 9223372036854775807 := by omega
  obtain ⟨hym1, hym2⟩ : -9223372036854775808 ≤ ym ∧ ym ≤ 9223372036854775807 := by omega
  obtain ⟨sm, hsm⟩ : ∃ z, xh + yh = z := ⟨_, rfl⟩
  obtain ⟨pr, hpr⟩ : ∃ z, xm * ym = z := ⟨_, rfl⟩
  have es1 : xh + yh = sm := hsm
  have es2 : IntKind.i64.wrap sm = sm := by rw [IntWalk.i64_in _ (by omega)]
  have es3 : wrap64 sm = sm := by unfold wrap64; omega
  have ep1 : xm * ym = pr := hpr
  have ep2 : IntKind.i64.wrap pr = pr := by rw [IntWalk.i64_in _ (by omega)]
  have ep3 : wrap64 pr = pr := by unfold wrap64; omega
  have i4 := isI_ofI (n := xh + yh) (by omega) (by omega)
  have i7 := isI_ofI (n := xm * ym) (by omega) (by omega)
  have i1 := isI_ofI hx1 hx2
  have c0 := up_ofI x k hk2
  have l1 := len_ofI 0 hx1 hx2
  have lm := len_ofI k hx1 hx2
  have l2 := len_ofI 0 hxh1 hxh2
  have l3 := len_ofI 0 hyh1 hyh2
  have l5 := len_ofI 0 hxm1 hxm2
  have l6 := len_ofI 0 hym1 hym2
  have l4 := len_ofI (n := xh + yh) 0 (by omega) (by omega)
  have l7 := len_ofI (n := xm * ym) 0 (by omega) (by omega)
  have a4 := add_ofI xh yh
  have a7 := mul_ofI xm ym
  rw [← a4, es1] at i4
  rw [← a7, ep1] at i7
  rw [← a4] at l4
  rw [← a7] at l7
  obtain ⟨o1, ho1⟩ : ∃ z, ofI x 0 = z := ⟨_, rfl⟩
  obtain ⟨o2, ho2⟩ : ∃ z, ofI xh 0 = z := ⟨_, rfl⟩
  obtain ⟨o3, ho3⟩ : ∃ z, ofI yh 0 = z := ⟨_, rfl⟩
  obtain ⟨o5, ho5⟩ : ∃ z, ofI xm 0 = z := ⟨_, rfl⟩
  obtain ⟨o6, ho6⟩ : ∃ z, ofI ym 0 = z := ⟨_, rfl⟩
  obtain ⟨m, hm⟩ : ∃ z, ofI x k = z := ⟨_, rfl⟩
  rw [ho1] at i1 c0 l1
  rw [ho2] at i4 l4 l2
  rw [ho3] at i4 l4 l3
  rw [ho5] at i7 l7 l5
  rw [ho6] at i7 l7 l6
  rw [hm] at c0 lm
  obtain ⟨o4, ho4⟩ : ∃ z, addD o2 o3 = z := ⟨_, rfl⟩
  obtain ⟨o7, ho7⟩ : ∃ z, mulD o5 o6 = z := ⟨_, rfl⟩
  obtain ⟨sh, hsh⟩ : ∃ z, shiftD m (k : Int) = z := ⟨_, rfl⟩
  rw [ho4] at i4 l4
  rw [ho7] at i7 l7
  rw [hsh] at c0
  have ls := lim_shift m (k : Int)
  rw [hsh] at ls
  have E1 : Hid (ofI x 0 = o1) := ho1
  have E2 : Hid (ofI xh 0 = o2) := ho2
  have E3 : Hid (ofI yh 0 = o3) := ho3
  have E4 : Hid (addD o2 o3 = o4) := ho4
  have E5 : Hid (ofI xm 0 = o5) := ho5
  have E6 : Hid (ofI ym 0 = o6) := ho6
  have E7 : Hid (mulD o5 o6 = o7) := ho7
  have E8 : Hid (ofI x k = m) := hm
  have E9 : Hid (shiftD m (k : Int) = sh) := hsh
  have C0 : Hid (cmpD sh o1 = 0) := c0
  have P1 := Lib.hid i1; have P4 := Lib.hid i4; have P7 := Lib.hid i7
  have Wo1 : Hid (o1.ok ∧ len o1.m ≤ 16777216) := ⟨ho1 ▸ ofI_ok _ _, by omega⟩
  have Wo2 : Hid (o2.ok ∧ len o2.m ≤ 16777216) := ⟨ho2 ▸ ofI_ok _ _, by omega⟩
  have Wo3 : Hid (o3.ok ∧ len o3.m ≤ 16777216) := ⟨ho3 ▸ ofI_ok _ _, by omega⟩
  have Wo4 : Hid (o4.ok ∧ len o4.m ≤ 16777216) := ⟨ho4 ▸ addD_ok _ _, by omega⟩
  have Wo5 : Hid (o5.ok ∧ len o5.m ≤ 16777216) := ⟨ho5 ▸ ofI_ok _ _, by omega⟩
  have Wo6 : Hid (o6.ok ∧ len o6.m ≤ 16777216) := ⟨ho6 ▸ ofI_ok _ _, by omega⟩
  have Wo7 : Hid (o7.ok ∧ len o7.m ≤ 16777216) := ⟨ho7 ▸ mulD_ok _ _, by omega⟩
  have Wm : Hid (m.ok ∧ len m.m ≤ 16777216) := ⟨hm ▸ ofI_ok _ _, by omega⟩
  have Wsh : Hid (sh.ok ∧ len sh.m ≤ 16777216) := ⟨hsh ▸ shiftD_ok _ _, by omega⟩
  have LM : Hid (len m.m ≤ 1073741824) := by show _ ≤ _; omega
  clear ho1 ho2 ho3 ho4 ho5 ho6 ho7 hm hsh c0 i1 i4 i7 l1 l2 l3 l4 l5 l6 l7 lm ls a4 a7 hsm hpr bp bx by_ bxm bym
  by_cases hi : isI m = true
  · obtain ⟨v, hv⟩ : ∃ v, ivD m = v := ⟨_, rfl⟩
    have PM : Hid ((if isI m = true then ivD m else 0) = v ∧ isI m = true) := ⟨by rw [if_pos hi]; exact hv, hi⟩
    have VM : Hid (ivD m = v) := hv
    clear hv hi
    go_enter Tryd.func9, Tryd.ntmps9
    go_wp2_with (go_at_call 14; (with_reducible refine (awake_any _ HT0.out).mono ?_); rintro e w0 ⟨rfl, hx⟩; have X0 := Lib.hid hx; have HT := Lib.hid (HT0.out.ext hx); clear hx)
    go_wp2_with (first
      | (have hg := HE17; clear hg; go_at_call 25; (with_reducible refine (cmp_any (HI10.out _ HE17.out) (HI11.out _ (Ext.refl _))).mono ?_); rw [C0.out]; rintro e w18 ⟨rfl, hx⟩; have HE18 := Lib.hid (hx); clear hx)
      | (have hg := HE16; clear hg; go_at_call 51; (with_reducible refine (of_any x _ (HT.out.ext (((((((((((((((HE1.out.trans HE2.out).trans HE3.out).trans HE4.out).trans HE5.out).trans HE6.out).trans HE7.out).trans HE8.out).trans HE9.out).trans HE10.out).trans HE11.out).trans HE12.out).trans HE13.out).trans HE14.out).trans HE15.out).trans HE16.out)) hx1 hx2).mono ?_); rw [E1.out]; rintro e w17 ⟨A11, c11, rfl, hon, hx⟩; have HE17 := Lib.hid (hx); have HI11 := Lib.hid (Dy.at_ hon Wo1.out.1 Wo1.out.2); clear hon; clear hx)
      | (have hg := HE15; clear hg; go_at_call 31; (with_reducible refine (shift_any (k : Int) (HI8.out _ (((HE12.out.trans HE13.out).trans HE14.out).trans HE15.out)) (HT.out.ext ((((((((((((((HE1.out.trans HE2.out).trans HE3.out).trans HE4.out).trans HE5.out).trans HE6.out).trans HE7.out).trans HE8.out).trans HE9.out).trans HE10.out).trans HE11.out).trans HE12.out).trans HE13.out).trans HE14.out).trans HE15.out)) (by omega) (by omega)).mono ?_); rw [E9.out]; rintro e w16 ⟨A10, c10, rfl, hon, hx⟩; have HE16 := Lib.hid (hx); have HI10 := Lib.hid (Dy.at_ hon Wsh.out.1 Wsh.out.2); clear hon; clear hx)
      | (have hg := HE14; clear hg; go_at_call 53; (with_reducible refine (rint_any (HI8.out _ ((HE12.out.trans HE13.out).trans HE14.out))).mono ?_); rintro e w15 ⟨z, rfl, hz, hx⟩; have HE15 := Lib.hid (hx); rw [PM.out.2]; clear hx; obtain rfl : z = v := (hz PM.out.2).trans VM.out; clear hz; obtain ⟨z0, z1, z2⟩ := HB8.out _ ((HE13.out.trans HE14.out).trans HE15.out))
      | (have hg := HE13; clear hg; go_at_call 18; (with_reducible refine (int_any (HI8.out _ (HE12.out.trans HE13.out)) (HT.out.ext ((((((((((((HE1.out.trans HE2.out).trans HE3.out).trans HE4.out).trans HE5.out).trans HE6.out).trans HE7.out).trans HE8.out).trans HE9.out).trans HE10.out).trans HE11.out).trans HE12.out).trans HE13.out))).mono ?_); rw [PM.out.1, PM.out.2]; rintro e w14 ⟨rfl, hx⟩; have HE14 := Lib.hid (hx); clear hx; obtain ⟨z0, z1, z2⟩ := HB8.out _ (HE13.out.trans HE14.out))
      | (have hg := HE12; clear hg; go_at_call 21; (with_reducible refine (same_true (d := m) (HI8.out _ (HE12.out.trans (Ext.alloc _ _))).rd (HI9.out _ ((Ext.refl _).trans (Ext.alloc _ _))).rd LM.out).mono ?_); rintro e w13 ⟨rfl, hx⟩; have HE13 := Lib.hid ((Ext.alloc _ _).trans hx); have HB9 : Hid (∀ w', Ext w13 w' → St w' w12.heap.size (.bool m.neg) (.slice A9 (len m.m) c9) (I m.den)) := fun _ e => ((St.new w12 _ _ _ _).ext hx).ext e; clear hx; obtain ⟨z0, z1, z2⟩ := HB8.out _ HE13.out)
      | (have hg := HE12; clear hg; go_at_call 32; (with_reducible refine (num_nil0 _).mono ?_); rintro e w' ⟨rfl, rfl⟩)
      | (have hg := HE11; clear hg; go_at_call 52; (with_reducible refine (rmake_any x k _ hx1 hx2 hk2).mono ?_); rw [E8.out]; rintro e w12 ⟨A9, c9, rfl, hon, hx⟩; have HE12 := Lib.hid ((Ext.alloc _ _).trans hx); have HB8 : Hid (∀ w', Ext w12 w' → St w' w11.heap.size (.bool m.neg) (.slice A8 (len m.m) c8) (I m.den)) := fun _ e => ((St.new w11 _ _ _ _).ext hx).ext e; have HI9 := Lib.hid (Dy.at_ hon Wm.out.1 Wm.out.2); clear hon; clear hx; obtain ⟨z0, z1, z2⟩ := HB8.out (w12.alloc (.cells #[.bool m.neg, .slice A9 (len m.m) c9, I m.den] 24)) (Ext.alloc _ _); obtain ⟨y0, y1, y2⟩ := St.new w12 (.bool m.neg) (.slice A9 (len m.m) c9) (I m.den) 24)
      | (have hg := HE10; clear hg; go_at_call 49; (with_reducible refine (make_any x k _ (HT.out.ext (((((((((HE1.out.trans HE2.out).trans HE3.out).trans HE4.out).trans HE5.out).trans HE6.out).trans HE7.out).trans HE8.out).trans HE9.out).trans HE10.out)) hx1 hx2 hk2).mono ?_); rw [E8.out]; rintro e w11 ⟨A8, c8, rfl, hon, hx⟩; have HE11 := Lib.hid (hx); have HI8 := Lib.hid (Dy.at_ hon Wm.out.1 Wm.out.2); clear hon; clear hx)
      | (have hg := HE9; clear hg; go_at_call 18; (with_reducible refine (int_any (HI7.out _ (Ext.refl _)) (HT.out.ext ((((((((HE1.out.trans HE2.out).trans HE3.out).trans HE4.out).trans HE5.out).trans HE6.out).trans HE7.out).trans HE8.out).trans HE9.out))).mono ?_); rw [P7.out.1, P7.out.2]; rintro e w10 ⟨rfl, hx⟩; have HE10 := Lib.hid (hx); clear hx)
      | (have hg := HE8; clear hg; go_at_call 30; (with_reducible refine (mul_any (HI5.out _ HE8.out) (HI6.out _ (Ext.refl _)) (HT.out.ext (((((((HE1.out.trans HE2.out).trans HE3.out).trans HE4.out).trans HE5.out).trans HE6.out).trans HE7.out).trans HE8.out))).mono ?_); rw [E7.out]; rintro e w9 ⟨A7, c7, rfl, hon, hx⟩; have HE9 := Lib.hid (hx); have HI7 := Lib.hid (Dy.at_ hon Wo7.out.1 Wo7.out.2); clear hon; clear hx)
      | (have hg := HE7; clear hg; go_at_call 51; (with_reducible refine (of_any ym _ (HT.out.ext ((((((HE1.out.trans HE2.out).trans HE3.out).trans HE4.out).trans HE5.out).trans HE6.out).trans HE7.out)) hym1 hym2).mono ?_); rw [E6.out]; rintro e w8 ⟨A6, c6, rfl, hon, hx⟩; have HE8 := Lib.hid (hx); have HI6 := Lib.hid (Dy.at_ hon Wo6.out.1 Wo6.out.2); clear hon; clear hx)
      | (have hg := HE6; clear hg; go_at_call 51; (with_reducible refine (of_any xm _ (HT.out.ext (((((HE1.out.trans HE2.out).trans HE3.out).trans HE4.out).trans HE5.out).trans HE6.out)) hxm1 hxm2).mono ?_); rw [E5.out]; rintro e w7 ⟨A5, c5, rfl, hon, hx⟩; have HE7 := Lib.hid (hx); have HI5 := Lib.hid (Dy.at_ hon Wo5.out.1 Wo5.out.2); clear hon; clear hx)
      | (have hg := HE5; clear hg; go_at_call 18; (with_reducible refine (int_any (HI4.out _ (Ext.refl _)) (HT.out.ext ((((HE1.out.trans HE2.out).trans HE3.out).trans HE4.out).trans HE5.out))).mono ?_); rw [P4.out.1, P4.out.2]; rintro e w6 ⟨rfl, hx⟩; have HE6 := Lib.hid (hx); clear hx)
      | (have hg := HE4; clear hg; go_at_call 28; (with_reducible refine (add_any (HI2.out _ HE4.out) (HI3.out _ (Ext.refl _)) (HT.out.ext (((HE1.out.trans HE2.out).trans HE3.out).trans HE4.out))).mono ?_); rw [E4.out]; rintro e w5 ⟨A4, c4, rfl, hon, hx⟩; have HE5 := Lib.hid (hx); have HI4 := Lib.hid (Dy.at_ hon Wo4.out.1 Wo4.out.2); clear hon; clear hx)
      | (have hg := HE3; clear hg; go_at_call 51; (with_reducible refine (of_any yh _ (HT.out.ext ((HE1.out.trans HE2.out).trans HE3.out)) hyh1 hyh2).mono ?_); rw [E3.out]; rintro e w4 ⟨A3, c3, rfl, hon, hx⟩; have HE4 := Lib.hid (hx); have HI3 := Lib.hid (Dy.at_ hon Wo3.out.1 Wo3.out.2); clear hon; clear hx)
      | (have hg := HE2; clear hg; go_at_call 51; (with_reducible refine (of_any xh _ (HT.out.ext (HE1.out.trans HE2.out)) hxh1 hxh2).mono ?_); rw [E2.out]; rintro e w3 ⟨A2, c2, rfl, hon, hx⟩; have HE3 := Lib.hid (hx); have HI2 := Lib.hid (Dy.at_ hon Wo2.out.1 Wo2.out.2); clear hon; clear hx)
      | (have hg := HE1; clear hg; go_at_call 18; (with_reducible refine (int_any (HI1.out _ (Ext.refl _)) (HT.out.ext HE1.out)).mono ?_); rw [P1.out.1, P1.out.2]; rintro e w2 ⟨rfl, hx⟩; have HE2 := Lib.hid (hx); clear hx)
      | (go_at_call 51; (with_reducible refine (of_any x _ (HT.out.ext (Ext.refl _)) hx1 hx2).mono ?_); rw [E1.out]; rintro e w1 ⟨A1, c1, rfl, hon, hx⟩; have HE1 := Lib.hid (hx); have HI1 := Lib.hid (Dy.at_ hon Wo1.out.1 Wo1.out.2); clear hon; clear hx))
    all_goals
      go_ret
      exact ⟨rfl, X0.out.trans (((((((((((((((((HE1.out.trans HE2.out).trans HE3.out).trans HE4.out).trans HE5.out).trans HE6.out).trans HE7.out).trans HE8.out).trans HE9.out).trans HE10.out).trans HE11.out).trans HE12.out).trans HE13.out).trans HE14.out).trans HE15.out).trans HE16.out).trans HE17.out).trans HE18.out)⟩
  · have PM : Hid ((if isI m = true then ivD m else 0) = 0 ∧ isI m = false) := ⟨by rw [if_neg hi], by simpa using hi⟩
    clear hi
    go_enter Tryd.func9, Tryd.ntmps9
    go_wp2_with (go_at_call 14; (with_reducible refine (awake_any _ HT0.out).mono ?_); rintro e w0 ⟨rfl, hx⟩; have X0 := Lib.hid hx; have HT := Lib.hid (HT0.out.ext hx); clear hx)
    go_wp2_with (first
      | (have hg := HE17; clear hg; go_at_call 25; (with_reducible refine (cmp_any (HI10.out _ HE17.out) (HI11.out _ (Ext.refl _))).mono ?_); rw [C0.out]; rintro e w18 ⟨rfl, hx⟩; have HE18 := Lib.hid (hx); clear hx)
      | (have hg := HE16; clear hg; go_at_call 51; (with_reducible refine (of_any x _ (HT.out.ext (((((((((((((((HE1.out.trans HE2.out).trans HE3.out).trans HE4.out).trans HE5.out).trans HE6.out).trans HE7.out).trans HE8.out).trans HE9.out).trans HE10.out).trans HE11.out).trans HE12.out).trans HE13.out).trans HE14.out).trans HE15.out).trans HE16.out)) hx1 hx2).mono ?_); rw [E1.out]; rintro e w17 ⟨A11, c11, rfl, hon, hx⟩; have HE17 := Lib.hid (hx); have HI11 := Lib.hid (Dy.at_ hon Wo1.out.1 Wo1.out.2); clear hon; clear hx)
      | (have hg := HE15; clear hg; go_at_call 31; (with_reducible refine (shift_any (k : Int) (HI8.out _ (((HE12.out.trans HE13.out).trans HE14.out).trans HE15.out)) (HT.out.ext ((((((((((((((HE1.out.trans HE2.out).trans HE3.out).trans HE4.out).trans HE5.out).trans HE6.out).trans HE7.out).trans HE8.out).trans HE9.out).trans HE10.out).trans HE11.out).trans HE12.out).trans HE13.out).trans HE14.out).trans HE15.out)) (by omega) (by omega)).mono ?_); rw [E9.out]; rintro e w16 ⟨A10, c10, rfl, hon, hx⟩; have HE16 := Lib.hid (hx); have HI10 := Lib.hid (Dy.at_ hon Wsh.out.1 Wsh.out.2); clear hon; clear hx)
      | (have hg := HE14; clear hg; go_at_call 53; (with_reducible refine (rint_any (HI8.out _ ((HE12.out.trans HE13.out).trans HE14.out))).mono ?_); rintro e w15 ⟨z, rfl, hz, hx⟩; have HE15 := Lib.hid (hx); rw [PM.out.2]; clear hx; clear hz; obtain ⟨z0, z1, z2⟩ := HB8.out _ ((HE13.out.trans HE14.out).trans HE15.out))
      | (have hg := HE13; clear hg; go_at_call 18; (with_reducible refine (int_any (HI8.out _ (HE12.out.trans HE13.out)) (HT.out.ext ((((((((((((HE1.out.trans HE2.out).trans HE3.out).trans HE4.out).trans HE5.out).trans HE6.out).trans HE7.out).trans HE8.out).trans HE9.out).trans HE10.out).trans HE11.out).trans HE12.out).trans HE13.out))).mono ?_); rw [PM.out.1, PM.out.2]; rintro e w14 ⟨rfl, hx⟩; have HE14 := Lib.hid (hx); clear hx; obtain ⟨z0, z1, z2⟩ := HB8.out _ (HE13.out.trans HE14.out))
      | (have hg := HE12; clear hg; go_at_call 21; (with_reducible refine (same_true (d := m) (HI8.out _ (HE12.out.trans (Ext.alloc _ _))).rd (HI9.out _ ((Ext.refl _).trans (Ext.alloc _ _))).rd LM.out).mono ?_); rintro e w13 ⟨rfl, hx⟩; have HE13 := Lib.hid ((Ext.alloc _ _).trans hx); have HB9 : Hid (∀ w', Ext w13 w' → St w' w12.heap.size (.bool m.neg) (.slice A9 (len m.m) c9) (I m.den)) := fun _ e => ((St.new w12 _ _ _ _).ext hx).ext e; clear hx; obtain ⟨z0, z1, z2⟩ := HB8.out _ HE13.out)
      | (have hg := HE12; clear hg; go_at_call 32; (with_reducible refine (num_nil0 _).mono ?_); rintro e w' ⟨rfl, rfl⟩)
      | (have hg := HE11; clear hg; go_at_call 52; (with_reducible refine (rmake_any x k _ hx1 hx2 hk2).mono ?_); rw [E8.out]; rintro e w12 ⟨A9, c9, rfl, hon, hx⟩; have HE12 := Lib.hid ((Ext.alloc _ _).trans hx); have HB8 : Hid (∀ w', Ext w12 w' → St w' w11.heap.size (.bool m.neg) (.slice A8 (len m.m) c8) (I m.den)) := fun _ e => ((St.new w11 _ _ _ _).ext hx).ext e; have HI9 := Lib.hid (Dy.at_ hon Wm.out.1 Wm.out.2); clear hon; clear hx; obtain ⟨z0, z1, z2⟩ := HB8.out (w12.alloc (.cells #[.bool m.neg, .slice A9 (len m.m) c9, I m.den] 24)) (Ext.alloc _ _); obtain ⟨y0, y1, y2⟩ := St.new w12 (.bool m.neg) (.slice A9 (len m.m) c9) (I m.den) 24)
      | (have hg := HE10; clear hg; go_at_call 49; (with_reducible refine (make_any x k _ (HT.out.ext (((((((((HE1.out.trans HE2.out).trans HE3.out).trans HE4.out).trans HE5.out).trans HE6.out).trans HE7.out).trans HE8.out).trans HE9.out).trans HE10.out)) hx1 hx2 hk2).mono ?_); rw [E8.out]; rintro e w11 ⟨A8, c8, rfl, hon, hx⟩; have HE11 := Lib.hid (hx); have HI8 := Lib.hid (Dy.at_ hon Wm.out.1 Wm.out.2); clear hon; clear hx)
      | (have hg := HE9; clear hg; go_at_call 18; (with_reducible refine (int_any (HI7.out _ (Ext.refl _)) (HT.out.ext ((((((((HE1.out.trans HE2.out).trans HE3.out).trans HE4.out).trans HE5.out).trans HE6.out).trans HE7.out).trans HE8.out).trans HE9.out))).mono ?_); rw [P7.out.1, P7.out.2]; rintro e w10 ⟨rfl, hx⟩; have HE10 := Lib.hid (hx); clear hx)
      | (have hg := HE8; clear hg; go_at_call 30; (with_reducible refine (mul_any (HI5.out _ HE8.out) (HI6.out _ (Ext.refl _)) (HT.out.ext (((((((HE1.out.trans HE2.out).trans HE3.out).trans HE4.out).trans HE5.out).trans HE6.out).trans HE7.out).trans HE8.out))).mono ?_); rw [E7.out]; rintro e w9 ⟨A7, c7, rfl, hon, hx⟩; have HE9 := Lib.hid (hx); have HI7 := Lib.hid (Dy.at_ hon Wo7.out.1 Wo7.out.2); clear hon; clear hx)
      | (have hg := HE7; clear hg; go_at_call 51; (with_reducible refine (of_any ym _ (HT.out.ext ((((((HE1.out.trans HE2.out).trans HE3.out).trans HE4.out).trans HE5.out).trans HE6.out).trans HE7.out)) hym1 hym2).mono ?_); rw [E6.out]; rintro e w8 ⟨A6, c6, rfl, hon, hx⟩; have HE8 := Lib.hid (hx); have HI6 := Lib.hid (Dy.at_ hon Wo6.out.1 Wo6.out.2); clear hon; clear hx)
      | (have hg := HE6; clear hg; go_at_call 51; (with_reducible refine (of_any xm _ (HT.out.ext (((((HE1.out.trans HE2.out).trans HE3.out).trans HE4.out).trans HE5.out).trans HE6.out)) hxm1 hxm2).mono ?_); rw [E5.out]; rintro e w7 ⟨A5, c5, rfl, hon, hx⟩; have HE7 := Lib.hid (hx); have HI5 := Lib.hid (Dy.at_ hon Wo5.out.1 Wo5.out.2); clear hon; clear hx)
      | (have hg := HE5; clear hg; go_at_call 18; (with_reducible refine (int_any (HI4.out _ (Ext.refl _)) (HT.out.ext ((((HE1.out.trans HE2.out).trans HE3.out).trans HE4.out).trans HE5.out))).mono ?_); rw [P4.out.1, P4.out.2]; rintro e w6 ⟨rfl, hx⟩; have HE6 := Lib.hid (hx); clear hx)
      | (have hg := HE4; clear hg; go_at_call 28; (with_reducible refine (add_any (HI2.out _ HE4.out) (HI3.out _ (Ext.refl _)) (HT.out.ext (((HE1.out.trans HE2.out).trans HE3.out).trans HE4.out))).mono ?_); rw [E4.out]; rintro e w5 ⟨A4, c4, rfl, hon, hx⟩; have HE5 := Lib.hid (hx); have HI4 := Lib.hid (Dy.at_ hon Wo4.out.1 Wo4.out.2); clear hon; clear hx)
      | (have hg := HE3; clear hg; go_at_call 51; (with_reducible refine (of_any yh _ (HT.out.ext ((HE1.out.trans HE2.out).trans HE3.out)) hyh1 hyh2).mono ?_); rw [E3.out]; rintro e w4 ⟨A3, c3, rfl, hon, hx⟩; have HE4 := Lib.hid (hx); have HI3 := Lib.hid (Dy.at_ hon Wo3.out.1 Wo3.out.2); clear hon; clear hx)
      | (have hg := HE2; clear hg; go_at_call 51; (with_reducible refine (of_any xh _ (HT.out.ext (HE1.out.trans HE2.out)) hxh1 hxh2).mono ?_); rw [E2.out]; rintro e w3 ⟨A2, c2, rfl, hon, hx⟩; have HE3 := Lib.hid (hx); have HI2 := Lib.hid (Dy.at_ hon Wo2.out.1 Wo2.out.2); clear hon; clear hx)
      | (have hg := HE1; clear hg; go_at_call 18; (with_reducible refine (int_any (HI1.out _ (Ext.refl _)) (HT.out.ext HE1.out)).mono ?_); rw [P1.out.1, P1.out.2]; rintro e w2 ⟨rfl, hx⟩; have HE2 := Lib.hid (hx); clear hx)
      | (go_at_call 51; (with_reducible refine (of_any x _ (HT.out.ext (Ext.refl _)) hx1 hx2).mono ?_); rw [E1.out]; rintro e w1 ⟨A1, c1, rfl, hon, hx⟩; have HE1 := Lib.hid (hx); have HI1 := Lib.hid (Dy.at_ hon Wo1.out.1 Wo1.out.2); clear hon; clear hx))
    all_goals
      go_ret
      exact ⟨rfl, X0.out.trans (((((((((((((((((HE1.out.trans HE2.out).trans HE3.out).trans HE4.out).trans HE5.out).trans HE6.out).trans HE7.out).trans HE8.out).trans HE9.out).trans HE10.out).trans HE11.out).trans HE12.out).trans HE13.out).trans HE14.out).trans HE15.out).trans HE16.out).trans HE17.out).trans HE18.out)⟩

set_option maxHeartbeats 400000 in
theorem num_err0 (k : Int) (w : World) : Calls Tryd.prog 32 #[.iface 46 (I k)] w fun e w' => e = .returned (I k) ∧ w = w' := by
  have ta := run_assert_int (P := Tryd.prog) (xT := 29) (v := I k) (w := w) Tryd.underlying46
  go_enter Tryd.func32, Tryd.ntmps32
  go_wp2
  go_ret
  exact ⟨rfl, rfl⟩

set_option maxRecDepth 100000 in
set_option maxHeartbeats 4000000 in
theorem ints_bad {w : World} {x y : Int} (hT : Tabs w) (hx1 : -9223372036854775808 ≤ x) (hx2 : x ≤ 9223372036854775807) (hy1 : -9223372036854775808 ≤ y) (hy2 : y ≤ 9223372036854775807) (k : Int) (hk : k < 0 ∨ 65536 < k) :
    Calls Tryd.prog 9 #[I x, I y, I k] w fun e w' => e = .returned (.bool true) ∧ Ext w w' := by
  have HT0 := Lib.hid hT; clear hT
  obtain ⟨xh, hxh⟩ : ∃ z, x.tdiv 2 = z := ⟨_, rfl⟩
  obtain ⟨yh, hyh⟩ : ∃ z, y.tdiv 2 = z := ⟨_, rfl⟩
  obtain ⟨xm, hxm⟩ : ∃ z, x.tmod 2147483648 = z := ⟨_, rfl⟩
  obtain ⟨ym, hym⟩ : ∃ z, y.tmod 2147483648 = z := ⟨_, rfl⟩
  have bx := half_bound hx1 hx2
  have by_ := half_bound hy1 hy2
  have bxm := rest_bound x
  have bym := rest_bound y
  rw [hxh] at bx; rw [hyh] at by_; rw [hxm] at bxm; rw [hym] at bym
  have bp : -4611686018427387904 ≤ xm * ym ∧ xm * ym ≤ 4611686018427387904 := by
    have h1 : (xm * ym).natAbs ≤ 2147483647 * 2147483647 := by rw [Int.natAbs_mul]; exact Nat.mul_le_mul (by omega) (by omega)
    omega
  obtain ⟨hxh1, hxh2⟩ : -9223372036854775808 ≤ xh ∧ xh ≤ 9223372036854775807 := by omega
  obtain ⟨hyh1, hyh2⟩ : -9223372036854775808 ≤ yh ∧ yh ≤ 9223372036854775807 := by omega
  obtain ⟨hxm1, hxm2⟩ : -9223372036854775808 ≤ xm ∧ xm ≤ 9223372036854775807 := by omega
  obtain ⟨hym1, hym2⟩ : -9223372036854775808 ≤ ym ∧ ym ≤ 9223372036854775807 := by omega
  obtain ⟨sm, hsm⟩ : ∃ z, xh + yh = z := ⟨_, rfl⟩
  obtain ⟨pr, hpr⟩ : ∃ z, xm * ym = z := ⟨_, rfl⟩
  have es1 : xh + yh = sm := hsm
  have es2 : IntKind.i64.wrap sm = sm := by rw [IntWalk.i64_in _ (by omega)]
  have es3 : wrap64 sm = sm := by unfold wrap64; omega
  have ep1 : xm * ym = pr := hpr
  have ep2 : IntKind.i64.wrap pr = pr := by rw [IntWalk.i64_in _ (by omega)]
  have ep3 : wrap64 pr = pr := by unfold wrap64; omega
  have i4 := isI_ofI (n := xh + yh) (by omega) (by omega)
  have i7 := isI_ofI (n := xm * ym) (by omega) (by omega)
  have i1 := isI_ofI hx1 hx2
  have l1 := len_ofI 0 hx1 hx2
  have l2 := len_ofI 0 hxh1 hxh2
  have l3 := len_ofI 0 hyh1 hyh2
  have l5 := len_ofI 0 hxm1 hxm2
  have l6 := len_ofI 0 hym1 hym2
  have l4 := len_ofI (n := xh + yh) 0 (by omega) (by omega)
  have l7 := len_ofI (n := xm * ym) 0 (by omega) (by omega)
  have a4 := add_ofI xh yh
  have a7 := mul_ofI xm ym
  rw [← a4, es1] at i4
  rw [← a7, ep1] at i7
  rw [← a4] at l4
  rw [← a7] at l7
  obtain ⟨o1, ho1⟩ : ∃ z, ofI x 0 = z := ⟨_, rfl⟩
  obtain ⟨o2, ho2⟩ : ∃ z, ofI xh 0 = z := ⟨_, rfl⟩
  obtain ⟨o3, ho3⟩ : ∃ z, ofI yh 0 = z := ⟨_, rfl⟩
  obtain ⟨o5, ho5⟩ : ∃ z, ofI xm 0 = z := ⟨_, rfl⟩
  obtain ⟨o6, ho6⟩ : ∃ z, ofI ym 0 = z := ⟨_, rfl⟩
  rw [ho1] at i1 l1
  rw [ho2] at i4 l4 l2
  rw [ho3] at i4 l4 l3
  rw [ho5] at i7 l7 l5
  rw [ho6] at i7 l7 l6
  obtain ⟨o4, ho4⟩ : ∃ z, addD o2 o3 = z := ⟨_, rfl⟩
  obtain ⟨o7, ho7⟩ : ∃ z, mulD o5 o6 = z := ⟨_, rfl⟩
  rw [ho4] at i4 l4
  rw [ho7] at i7 l7
  have E1 : Hid (ofI x 0 = o1) := ho1
  have E2 : Hid (ofI xh 0 = o2) := ho2
  have E3 : Hid (ofI yh 0 = o3) := ho3
  have E4 : Hid (addD o2 o3 = o4) := ho4
  have E5 : Hid (ofI xm 0 = o5) := ho5
  have E6 : Hid (ofI ym 0 = o6) := ho6
  have E7 : Hid (mulD o5 o6 = o7) := ho7
  have P1 := Lib.hid i1; have P4 := Lib.hid i4; have P7 := Lib.hid i7
  have Wo1 : Hid (o1.ok ∧ len o1.m ≤ 16777216) := ⟨ho1 ▸ ofI_ok _ _, by omega⟩
  have Wo2 : Hid (o2.ok ∧ len o2.m ≤ 16777216) := ⟨ho2 ▸ ofI_ok _ _, by omega⟩
  have Wo3 : Hid (o3.ok ∧ len o3.m ≤ 16777216) := ⟨ho3 ▸ ofI_ok _ _, by omega⟩
  have Wo4 : Hid (o4.ok ∧ len o4.m ≤ 16777216) := ⟨ho4 ▸ addD_ok _ _, by omega⟩
  have Wo5 : Hid (o5.ok ∧ len o5.m ≤ 16777216) := ⟨ho5 ▸ ofI_ok _ _, by omega⟩
  have Wo6 : Hid (o6.ok ∧ len o6.m ≤ 16777216) := ⟨ho6 ▸ ofI_ok _ _, by omega⟩
  have Wo7 : Hid (o7.ok ∧ len o7.m ≤ 16777216) := ⟨ho7 ▸ mulD_ok _ _, by omega⟩
  clear ho1 ho2 ho3 ho4 ho5 ho6 ho7 i1 i4 i7 l1 l2 l3 l4 l5 l6 l7 a4 a7 hsm hpr bp bx by_ bxm bym

  have HK := Lib.hid hk
  have hz := isI_ofI (n := 0) (by decide) (by decide)
  have hz0 : ofI 0 0 = DV.zero := by unfold ofI; rw [mkD_small (by decide)]; exact nrm_zero _ _
  rw [hz0] at hz
  have PZ := Lib.hid hz
  have VZ : Hid (ivD DV.zero = 0) := rfl
  clear hz hz0
  have hnk : ¬ (400 < k ∧ k ≤ 65536) := by omega
  rcases hk with hk | hk
  all_goals
    go_enter Tryd.func9, Tryd.ntmps9
    go_wp2_with (go_at_call 14; (with_reducible refine (awake_any _ HT0.out).mono ?_); rintro e w0 ⟨rfl, hx⟩; have X0 := Lib.hid hx; have HT := Lib.hid (HT0.out.ext hx); clear hx)
    go_wp2_with (first
      | (have hg := HE14; clear hg; go_at_call 53; (with_reducible refine (rint_any (Dy.zero _)).mono ?_); rintro e w15 ⟨z, rfl, hz, hx⟩; have HE15 := Lib.hid hx; rw [PZ.out.2]; obtain rfl : z = 0 := (hz PZ.out.2).trans VZ.out; clear hz; obtain ⟨z0, z1, z2⟩ := HB8.out.ext ((HE13.out.trans HE14.out).trans HE15.out); clear hx)
        | (have hg := HE13; clear hg; go_at_call 18; (with_reducible refine (int_any (Dy.zero _) (HT.out.ext ((((((((((((HE1.out.trans HE2.out).trans HE3.out).trans HE4.out).trans HE5.out).trans HE6.out).trans HE7.out).trans HE8.out).trans HE9.out).trans HE10.out).trans HE11.out).trans HE12.out).trans HE13.out))).mono ?_); rw [PZ.out.1, PZ.out.2]; rintro e w14 ⟨rfl, hx⟩; have HE14 := Lib.hid hx; obtain ⟨z0, z1, z2⟩ := HB8.out.ext (HE13.out.trans HE14.out); clear hx)
        | (have hg := HE12; clear hg; go_at_call 21; (with_reducible refine (same_zz0).mono ?_); rintro e w13 ⟨rfl, hx⟩; have HE13 := Lib.hid hx; obtain ⟨z0, z1, z2⟩ := HB8.out.ext HE13.out; clear hx)
        | (have hg := HE12; clear hg; go_at_call 32; (with_reducible refine (num_err0 _ _).mono ?_); rintro e w' ⟨rfl, rfl⟩)
        | (have hg := HE11; clear hg; go_at_call 52; (with_reducible refine (rmake_err x k HK.out).mono ?_); rintro e w12 ⟨rfl, hx⟩; have HE12 := Lib.hid (((Ext.alloc _ _).trans hx).trans (Ext.alloc w12 (.cells #[.bool false, .slice none 0 0, I 0] 24))); have HB8 := Lib.hid (((St.new w11 (.bool false) (.slice none 0 0) (I 0) 24).ext hx).ext (Ext.alloc w12 (.cells #[.bool false, .slice none 0 0, I 0] 24))); have HB9 := Lib.hid (St.new w12 (.bool false) (.slice none 0 0) (I 0) 24); obtain ⟨z0, z1, z2⟩ := HB8.out; obtain ⟨y0, y1, y2⟩ := HB9.out; clear hx)
        | (have hg := HE10; clear hg; go_at_call 49; (with_reducible refine (make_err x k _ HK.out).mono ?_); rintro e w11 ⟨rfl, hx⟩; have HE11 := Lib.hid (hx); clear hx)
        | (have hg := HE9; clear hg; go_at_call 18; (with_reducible refine (int_any (HI7.out _ (Ext.refl _)) (HT.out.ext ((((((((HE1.out.trans HE2.out).trans HE3.out).trans HE4.out).trans HE5.out).trans HE6.out).trans HE7.out).trans HE8.out).trans HE9.out))).mono ?_); rw [P7.out.1, P7.out.2]; rintro e w10 ⟨rfl, hx⟩; have HE10 := Lib.hid (hx); clear hx)
        | (have hg := HE8; clear hg; go_at_call 30; (with_reducible refine (mul_any (HI5.out _ HE8.out) (HI6.out _ (Ext.refl _)) (HT.out.ext (((((((HE1.out.trans HE2.out).trans HE3.out).trans HE4.out).trans HE5.out).trans HE6.out).trans HE7.out).trans HE8.out))).mono ?_); rw [E7.out]; rintro e w9 ⟨A7, c7, rfl, hon, hx⟩; have HE9 := Lib.hid (hx); have HI7 := Lib.hid (Dy.at_ hon Wo7.out.1 Wo7.out.2); clear hon; clear hx)
        | (have hg := HE7; clear hg; go_at_call 51; (with_reducible refine (of_any ym _ (HT.out.ext ((((((HE1.out.trans HE2.out).trans HE3.out).trans HE4.out).trans HE5.out).trans HE6.out).trans HE7.out)) hym1 hym2).mono ?_); rw [E6.out]; rintro e w8 ⟨A6, c6, rfl, hon, hx⟩; have HE8 := Lib.hid (hx); have HI6 := Lib.hid (Dy.at_ hon Wo6.out.1 Wo6.out.2); clear hon; clear hx)
        | (have hg := HE6; clear hg; go_at_call 51; (with_reducible refine (of_any xm _ (HT.out.ext (((((HE1.out.trans HE2.out).trans HE3.out).trans HE4.out).trans HE5.out).trans HE6.out)) hxm1 hxm2).mono ?_); rw [E5.out]; rintro e w7 ⟨A5, c5, rfl, hon, hx⟩; have HE7 := Lib.hid (hx); have HI5 := Lib.hid (Dy.at_ hon Wo5.out.1 Wo5.out.2); clear hon; clear hx)
        | (have hg := HE5; clear hg; go_at_call 18; (with_reducible refine (int_any (HI4.out _ (Ext.refl _)) (HT.out.ext ((((HE1.out.trans HE2.out).trans HE3.out).trans HE4.out).trans HE5.out))).mono ?_); rw [P4.out.1, P4.out.2]; rintro e w6 ⟨rfl, hx⟩; have HE6 := Lib.hid (hx); clear hx)
        | (have hg := HE4; clear hg; go_at_call 28; (with_reducible refine (add_any (HI2.out _ HE4.out) (HI3.out _ (Ext.refl _)) (HT.out.ext (((HE1.out.trans HE2.out).trans HE3.out).trans HE4.out))).mono ?_); rw [E4.out]; rintro e w5 ⟨A4, c4, rfl, hon, hx⟩; have HE5 := Lib.hid (hx); have HI4 := Lib.hid (Dy.at_ hon Wo4.out.1 Wo4.out.2); clear hon; clear hx)
        | (have hg := HE3; clear hg; go_at_call 51; (with_reducible refine (of_any yh _ (HT.out.ext ((HE1.out.trans HE2.out).trans HE3.out)) hyh1 hyh2).mono ?_); rw [E3.out]; rintro e w4 ⟨A3, c3, rfl, hon, hx⟩; have HE4 := Lib.hid (hx); have HI3 := Lib.hid (Dy.at_ hon Wo3.out.1 Wo3.out.2); clear hon; clear hx)
        | (have hg := HE2; clear hg; go_at_call 51; (with_reducible refine (of_any xh _ (HT.out.ext (HE1.out.trans HE2.out)) hxh1 hxh2).mono ?_); rw [E2.out]; rintro e w3 ⟨A2, c2, rfl, hon, hx⟩; have HE3 := Lib.hid (hx); have HI2 := Lib.hid (Dy.at_ hon Wo2.out.1 Wo2.out.2); clear hon; clear hx)
        | (have hg := HE1; clear hg; go_at_call 18; (with_reducible refine (int_any (HI1.out _ (Ext.refl _)) (HT.out.ext HE1.out)).mono ?_); rw [P1.out.1, P1.out.2]; rintro e w2 ⟨rfl, hx⟩; have HE2 := Lib.hid (hx); clear hx)
        | (go_at_call 51; (with_reducible refine (of_any x _ (HT.out.ext (Ext.refl _)) hx1 hx2).mono ?_); rw [E1.out]; rintro e w1 ⟨A1, c1, rfl, hon, hx⟩; have HE1 := Lib.hid (hx); have HI1 := Lib.hid (Dy.at_ hon Wo1.out.1 Wo1.out.2); clear hon; clear hx))
    all_goals
      go_ret
      exact ⟨rfl, X0.out.trans ((((((((((((((HE1.out.trans HE2.out).trans HE3.out).trans HE4.out).trans HE5.out).trans HE6.out).trans HE7.out).trans HE8.out).trans HE9.out).trans HE10.out).trans HE11.out).trans HE12.out).trans HE13.out).trans HE14.out).trans HE15.out)⟩

set_option maxRecDepth 100000 in
set_option maxHeartbeats 1000000 in
theorem ints_off {w : World} {x y k : Int} (hT : Tabs w) (h1 : 400 < k) (h2 : k ≤ 65536) :
    Calls Tryd.prog 9 #[I x, I y, I k] w fun e w' => e = .returned (.bool true) ∧ Ext w w' := by
  have HT0 := Lib.hid hT; clear hT
  go_enter Tryd.func9, Tryd.ntmps9
  go_wp2_with (go_at_call 14; (with_reducible refine (awake_any _ HT0.out).mono ?_); rintro e w0 ⟨rfl, hx⟩; have X0 := Lib.hid hx; clear hx)
  go_ret
  exact ⟨rfl, X0.out⟩

end Go.Proofs.YtgmmcfnahfcadaaDoor
