/- Curves: the greatest slope, by the code and by the reference. -/
import Derived.Test.YtdcollchhcjaaaaCrvk
namespace Go.Proofs.Ytdcollchhcjaaaa
open Go.RowKit

theorem cdv_nn {a r : Int} (ha : 0 ≤ a) (hr : 0 < r) : 0 ≤ cdv a r := by unfold cdv; exact Int.ediv_nonneg (by omega) (by omega)
theorem cdv_le {a r : Int} (ha : 0 ≤ a) (hr : 0 < r) : cdv a r ≤ a := by
  unfold cdv
  have : (a + r - 1) / r < a + 1 := by
    refine Int.ediv_lt_of_lt_mul hr ?_
    have h1 : a * 1 ≤ a * r := Int.mul_le_mul_of_nonneg_left (by omega) ha
    rw [Int.add_mul]; omega
  omega
theorem cdv_ref {a r : Int} (hr : 0 < r) : cdv a r = if 0 < a % r then a / r + 1 else a / r := by
  have e2 := Int.mul_ediv_add_emod a r
  have e3 := Int.emod_nonneg a (by omega : r ≠ 0)
  have e4 := Int.emod_lt_of_pos a hr
  unfold cdv
  rw [Int.mul_comm] at e2
  split
  · rename_i h
    rw [show a + r - 1 = (a % r - 1) + (a / r + 1) * r by rw [Int.add_mul]; omega, Int.add_mul_ediv_right _ _ (by omega), Int.ediv_eq_zero_of_lt (by omega) (by omega)]; omega
  · rename_i h
    rw [show a + r - 1 = (r - 1) + (a / r) * r by omega, Int.add_mul_ediv_right _ _ (by omega), Int.ediv_eq_zero_of_lt (by omega) (by omega)]; omega

/-- What the walks want to know of one step. -/
theorem st_facts {w : World} {ba oa bb ob N j : Nat} {X Y : Nat → Int} (k : Crv (N + 1) X Y) (m : Cur w ba oa bb ob (N + 1) X Y) {d : Int} (hj : j + 1 ≤ N) (h1 : 0 ≤ d) (h2 : d ≤ 2147483648) :
    ∃ (run rise p v : Int), w.cell? ⟨ba, oa + j, none⟩ = some (I (X j)) ∧ w.cell? ⟨ba, oa + (j + 1), none⟩ = some (I (X (j + 1))) ∧ w.cell? ⟨bb, ob + j, none⟩ = some (I (Y j)) ∧ w.cell? ⟨bb, ob + (j + 1), none⟩ = some (I (Y (j + 1))) ∧
      IntKind.i64.wrap (((j + 1 : Nat) : Int) - 1) = (j : Int) ∧ IntKind.i64.wrap (X (j + 1) - X j) = run ∧ IntKind.i64.wrap (Y (j + 1) - Y j) = rise ∧ wrap64 (d * rise) = p ∧ wrap64 (p + run) = p + run ∧ wrap64 (p + run - 1) = p + run - 1 ∧ (p + run - 1).tdiv run = v ∧
      wrap64 v = v ∧ run ≠ 0 ∧ p.tdiv run = p / run ∧ p.tmod run = p % run ∧ wrap64 (p / run) = p / run ∧ wrap64 (p / run + 1) = p / run + 1 ∧ Hid (cdv (d * (Y (j + 1) - Y j)) (X (j + 1) - X j) = v ∧ v = (if 0 < p % run then p / run + 1 else p / run) ∧ 0 ≤ v) := by
  have hm := k.mX j (by omega)
  have hm2 := k.mY j (by omega)
  obtain ⟨a1, a2⟩ := k.bX j (by omega)
  obtain ⟨b1, b2⟩ := k.bX (j + 1) (by omega)
  obtain ⟨c1, c2⟩ := k.bY j (by omega)
  obtain ⟨d1, d2⟩ := k.bY (j + 1) (by omega)
  have t5 := k.le
  have t1 := mul_bd (a := d) (b := Y (j + 1) - Y j) (A := 2147483648) (B := 2147483648) (by omega) (by omega) (by omega) (by omega)
  have t0 : 0 ≤ d * (Y (j + 1) - Y j) := Int.mul_nonneg h1 (by omega)
  have q0 := cdv_nn t0 (show 0 < X (j + 1) - X j by omega)
  have q1 := cdv_le t0 (show 0 < X (j + 1) - X j by omega)
  have q2 := cdv_ref (a := d * (Y (j + 1) - Y j)) (show 0 < X (j + 1) - X j by omega)
  have u0 := Int.ediv_nonneg t0 (show 0 ≤ X (j + 1) - X j by omega)
  have u1 : d * (Y (j + 1) - Y j) / (X (j + 1) - X j) ≤ d * (Y (j + 1) - Y j) := Int.ediv_le_self _ t0
  have s1 : (d * (Y (j + 1) - Y j) + (X (j + 1) - X j) - 1).tdiv (X (j + 1) - X j) = cdv (d * (Y (j + 1) - Y j)) (X (j + 1) - X j) := Int.tdiv_eq_ediv_of_nonneg (by omega)
  have s2 : (d * (Y (j + 1) - Y j)).tdiv (X (j + 1) - X j) = d * (Y (j + 1) - Y j) / (X (j + 1) - X j) := Int.tdiv_eq_ediv_of_nonneg t0
  have s3 : (d * (Y (j + 1) - Y j)).tmod (X (j + 1) - X j) = d * (Y (j + 1) - Y j) % (X (j + 1) - X j) := Int.tmod_eq_emod_of_nonneg t0
  refine ⟨X (j + 1) - X j, Y (j + 1) - Y j, d * (Y (j + 1) - Y j), cdv (d * (Y (j + 1) - Y j)) (X (j + 1) - X j), m.ca j (by omega), m.ca (j + 1) (by omega), m.cb j (by omega), m.cb (j + 1) (by omega), ?_, ?_, ?_, ?_, ?_, ?_, s1, ?_, by omega, s2, s3, ?_, ?_, rfl, q2, q0⟩
  · rw [show ((j + 1 : Nat) : Int) - 1 = (j : Int) by omega]; exact wrap_in (by omega) (by omega)
  · exact wrap_in (by omega) (by omega)
  · exact wrap_in (by omega) (by omega)
  · exact wrap_id (by omega) (by omega)
  · exact wrap_id (by omega) (by omega)
  · exact wrap_id (by omega) (by omega)
  · exact wrap_id (by omega) (by omega)
  · exact wrap_id (by omega) (by omega)
  · exact wrap_id (by omega) (by omega)

theorem stp_lt {X Y : Nat → Int} {d v : Int} {k : Nat} (hv : cdv (d * (Y (k + 1) - Y k)) (X (k + 1) - X k) = v) (h : stp X Y d k < v) : stp X Y d (k + 1) = v := by
  show (if stp X Y d k < cdv _ _ then cdv _ _ else stp X Y d k) = v
  rw [hv, if_pos h]
theorem stp_nlt {X Y : Nat → Int} {d v : Int} {k : Nat} (hv : cdv (d * (Y (k + 1) - Y k)) (X (k + 1) - X k) = v) (h : ¬ stp X Y d k < v) : stp X Y d (k + 1) = stp X Y d k := by
  show (if stp X Y d k < cdv _ _ then cdv _ _ else stp X Y d k) = _
  rw [hv, if_neg h]

set_option maxRecDepth 100000 in
set_option maxHeartbeats 1000000 in
theorem steepest_ok {w : World} {ba oa c bb ob e n : Nat} {X Y : Nat → Int} (hz : chk n n X Y = 0) (r : Cur w ba oa bb ob n X Y) (d : Int) :
    Calls Try.prog 23 #[cw ba oa c bb ob e n, I d] w fun e' w' => e' = .returned (.tuple #[I (steep n X Y d), .nilIface]) ∧ Ext w w' := by
  have k := (crv_of hz).2
  have HC := Lib.hid (fun w' (he : Ext w w') => check_ok (c := c) (e := e) hz r w' he)
  obtain ⟨N, rfl⟩ : ∃ N, n = N + 1 := ⟨n - 1, by have := k.two; omega⟩
  have hN1 := k.two
  have hN2 := k.le
  have hba := r.la
  have hbb := r.lb
  have ha2 : ba < w.heap.size + 1 := by omega
  have hb2 : bb < w.heap.size + 1 := by omega
  have ha3 : ba ≠ w.heap.size := by omega
  have hb3 : bb ≠ w.heap.size := by omega
  have K := Lib.hid k
  have R := Lib.hid r
  unfold steep
  rw [Nat.add_sub_cancel]
  clear hz r k
  go_enter Try.func23, Try.ntmps23
  go_upto_region 5 with (go_at_call 17; (with_reducible refine (HC.out _ (Ext.alloc _ _)).mono ?_); rintro e1 w1 ⟨rfl, hb⟩; obtain ⟨hc, hf⟩ := hb.old)
  obtain ⟨D, hD⟩ : ∃ D, cl31 d = D := ⟨_, rfl⟩
  have e0 : (if 2147483648 < if d < 0 then 0 else d then 2147483648 else if d < 0 then 0 else d) = D := by rw [← hD]; unfold cl31; split <;> (try split) <;> (try split) <;> omega
  rw [e0]
  generalize (if d < 0 then (0 : Int) else d) = z
  have HD := Lib.hid (cl31_bd d)
  rw [hD] at HD
  have HE : Hid (stp X Y (cl31 d) N = stp X Y D N) := by show stp X Y (cl31 d) N = stp X Y D N; rw [hD]
  clear e0 hD
  go_wp2_with fail
  go_loopw [7, 8] (fun s t wr => Ext (w.alloc (.cells #[.slice (some ⟨ba, oa, none⟩) (N + 1) c, .slice (some ⟨bb, ob, none⟩) (N + 1) e] 24)) wr ∧ ∃ (j : Nat) (b : Int), s = I b ∧ t = I ((j + 1 : Nat) : Int) ∧ j ≤ N ∧ Hid (stp X Y D j = b)) (fun _ t _ => N + 1 - (intOf t).toNat)
  case atStart => exact ⟨(by repeat (first | exact Ext.refl _ | assumption | exact Ext.alloc _ _ | refine Ext.trans ?_ (by assumption) | refine Ext.trans ?_ (Ext.alloc _ _) | refine Ext.trans ?_ (Ext.drewN _ _) | refine Ext.trans ?_ (Ext.drew _))), 0, 0, rfl, rfl, Nat.zero_le _, rfl⟩
  case round =>
    clear hb hc hf
    obtain ⟨hb, j, b, rfl, rfl, hjN, HJ⟩ := hrel
    obtain ⟨hc, hf⟩ := hb.old
    by_cases hj : j + 1 ≤ N
    · obtain ⟨run, rise, p, v, xj, xk, yj, yk, e2, e3, e4, e5, e6, e7, e8, e9, f1, f2, f3, f4, f5, HV⟩ := st_facts K.out R.out hj HD.out.1 HD.out.2
      have hj2 : (j : Int) + 1 < (N : Int) + 1 := by omega
      have HN := Lib.hid (show (N : Int) + 1 ≤ 32 by omega)
      by_cases hv : b < v
      · have HS := Lib.hid (stp_lt HV.out.1 (by rw [HJ.out]; exact hv))
        go_wp2_with fail
        go_quiet (fail)
        go_wp2_with fail
        go_roundw
        case rel => exact ⟨(by repeat (first | exact Ext.refl _ | assumption | exact Ext.alloc _ _ | refine Ext.trans ?_ (by assumption) | refine Ext.trans ?_ (Ext.alloc _ _) | refine Ext.trans ?_ (Ext.drewN _ _) | refine Ext.trans ?_ (Ext.drew _))), j + 1, v, rfl, by go_num, by omega, HS.out⟩
        case measure => simp [intOf]; omega
      · have HS := Lib.hid (stp_nlt HV.out.1 (by rw [HJ.out]; exact hv))
        go_wp2_with fail
        go_quiet (fail)
        go_wp2_with fail
        go_roundw
        case rel => exact ⟨(by repeat (first | exact Ext.refl _ | assumption | exact Ext.alloc _ _ | refine Ext.trans ?_ (by assumption) | refine Ext.trans ?_ (Ext.alloc _ _) | refine Ext.trans ?_ (Ext.drewN _ _) | refine Ext.trans ?_ (Ext.drew _))), j + 1, b, rfl, by go_num, by omega, by show stp X Y D (j + 1) = b; rw [HS.out, HJ.out]⟩
        case measure => simp [intOf]; omega
    · obtain rfl : j = N := by omega
      go_wp2_with fail
      go_ret2
      exact ⟨by rw [HE.out, HJ.out]; rfl, (by repeat (first | exact Ext.refl _ | assumption | exact Ext.alloc _ _ | refine Ext.trans ?_ (by assumption) | refine Ext.trans ?_ (Ext.alloc _ _) | refine Ext.trans ?_ (Ext.drewN _ _) | refine Ext.trans ?_ (Ext.drew _)))⟩

set_option maxRecDepth 100000 in
set_option maxHeartbeats 1000000 in
theorem steepest_bad {w : World} {A B : Option Addr} {n c m e : Nat} {X Y : Nat → Int} {k : Int} (hz : chk n m X Y = k) (hk : k ≠ 0) (ra : Ri w A n X) (rb : Ri w B m Y) (hn : n ≤ maxLen) (hm : m ≤ maxLen) (d : Int) :
    Calls Try.prog 23 #[cv A n c B m e, I d] w fun e' w' => e' = .returned (.tuple #[I 0, .iface 51 (I k)]) ∧ Ext w w' := by
  have HC := Lib.hid (fun w' (he : Ext w w') => check_bad (c := c) (e := e) hz hk ra rb hn hm w' he)
  clear hz hk ra rb hn hm
  go_enter Try.func23, Try.ntmps23
  go_wp2_with (go_at_call 17; (refine (HC.out _ (Ext.alloc _ _)).mono ?_); rintro e1 w1 ⟨rfl, hb⟩; obtain ⟨hc, hf⟩ := hb.old)
  go_ret2
  exact ⟨rfl, (by repeat (first | exact Ext.refl _ | assumption | exact Ext.alloc _ _ | refine Ext.trans ?_ (by assumption) | refine Ext.trans ?_ (Ext.alloc _ _) | refine Ext.trans ?_ (Ext.drewN _ _) | refine Ext.trans ?_ (Ext.drew _)))⟩

set_option maxRecDepth 100000 in
set_option maxHeartbeats 1000000 in
theorem rsteepest_any {w : World} {ba oa c bb ob e n : Nat} {X Y : Nat → Int} (k : Crv n X Y) (r : Cur w ba oa bb ob n X Y) (d : Int) (hd : -9223372036854775808 ≤ d ∧ d ≤ 9223372036854775807) :
    Calls Try.prog 24 #[cw ba oa c bb ob e n, I d] w fun e' w' => e' = .returned (I (steep n X Y d)) ∧ Ext w w' := by
  obtain ⟨N, rfl⟩ : ∃ N, n = N + 1 := ⟨n - 1, by have := k.two; omega⟩
  have hN1 := k.two
  have hN2 := k.le
  have hba := r.la
  have hbb := r.lb
  have ha2 : ba < w.heap.size + 1 := by omega
  have hb2 : bb < w.heap.size + 1 := by omega
  have ha3 : ba ≠ w.heap.size := by omega
  have hb3 : bb ≠ w.heap.size := by omega
  have K := Lib.hid k
  have R := Lib.hid r
  unfold steep
  rw [Nat.add_sub_cancel]
  clear r k
  go_enter Try.func24, Try.ntmps24
  go_upto_region 2 with fail
  obtain ⟨D, hD⟩ : ∃ D, cl31 d = D := ⟨_, rfl⟩
  have e0 : (if 0 < if 2147483648 < d then 2147483648 else d then if 2147483648 < d then 2147483648 else d else 0) = D := by rw [← hD]; unfold cl31; split <;> (try split) <;> (try split) <;> omega
  rw [e0]
  generalize (if 2147483648 < d then (2147483648 : Int) else d) = z
  have HD := Lib.hid (cl31_bd d)
  rw [hD] at HD
  have HE : Hid (stp X Y (cl31 d) N = stp X Y D N) := by show stp X Y (cl31 d) N = stp X Y D N; rw [hD]
  clear e0 hD hd
  go_wp2_with fail
  go_loopw [5, 6] (fun s t wr => Ext (w.alloc (.cells #[.slice (some ⟨ba, oa, none⟩) (N + 1) c, .slice (some ⟨bb, ob, none⟩) (N + 1) e] 24)) wr ∧ ∃ (j : Nat) (b : Int), s = I b ∧ t = I ((j + 1 : Nat) : Int) ∧ j ≤ N ∧ Hid (stp X Y D j = b)) (fun _ t _ => N + 1 - (intOf t).toNat)
  case atStart => exact ⟨(by repeat (first | exact Ext.refl _ | assumption | exact Ext.alloc _ _ | refine Ext.trans ?_ (by assumption) | refine Ext.trans ?_ (Ext.alloc _ _) | refine Ext.trans ?_ (Ext.drewN _ _) | refine Ext.trans ?_ (Ext.drew _))), 0, 0, rfl, rfl, Nat.zero_le _, rfl⟩
  case round =>
    obtain ⟨hb, j, b, rfl, rfl, hjN, HJ⟩ := hrel
    obtain ⟨hc, hf⟩ := hb.old
    by_cases hj : j + 1 ≤ N
    · obtain ⟨run, rise, p, v, xj, xk, yj, yk, e2, e3, e4, e5, e6, e7, e8, e9, f1, f2, f3, f4, f5, HV⟩ := st_facts K.out R.out hj HD.out.1 HD.out.2
      have hj2 : (j : Int) + 1 < (N : Int) + 1 := by omega
      have HN := Lib.hid (show (N : Int) + 1 ≤ 32 by omega)
      by_cases hq : 0 < p % run
      · have ev : v = p / run + 1 := by have := HV.out.2.1; rw [if_pos hq] at this; exact this
        subst ev
        by_cases hv : b < p / run + 1
        · have HS := Lib.hid (stp_lt HV.out.1 (by rw [HJ.out]; exact hv))
          go_wp2_with fail
          go_quiet (fail)
          go_wp2_with fail
          go_roundw
          case rel => exact ⟨(by repeat (first | exact Ext.refl _ | assumption | exact Ext.alloc _ _ | refine Ext.trans ?_ (by assumption) | refine Ext.trans ?_ (Ext.alloc _ _) | refine Ext.trans ?_ (Ext.drewN _ _) | refine Ext.trans ?_ (Ext.drew _))), j + 1, p / run + 1, rfl, by go_num, by omega, HS.out⟩
          case measure => simp [intOf]; omega
        · have HS := Lib.hid (stp_nlt HV.out.1 (by rw [HJ.out]; exact hv))
          go_wp2_with fail
          go_quiet (fail)
          go_wp2_with fail
          go_roundw
          case rel => exact ⟨(by repeat (first | exact Ext.refl _ | assumption | exact Ext.alloc _ _ | refine Ext.trans ?_ (by assumption) | refine Ext.trans ?_ (Ext.alloc _ _) | refine Ext.trans ?_ (Ext.drewN _ _) | refine Ext.trans ?_ (Ext.drew _))), j + 1, b, rfl, by go_num, by omega, by show stp X Y D (j + 1) = b; rw [HS.out, HJ.out]⟩
          case measure => simp [intOf]; omega
      · have ev : v = p / run := by have := HV.out.2.1; rw [if_neg hq] at this; exact this
        subst ev
        by_cases hv : b < p / run
        · have HS := Lib.hid (stp_lt HV.out.1 (by rw [HJ.out]; exact hv))
          go_wp2_with fail
          go_quiet (fail)
          go_wp2_with fail
          go_roundw
          case rel => exact ⟨(by repeat (first | exact Ext.refl _ | assumption | exact Ext.alloc _ _ | refine Ext.trans ?_ (by assumption) | refine Ext.trans ?_ (Ext.alloc _ _) | refine Ext.trans ?_ (Ext.drewN _ _) | refine Ext.trans ?_ (Ext.drew _))), j + 1, p / run, rfl, by go_num, by omega, HS.out⟩
          case measure => simp [intOf]; omega
        · have HS := Lib.hid (stp_nlt HV.out.1 (by rw [HJ.out]; exact hv))
          go_wp2_with fail
          go_quiet (fail)
          go_wp2_with fail
          go_roundw
          case rel => exact ⟨(by repeat (first | exact Ext.refl _ | assumption | exact Ext.alloc _ _ | refine Ext.trans ?_ (by assumption) | refine Ext.trans ?_ (Ext.alloc _ _) | refine Ext.trans ?_ (Ext.drewN _ _) | refine Ext.trans ?_ (Ext.drew _))), j + 1, b, rfl, by go_num, by omega, by show stp X Y D (j + 1) = b; rw [HS.out, HJ.out]⟩
          case measure => simp [intOf]; omega
    · obtain rfl : j = N := by omega
      go_wp2_with fail
      go_ret
      exact ⟨by rw [HE.out, HJ.out]; rfl, (by repeat (first | exact Ext.refl _ | assumption | exact Ext.alloc _ _ | refine Ext.trans ?_ (by assumption) | refine Ext.trans ?_ (Ext.alloc _ _) | refine Ext.trans ?_ (Ext.drewN _ _) | refine Ext.trans ?_ (Ext.drew _)))⟩
end Go.Proofs.Ytdcollchhcjaaaa
