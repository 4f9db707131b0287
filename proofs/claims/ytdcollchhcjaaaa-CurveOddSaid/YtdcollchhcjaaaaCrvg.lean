/- Curves: the value as a fraction in the reference; At of both. -/
import Derived.Test.YtdcollchhcjaaaaCrvf
import Derived.Test.YtdcollchhcjaaaaCrve

namespace Go.Proofs.Ytdcollchhcjaaaa
open Go.RowKit

theorem rmid_facts {w : World} {ba oa bb ob N j : Nat} {X Y : Nat → Int} (k : Crv (N + 1) X Y) (m : Cur w ba oa bb ob (N + 1) X Y) {x : Int} (hj : j + 1 ≤ N) (h1 : X j < x) (h2 : x ≤ X (j + 1)) :
    ∃ (dx dy p z q sn : Int), w.cell? ⟨ba, oa + j, none⟩ = some (I (X j)) ∧ w.cell? ⟨ba, oa + (j + 1), none⟩ = some (I (X (j + 1))) ∧ w.cell? ⟨bb, ob + j, none⟩ = some (I (Y j)) ∧ w.cell? ⟨bb, ob + (j + 1), none⟩ = some (I (Y (j + 1))) ∧
      IntKind.i64.wrap (((j + 1 : Nat) : Int) - 1) = (j : Int) ∧ IntKind.i64.wrap (X (j + 1) - X j) = dx ∧ IntKind.i64.wrap (Y (j + 1) - Y j) = dy ∧ IntKind.i64.wrap (Y j * dx) = p ∧ IntKind.i64.wrap (x - X j) = z ∧ IntKind.i64.wrap (dy * z) = q ∧ IntKind.i64.wrap (p + q) = sn ∧
      Hid (IsVal (N + 1) X Y x sn dx) := by
  have hv := isval_seg k (i := j) (x := x) (by omega) (by omega) h2
  have e : Y j * (X (j + 1) - x) + Y (j + 1) * (x - X j) = Y j * (X (j + 1) - X j) + (Y (j + 1) - Y j) * (x - X j) := by grind
  rw [e] at hv
  have hm := k.mX j (by omega)
  have hm2 := k.mY j (by omega)
  obtain ⟨a1, a2⟩ := k.bX j (by omega)
  obtain ⟨b1, b2⟩ := k.bX (j + 1) (by omega)
  obtain ⟨c1, c2⟩ := k.bY j (by omega)
  obtain ⟨d1, d2⟩ := k.bY (j + 1) (by omega)
  have t1 := mul_bd (a := Y j) (b := X (j + 1) - X j) (A := 1073741824) (B := 2147483648) (by omega) (by omega) (by omega) (by omega)
  have t2 := mul_bd (a := Y (j + 1) - Y j) (b := x - X j) (A := 2147483648) (B := 2147483648) (by omega) (by omega) (by omega) (by omega)
  have t3 := hv.lo
  have t4 := hv.hi
  have t5 := k.le
  refine ⟨X (j + 1) - X j, Y (j + 1) - Y j, Y j * (X (j + 1) - X j), x - X j, (Y (j + 1) - Y j) * (x - X j), Y j * (X (j + 1) - X j) + (Y (j + 1) - Y j) * (x - X j), m.ca j (by omega), m.ca (j + 1) (by omega), m.cb j (by omega), m.cb (j + 1) (by omega), ?_, ?_, ?_, ?_, ?_, ?_, ?_, hv⟩
  · rw [show ((j + 1 : Nat) : Int) - 1 = (j : Int) by omega]; exact wrap_in (by omega) (by omega)
  · exact wrap_in (by omega) (by omega)
  · exact wrap_in (by omega) (by omega)
  · exact wrap_in (by omega) (by omega)
  · exact wrap_in (by omega) (by omega)
  · exact wrap_in (by omega) (by omega)
  · exact wrap_in (by omega) (by omega)

set_option maxRecDepth 100000 in
set_option maxHeartbeats 1000000 in
theorem rvalue_any {w : World} {ba oa c bb ob e n : Nat} {X Y : Nat → Int} (k : Crv n X Y) (r : Cur w ba oa bb ob n X Y) (x : Int) :
    Calls Try.prog 37 #[cw ba oa c bb ob e n, I x] w (ValRes n X Y x w) := by
  obtain ⟨N, rfl⟩ : ∃ N, n = N + 1 := ⟨n - 1, by have := k.two; omega⟩
  have hN1 := k.two
  have hN2 := k.le
  have hba := r.la
  have hbb := r.lb
  have ha2 : ba < w.heap.size + 1 := by omega
  have hb2 : bb < w.heap.size + 1 := by omega
  have ha3 : ba ≠ w.heap.size := by omega
  have hb3 : bb ≠ w.heap.size := by omega
  have x0 := r.ca 0 (by omega)
  have y0 := r.cb 0 (by omega)
  rw [Nat.add_zero] at x0 y0
  by_cases h1 : x ≤ X 0
  · have HV : Hid (IsVal (N + 1) X Y x (Y 0) 1) := isval_whole (vl_lo h1) (k.bY 0 (by omega))
    clear k r
    go_enter Try.func37, Try.ntmps37
    go_wp2
    go_ret2
    exact ⟨_, _, rfl, HV, (by repeat (first | exact Ext.refl _ | assumption | exact Ext.alloc _ _ | refine Ext.trans ?_ (by assumption) | refine Ext.trans ?_ (Ext.alloc _ _) | refine Ext.trans ?_ (Ext.drewN _ _) | refine Ext.trans ?_ (Ext.drew _)))⟩
  · have K := Lib.hid k; clear k
    have R := Lib.hid r; clear r
    have H1 : Hid (X 0 < x) := by show X 0 < x; omega
    have HN : Hid ((N : Int) + 1 ≤ 32) := by show (N : Int) + 1 ≤ 32; omega
    go_enter Try.func37, Try.ntmps37
    go_wp2_with fail
    go_loopw [7] (fun s wr => Ext (w.alloc (.cells #[.slice (some ⟨ba, oa, none⟩) (N + 1) c, .slice (some ⟨bb, ob, none⟩) (N + 1) e] 24)) wr ∧ ∃ j : Nat, s = I ((j + 1 : Nat) : Int) ∧ j ≤ N ∧ Hid (X j < x)) (fun s _ => N + 1 - (intOf s).toNat)
    case atStart => exact ⟨Ext.refl _, 0, rfl, Nat.zero_le _, H1⟩
    case round =>
      obtain ⟨hb, j, rfl, hjN, HJ⟩ := hrel
      obtain ⟨hc, hf⟩ := hb.old
      by_cases hj : j + 1 ≤ N
      · have xk0 := R.out.ca (j + 1) (by omega)
        by_cases h2 : x ≤ X (j + 1)
        · obtain ⟨dx, dy, p, z, q, sn, xj, xk, yj, yk, e2, e3, e4, e5, e6, e7, e8, HQ⟩ := rmid_facts K.out R.out hj HJ.out h2
          clear xk0
          have hj2 : (j : Int) + 1 < (N : Int) + 1 := by omega
          go_wp2_with fail
          go_quiet (fail)
          go_wp2_with fail
          go_quiet (fail)
          go_wp2_with fail
          go_ret2
          exact ⟨_, _, rfl, HQ, (by repeat (first | exact Ext.refl _ | assumption | exact Ext.alloc _ _ | refine Ext.trans ?_ (by assumption) | refine Ext.trans ?_ (Ext.alloc _ _) | refine Ext.trans ?_ (Ext.drewN _ _) | refine Ext.trans ?_ (Ext.drew _)))⟩
        · have HJ2 : Hid (X (j + 1) < x) := by show X (j + 1) < x; omega
          have hj2 : (j : Int) + 1 < (N : Int) + 1 := by omega
          go_wp2_with fail
          go_roundw
          case rel => exact ⟨(by repeat (first | exact Ext.refl _ | assumption | exact Ext.alloc _ _ | refine Ext.trans ?_ (by assumption) | refine Ext.trans ?_ (Ext.alloc _ _) | refine Ext.trans ?_ (Ext.drewN _ _) | refine Ext.trans ?_ (Ext.drew _))), j + 1, by go_num, by omega, HJ2⟩
          case measure => simp [intOf]; omega
      · obtain rfl : j = N := by omega
        have yn := R.out.cb j (by omega)
        have e1 : IntKind.i64.wrap ((j : Int) + 1 - 1) = (j : Int) := by rw [show ((j : Int) + 1 - 1) = (j : Int) by omega]; exact IntWalk.i64_in _ (by omega)
        have HV : Hid (IsVal (j + 1) X Y x (Y j) 1) := isval_whole (by have := vl_hi K.out (x := x) (by have := HJ.out; simp; omega); simpa using this) (K.out.bY j (by omega))
        go_wp2_with fail
        go_ret2
        exact ⟨_, _, rfl, HV, (by repeat (first | exact Ext.refl _ | assumption | exact Ext.alloc _ _ | refine Ext.trans ?_ (by assumption) | refine Ext.trans ?_ (Ext.alloc _ _) | refine Ext.trans ?_ (Ext.drewN _ _) | refine Ext.trans ?_ (Ext.drew _)))⟩

theorem atv_range {n : Nat} {X Y : Nat → Int} (k : Crv n X Y) (x : Int) : -1073741824 ≤ atv n X Y x ∧ atv n X Y x ≤ 1073741824 := by
  have h := k.two
  obtain ⟨a, b⟩ := atv_bd k x
  have := k.bY 0 (by omega)
  have := k.bY (n - 1) (by omega)
  omega

set_option maxRecDepth 100000 in
set_option maxHeartbeats 1000000 in
theorem truncated_any {w : World} {ba oa c bb ob e n : Nat} {X Y : Nat → Int} (k : Crv n X Y) (r : Cur w ba oa bb ob n X Y) (x : Int) (hx : -9223372036854775808 ≤ x ∧ x ≤ 9223372036854775807) :
    Calls Try.prog 36 #[cw ba oa c bb ob e n, I x] w fun e' w' => e' = .returned (I (atv n X Y x)) ∧ Ext w w' := by
  have HS := Lib.hid (fun w' (he : Ext w w') => value_any (c := c) (e := e) k (r.ext he) x hx)
  have HA := Lib.hid (atv_range k x)
  clear k r
  go_enter Try.func36, Try.ntmps36
  go_wp2_with (go_at_call 42; (refine (HS.out _ (Ext.alloc _ _)).mono ?_); rintro e1 w1 ⟨num, den, rfl, HV, hb⟩; have hd : den ≠ 0 := (by have := HV.out.pos; omega); have q1 := HV.out.tru; obtain ⟨q2, q3⟩ := HA.out)
  go_ret
  exact ⟨by first | rfl | rw [q1], (by repeat (first | exact Ext.refl _ | assumption | exact Ext.alloc _ _ | refine Ext.trans ?_ (by assumption) | refine Ext.trans ?_ (Ext.alloc _ _) | refine Ext.trans ?_ (Ext.drewN _ _) | refine Ext.trans ?_ (Ext.drew _)))⟩

set_option maxRecDepth 100000 in
set_option maxHeartbeats 1000000 in
theorem rat_any {w : World} {ba oa c bb ob e n : Nat} {X Y : Nat → Int} (k : Crv n X Y) (r : Cur w ba oa bb ob n X Y) (x : Int) :
    Calls Try.prog 20 #[cw ba oa c bb ob e n, I x] w fun e' w' => e' = .returned (I (atv n X Y x)) ∧ Ext w w' := by
  have HS := Lib.hid (fun w' (he : Ext w w') => rvalue_any (c := c) (e := e) k (r.ext he) x)
  have HA := Lib.hid (atv_range k x)
  clear k r
  go_enter Try.func20, Try.ntmps20
  go_wp2_with (go_at_call 37; (refine (HS.out _ (Ext.alloc _ _)).mono ?_); rintro e1 w1 ⟨num, den, rfl, HV, hb⟩; have hd : den ≠ 0 := (by have := HV.out.pos; omega); have q1 := HV.out.tru; obtain ⟨q2, q3⟩ := HA.out)
  go_ret
  exact ⟨by first | rfl | rw [q1], (by repeat (first | exact Ext.refl _ | assumption | exact Ext.alloc _ _ | refine Ext.trans ?_ (by assumption) | refine Ext.trans ?_ (Ext.alloc _ _) | refine Ext.trans ?_ (Ext.drewN _ _) | refine Ext.trans ?_ (Ext.drew _)))⟩
end Go.Proofs.Ytdcollchhcjaaaa
