/- The laws CurveChecks, CurveAt, CurveInverts: they return true. -/
import Derived.Test.YtdcollchhcjaaaaCrvk
namespace Go.Proofs.Ytdcollchhcjaaaa
open Go.RowKit

set_option maxRecDepth 100000 in
set_option maxHeartbeats 1000000 in
theorem checks_long {w : World} (A B : Option Addr) (n c m e : Nat) (h : 100 < n ∨ 100 < m) (hn : n ≤ maxLen) (hm : m ≤ maxLen) :
    Calls Try.prog 3 #[cv A n c B m e] w fun e' w' => e' = .returned (.bool true) ∧ Ext w w' := by
  have HL := Lib.hid (fun w' => large_t A B n c m e w' h hn hm)
  clear h
  go_enter Try.func3, Try.ntmps3
  go_wp2_with (first
    | (go_at_call 14; refine (awake_any _).mono ?_; rintro e w1 ⟨rfl, hb1⟩; (first | replace hb := Ext.trans hb hb1 | replace hb := Ext.trans (Ext.trans hb (Ext.drewN _ _)) hb1 | replace hb := Ext.trans (Ext.trans hb (Ext.alloc _ _)) hb1 | have hb := hb1); clear hb1; obtain ⟨hc1, hf1⟩ := hb.old)
    | (go_at_call 15; (with_reducible refine (HL.out _).mono ?_); rintro e1 w1 ⟨rfl, hb1⟩; replace hb := Ext.trans hb hb1; clear hb1; obtain ⟨hc1, hf1⟩ := hb.old))
  go_ret
  exact ⟨rfl, (by repeat (first | exact Ext.refl _ | assumption | exact Ext.alloc _ _ | refine Ext.trans ?_ (by assumption) | refine Ext.trans ?_ (Ext.alloc _ _) | refine Ext.trans ?_ (Ext.drewN _ _) | refine Ext.trans ?_ (Ext.drew _)))⟩

set_option maxRecDepth 100000 in
set_option maxHeartbeats 1000000 in
theorem checks_any {w : World} {A B : Option Addr} {n c m e : Nat} {X Y : Nat → Int} (ra : Ri w A n X) (rb : Ri w B m Y) (hn : n ≤ 100) (hm : m ≤ 100) :
    Calls Try.prog 3 #[cv A n c B m e] w fun e' w' => e' = .returned (.bool true) ∧ Ext w w' := by
  have hn' : n ≤ maxLen := by unfold maxLen; omega
  have hm' : m ≤ maxLen := by unfold maxLen; omega
  have HL := Lib.hid (fun w' => large_f A B n c m e w' hn hm)
  have HC := Lib.hid (fun w' (he : Ext w w') => check_any (c := c) (e := e) (ra.ext he) (rb.ext he) hn' hm')
  have HR := Lib.hid (fun w' (he : Ext w w') => rcheck_any (c := c) (e := e) (ra.ext he) (rb.ext he) hn' hm')
  obtain ⟨k, hk⟩ : ∃ k, chk n m X Y = k := ⟨_, rfl⟩
  rw [hk] at HC HR
  clear hn' hm' hn hm ra rb hk
  go_enter Try.func3, Try.ntmps3
  go_wp2_with (first
    | (go_at_call 14; refine (awake_any _).mono ?_; rintro e w1 ⟨rfl, hb1⟩; (first | replace hb := Ext.trans hb hb1 | replace hb := Ext.trans (Ext.trans hb (Ext.drewN _ _)) hb1 | replace hb := Ext.trans (Ext.trans hb (Ext.alloc _ _)) hb1 | have hb := hb1); clear hb1; obtain ⟨hc1, hf1⟩ := hb.old)
    | (go_at_call 15; (with_reducible refine (HL.out _).mono ?_); rintro e1 w1 ⟨rfl, hb1⟩; replace hb := Ext.trans hb hb1; clear hb1; obtain ⟨hc1, hf1⟩ := hb.old))
  have hL := fun (x : Later _) => (Ext.trans hb x.ext).old.1
  refine wp_region_later (by kernel_rfl) (by kernel_rfl) ?_
  repeat (go_big_quiet_step ((first | (go_at_call 17; exact Calls.later (HC.out _ (((Ext.alloc _ _).trans hb).trans (Later.ext _)))) | (go_at_call 16; exact Calls.later (num_any _ _)) | (go_at_call 18; exact Calls.later (HR.out _ (((Ext.alloc _ _).trans hb).trans (Later.ext _)))))))
  refine wpQuiet_nil ?_
  intro w2 hw2
  replace hb := Ext.trans hb (Later.of hw2)
  clear hw2 hL
  obtain ⟨hc, hf⟩ := hb.old
  go_wp2_with fail
  go_ret
  exact ⟨rfl, (by repeat (first | exact Ext.refl _ | assumption | exact Ext.alloc _ _ | refine Ext.trans ?_ (by assumption) | refine Ext.trans ?_ (Ext.alloc _ _) | refine Ext.trans ?_ (Ext.drewN _ _) | refine Ext.trans ?_ (Ext.drew _)))⟩

set_option maxRecDepth 100000 in
set_option maxHeartbeats 1000000 in
theorem at_long {w : World} (A B : Option Addr) (n c m e : Nat) (x : Int) (h : 100 < n ∨ 100 < m) (hn : n ≤ maxLen) (hm : m ≤ maxLen) :
    Calls Try.prog 4 #[cv A n c B m e, I x] w fun e' w' => e' = .returned (.bool true) ∧ Ext w w' := by
  have HL := Lib.hid (fun w' => large_t A B n c m e w' h hn hm)
  clear h
  go_enter Try.func4, Try.ntmps4
  go_wp2_with (first
    | (go_at_call 14; refine (awake_any _).mono ?_; rintro e w1 ⟨rfl, hb1⟩; (first | replace hb := Ext.trans hb hb1 | replace hb := Ext.trans (Ext.trans hb (Ext.drewN _ _)) hb1 | replace hb := Ext.trans (Ext.trans hb (Ext.alloc _ _)) hb1 | have hb := hb1); clear hb1; obtain ⟨hc1, hf1⟩ := hb.old)
    | (go_at_call 15; (with_reducible refine (HL.out _).mono ?_); rintro e1 w1 ⟨rfl, hb1⟩; replace hb := Ext.trans hb hb1; clear hb1; obtain ⟨hc1, hf1⟩ := hb.old))
  go_ret
  exact ⟨rfl, (by repeat (first | exact Ext.refl _ | assumption | exact Ext.alloc _ _ | refine Ext.trans ?_ (by assumption) | refine Ext.trans ?_ (Ext.alloc _ _) | refine Ext.trans ?_ (Ext.drewN _ _) | refine Ext.trans ?_ (Ext.drew _)))⟩

set_option maxRecDepth 100000 in
set_option maxHeartbeats 1000000 in
theorem at_no {w : World} {A B : Option Addr} {n c m e : Nat} {X Y : Nat → Int} {k : Int} (hz : chk n m X Y = k) (hk : k ≠ 0) (ra : Ri w A n X) (rb : Ri w B m Y) (hn : n ≤ 100) (hm : m ≤ 100) (x : Int) :
    Calls Try.prog 4 #[cv A n c B m e, I x] w fun e' w' => e' = .returned (.bool true) ∧ Ext w w' := by
  have hn' : n ≤ maxLen := by unfold maxLen; omega
  have hm' : m ≤ maxLen := by unfold maxLen; omega
  have HL := Lib.hid (fun w' => large_f A B n c m e w' hn hm)
  have HC := Lib.hid (fun w' (he : Ext w w') => at_bad (c := c) (e := e) hz hk (ra.ext he) (rb.ext he) hn' hm' x)
  have HR := Lib.hid (fun w' (he : Ext w w') => rcheck_any (c := c) (e := e) (ra.ext he) (rb.ext he) hn' hm')
  rw [hz] at HR
  clear hn' hm' hn hm ra rb hz
  go_enter Try.func4, Try.ntmps4
  go_wp2_with (first
    | (go_at_call 14; refine (awake_any _).mono ?_; rintro e w1 ⟨rfl, hb1⟩; (first | replace hb := Ext.trans hb hb1 | replace hb := Ext.trans (Ext.trans hb (Ext.drewN _ _)) hb1 | replace hb := Ext.trans (Ext.trans hb (Ext.alloc _ _)) hb1 | have hb := hb1); clear hb1; obtain ⟨hc1, hf1⟩ := hb.old)
    | (go_at_call 15; (with_reducible refine (HL.out _).mono ?_); rintro e1 w1 ⟨rfl, hb1⟩; replace hb := Ext.trans hb hb1; clear hb1; obtain ⟨hc1, hf1⟩ := hb.old)
    | (go_at_call 19; (with_reducible refine (HC.out _ ((Ext.alloc _ _).trans hb)).mono ?_); rintro e1 w1 ⟨rfl, hb1⟩; replace hb := Ext.trans hb hb1; clear hb1; obtain ⟨hc1, hf1⟩ := hb.old)
    | (go_at_call 18; (with_reducible refine (HR.out _ ((Ext.alloc _ _).trans hb)).mono ?_); rintro e1 w1 ⟨rfl, hb1⟩; replace hb := Ext.trans hb hb1; clear hb1; obtain ⟨hc1, hf1⟩ := hb.old)
    | (go_at_call 16; (with_reducible refine (num_err _ _).mono ?_); rintro e1 w1 ⟨rfl, hb1⟩; replace hb := Ext.trans hb hb1; clear hb1; obtain ⟨hc1, hf1⟩ := hb.old))
  go_ret
  exact ⟨rfl, (by repeat (first | exact Ext.refl _ | assumption | exact Ext.alloc _ _ | refine Ext.trans ?_ (by assumption) | refine Ext.trans ?_ (Ext.alloc _ _) | refine Ext.trans ?_ (Ext.drewN _ _) | refine Ext.trans ?_ (Ext.drew _)))⟩

theorem rcheck_ok {w : World} {ba oa c bb ob e n : Nat} {X Y : Nat → Int} (hz : chk n n X Y = 0) (r : Cur w ba oa bb ob n X Y) (w' : World) (he : Ext w w') :
    Calls Try.prog 18 #[cw ba oa c bb ob e n] w' fun e' w'' => e' = .returned (I 0) ∧ Ext w' w'' := by
  have k := (crv_of hz).2
  have hn : n ≤ maxLen := by have := k.le; unfold maxLen; omega
  exact (rcheck_any (r.ext he).ra (r.ext he).rb hn hn).mono fun _ _ ⟨h1, h2⟩ => ⟨by rw [h1, hz], h2⟩
theorem large_ok {ba oa c bb ob e n : Nat} {X Y : Nat → Int} (hz : chk n n X Y = 0) (w : World) :
    Calls Try.prog 15 #[cw ba oa c bb ob e n] w fun e' w'' => e' = .returned (.bool false) ∧ Ext w w'' := by
  have k := (crv_of hz).2.le
  exact large_f _ _ _ _ _ _ _ (by omega) (by omega)

set_option maxRecDepth 100000 in
set_option maxHeartbeats 1000000 in
theorem at_yes {w : World} {ba oa c bb ob e n : Nat} {X Y : Nat → Int} (hz : chk n n X Y = 0) (r : Cur w ba oa bb ob n X Y) (x : Int) (hx : -9223372036854775808 ≤ x ∧ x ≤ 9223372036854775807) :
    Calls Try.prog 4 #[cw ba oa c bb ob e n, I x] w fun e' w' => e' = .returned (.bool true) ∧ Ext w w' := by
  have HL := Lib.hid (fun w' => large_ok (ba := ba) (oa := oa) (c := c) (bb := bb) (ob := ob) (e := e) hz w')
  have HC := Lib.hid (fun w' (he : Ext w w') => at_ok (c := c) (e := e) hz (r.ext he) x hx)
  have HR := Lib.hid (fun w' (he : Ext w w') => rcheck_ok (c := c) (e := e) hz r w' he)
  have HA := Lib.hid (fun w' (he : Ext w w') => rat_any (c := c) (e := e) (crv_of hz).2 (r.ext he) x)
  clear hz r hx
  go_enter Try.func4, Try.ntmps4
  go_wp2_with (first
    | (go_at_call 14; refine (awake_any _).mono ?_; rintro e w1 ⟨rfl, hb1⟩; (first | replace hb := Ext.trans hb hb1 | replace hb := Ext.trans (Ext.trans hb (Ext.drewN _ _)) hb1 | replace hb := Ext.trans (Ext.trans hb (Ext.alloc _ _)) hb1 | have hb := hb1); clear hb1; obtain ⟨hc1, hf1⟩ := hb.old)
    | (go_at_call 15; (with_reducible refine (HL.out _).mono ?_); rintro e1 w1 ⟨rfl, hb1⟩; replace hb := Ext.trans hb hb1; clear hb1; obtain ⟨hc1, hf1⟩ := hb.old)
    | (go_at_call 19; (with_reducible refine (HC.out _ ((Ext.alloc _ _).trans hb)).mono ?_); rintro e1 w1 ⟨rfl, hb1⟩; replace hb := Ext.trans hb hb1; clear hb1; obtain ⟨hc1, hf1⟩ := hb.old)
    | (go_at_call 18; (with_reducible refine (HR.out _ ((Ext.alloc _ _).trans hb)).mono ?_); rintro e1 w1 ⟨rfl, hb1⟩; replace hb := Ext.trans hb hb1; clear hb1; obtain ⟨hc1, hf1⟩ := hb.old)
    | (go_at_call 20; (with_reducible refine (HA.out _ ((Ext.alloc _ _).trans hb)).mono ?_); rintro e1 w1 ⟨rfl, hb1⟩; replace hb := Ext.trans hb hb1; clear hb1; obtain ⟨hc1, hf1⟩ := hb.old))
  go_ret
  exact ⟨rfl, (by repeat (first | exact Ext.refl _ | assumption | exact Ext.alloc _ _ | refine Ext.trans ?_ (by assumption) | refine Ext.trans ?_ (Ext.alloc _ _) | refine Ext.trans ?_ (Ext.drewN _ _) | refine Ext.trans ?_ (Ext.drew _)))⟩

set_option maxRecDepth 100000 in
set_option maxHeartbeats 1000000 in
theorem inverts_long {w : World} (A B : Option Addr) (n c m e : Nat) (y : Int) (h : 100 < n ∨ 100 < m) (hn : n ≤ maxLen) (hm : m ≤ maxLen) :
    Calls Try.prog 5 #[cv A n c B m e, I y] w fun e' w' => e' = .returned (.bool true) ∧ Ext w w' := by
  have HL := Lib.hid (fun w' => large_t A B n c m e w' h hn hm)
  clear h
  go_enter Try.func5, Try.ntmps5
  go_wp2_with (first
    | (go_at_call 14; refine (awake_any _).mono ?_; rintro e w1 ⟨rfl, hb1⟩; (first | replace hb := Ext.trans hb hb1 | replace hb := Ext.trans (Ext.trans hb (Ext.drewN _ _)) hb1 | replace hb := Ext.trans (Ext.trans hb (Ext.alloc _ _)) hb1 | have hb := hb1); clear hb1; obtain ⟨hc1, hf1⟩ := hb.old)
    | (go_at_call 15; (with_reducible refine (HL.out _).mono ?_); rintro e1 w1 ⟨rfl, hb1⟩; replace hb := Ext.trans hb hb1; clear hb1; obtain ⟨hc1, hf1⟩ := hb.old))
  go_ret
  exact ⟨rfl, (by repeat (first | exact Ext.refl _ | assumption | exact Ext.alloc _ _ | refine Ext.trans ?_ (by assumption) | refine Ext.trans ?_ (Ext.alloc _ _) | refine Ext.trans ?_ (Ext.drewN _ _) | refine Ext.trans ?_ (Ext.drew _)))⟩

set_option maxRecDepth 100000 in
set_option maxHeartbeats 1000000 in
theorem inverts_no {w : World} {A B : Option Addr} {n c m e : Nat} {X Y : Nat → Int} {k : Int} (hz : chk n m X Y = k) (hk : k ≠ 0) (ra : Ri w A n X) (rb : Ri w B m Y) (hn : n ≤ 100) (hm : m ≤ 100) (y : Int) :
    Calls Try.prog 5 #[cv A n c B m e, I y] w fun e' w' => e' = .returned (.bool true) ∧ Ext w w' := by
  have hn' : n ≤ maxLen := by unfold maxLen; omega
  have hm' : m ≤ maxLen := by unfold maxLen; omega
  have HL := Lib.hid (fun w' => large_f A B n c m e w' hn hm)
  have HC := Lib.hid (fun w' (he : Ext w w') => inverse_bad (c := c) (e := e) hz hk (ra.ext he) (rb.ext he) hn' hm' y)
  have HR := Lib.hid (fun w' (he : Ext w w') => rcheck_any (c := c) (e := e) (ra.ext he) (rb.ext he) hn' hm')
  rw [hz] at HR
  clear hn' hm' hn hm ra rb hz
  have hd : decide (k = 0) = false := by simpa using hk
  go_enter Try.func5, Try.ntmps5
  go_wp2_with (first
    | (go_at_call 14; refine (awake_any _).mono ?_; rintro e w1 ⟨rfl, hb1⟩; (first | replace hb := Ext.trans hb hb1 | replace hb := Ext.trans (Ext.trans hb (Ext.drewN _ _)) hb1 | replace hb := Ext.trans (Ext.trans hb (Ext.alloc _ _)) hb1 | have hb := hb1); clear hb1; obtain ⟨hc1, hf1⟩ := hb.old)
    | (go_at_call 15; (with_reducible refine (HL.out _).mono ?_); rintro e1 w1 ⟨rfl, hb1⟩; replace hb := Ext.trans hb hb1; clear hb1; obtain ⟨hc1, hf1⟩ := hb.old)
    | (go_at_call 21; (with_reducible refine (HC.out _ ((Ext.alloc _ _).trans hb)).mono ?_); rintro e1 w1 ⟨rfl, hb1⟩; replace hb := Ext.trans hb hb1; clear hb1; obtain ⟨hc1, hf1⟩ := hb.old)
    | (go_at_call 18; (with_reducible refine (HR.out _ ((Ext.alloc _ _).trans hb)).mono ?_); rintro e1 w1 ⟨rfl, hb1⟩; replace hb := Ext.trans hb hb1; clear hb1; obtain ⟨hc1, hf1⟩ := hb.old)
    | (go_at_call 16; (with_reducible refine (num_err _ _).mono ?_); rintro e1 w1 ⟨rfl, hb1⟩; replace hb := Ext.trans hb hb1; clear hb1; obtain ⟨hc1, hf1⟩ := hb.old))
  go_ret
  exact ⟨rfl, (by repeat (first | exact Ext.refl _ | assumption | exact Ext.alloc _ _ | refine Ext.trans ?_ (by assumption) | refine Ext.trans ?_ (Ext.alloc _ _) | refine Ext.trans ?_ (Ext.drewN _ _) | refine Ext.trans ?_ (Ext.drew _)))⟩

set_option maxRecDepth 100000 in
set_option maxHeartbeats 1000000 in
theorem inverts_range {w : World} {ba oa c bb ob e n : Nat} {X Y : Nat → Int} (hz : chk n n X Y = 0) (r : Cur w ba oa bb ob n X Y) (y : Int) (hy : Y (n - 1) < y) :
    Calls Try.prog 5 #[cw ba oa c bb ob e n, I y] w fun e' w' => e' = .returned (.bool true) ∧ Ext w w' := by
  have k := (crv_of hz).2
  have HL := Lib.hid (fun w' => large_ok (ba := ba) (oa := oa) (c := c) (bb := bb) (ob := ob) (e := e) hz w')
  have HC := Lib.hid (fun w' (he : Ext w w') => inverse_range (c := c) (e := e) hz (r.ext he) y hy)
  have HR := Lib.hid (fun w' (he : Ext w w') => rcheck_ok (c := c) (e := e) hz r w' he)
  obtain ⟨N, rfl⟩ : ∃ N, n = N + 1 := ⟨n - 1, by have := k.two; omega⟩
  have hN1 := k.two
  have hN2 := k.le
  rw [Nat.add_sub_cancel] at hy
  have hbb := r.lb
  have hb2 : bb < w.heap.size + 1 := by omega
  have hb3 : bb ≠ w.heap.size := by omega
  have e1 : IntKind.i64.wrap (((N + 1 : Nat) : Int) - 1) = (N : Int) := by rw [show ((N + 1 : Nat) : Int) - 1 = (N : Int) by omega]; exact IntWalk.i64_in _ (by omega)
  have yn := r.cb N (by omega)
  clear hz r k
  go_enter Try.func5, Try.ntmps5
  go_wp2_with (first
    | (go_at_call 14; refine (awake_any _).mono ?_; rintro e w1 ⟨rfl, hb1⟩; (first | replace hb := Ext.trans hb hb1 | replace hb := Ext.trans (Ext.trans hb (Ext.drewN _ _)) hb1 | replace hb := Ext.trans (Ext.trans hb (Ext.alloc _ _)) hb1 | have hb := hb1); clear hb1; obtain ⟨hc1, hf1⟩ := hb.old)
    | (go_at_call 15; (with_reducible refine (HL.out _).mono ?_); rintro e1 w1 ⟨rfl, hb1⟩; replace hb := Ext.trans hb hb1; clear hb1; obtain ⟨hc1, hf1⟩ := hb.old)
    | (go_at_call 21; (with_reducible refine (HC.out _ ((Ext.alloc _ _).trans hb)).mono ?_); rintro e1 w1 ⟨rfl, hb1⟩; replace hb := Ext.trans hb hb1; clear hb1; obtain ⟨hc1, hf1⟩ := hb.old)
    | (go_at_call 18; (with_reducible refine (HR.out _ ((Ext.alloc _ _).trans hb)).mono ?_); rintro e1 w1 ⟨rfl, hb1⟩; replace hb := Ext.trans hb hb1; clear hb1; obtain ⟨hc1, hf1⟩ := hb.old)
    | (go_at_call 16; (with_reducible refine (num_err _ _).mono ?_); rintro e1 w1 ⟨rfl, hb1⟩; replace hb := Ext.trans hb hb1; clear hb1; obtain ⟨hc1, hf1⟩ := hb.old))
  go_ret
  exact ⟨rfl, (by repeat (first | exact Ext.refl _ | assumption | exact Ext.alloc _ _ | refine Ext.trans ?_ (by assumption) | refine Ext.trans ?_ (Ext.alloc _ _) | refine Ext.trans ?_ (Ext.drewN _ _) | refine Ext.trans ?_ (Ext.drew _)))⟩

theorem inverse_is {w : World} {ba oa c bb ob e n : Nat} {X Y : Nat → Int} (hz : chk n n X Y = 0) (r : Cur w ba oa bb ob n X Y) {y v : Int} (hy : y ≤ Y (n - 1)) (hv : IsInv n X Y y v) :
    Calls Try.prog 21 #[cw ba oa c bb ob e n, I y] w fun e' w' => e' = .returned (.tuple #[I v, .nilIface]) ∧ Ext w w' :=
  (inverse_ok hz r y hy).mono fun _ _ ⟨u, h1, h2, h3⟩ => ⟨by rw [h1, inv_uniq h2.out hv], h3⟩
theorem rinverse_is {w : World} {ba oa c bb ob e n : Nat} {X Y : Nat → Int} (k : Crv n X Y) (r : Cur w ba oa bb ob n X Y) {y v : Int} (hy : y ≤ Y (n - 1)) (hv : IsInv n X Y y v) :
    Calls Try.prog 22 #[cw ba oa c bb ob e n, I y] w fun e' w' => e' = .returned (I v) ∧ Ext w w' :=
  (rinverse_any k r y hy).mono fun _ _ ⟨u, h1, h2, h3⟩ => ⟨by rw [h1, inv_uniq h2.out hv], h3⟩

set_option maxRecDepth 100000 in
set_option maxHeartbeats 1000000 in
theorem inverts_yes {w : World} {ba oa c bb ob e n : Nat} {X Y : Nat → Int} (hz : chk n n X Y = 0) (r : Cur w ba oa bb ob n X Y) (y : Int) (hy : y ≤ Y (n - 1)) :
    Calls Try.prog 5 #[cw ba oa c bb ob e n, I y] w fun e' w' => e' = .returned (.bool true) ∧ Ext w w' := by
  have k := (crv_of hz).2
  have HL := Lib.hid (fun w' => large_ok (ba := ba) (oa := oa) (c := c) (bb := bb) (ob := ob) (e := e) hz w')
  have HR := Lib.hid (fun w' (he : Ext w w') => rcheck_ok (c := c) (e := e) hz r w' he)
  obtain ⟨v, hv⟩ := inv_ex k hy
  have HC := Lib.hid (fun w' (he : Ext w w') => inverse_is (c := c) (e := e) hz (r.ext he) hy hv)
  have HA := Lib.hid (fun w' (he : Ext w w') => rinverse_is (c := c) (e := e) k (r.ext he) hy hv)
  obtain ⟨N, rfl⟩ : ∃ N, n = N + 1 := ⟨n - 1, by have := k.two; omega⟩
  have hN1 := k.two
  have hN2 := k.le
  rw [Nat.add_sub_cancel] at hy
  have hbb := r.lb
  have hb2 : bb < w.heap.size + 1 := by omega
  have hb3 : bb ≠ w.heap.size := by omega
  have e1 : IntKind.i64.wrap (((N + 1 : Nat) : Int) - 1) = (N : Int) := by rw [show ((N + 1 : Nat) : Int) - 1 = (N : Int) by omega]; exact IntWalk.i64_in _ (by omega)
  have yn := r.cb N (by omega)
  clear hz r k hv
  go_enter Try.func5, Try.ntmps5
  go_wp2_with (first
    | (go_at_call 14; refine (awake_any _).mono ?_; rintro e w1 ⟨rfl, hb1⟩; (first | replace hb := Ext.trans hb hb1 | replace hb := Ext.trans (Ext.trans hb (Ext.drewN _ _)) hb1 | replace hb := Ext.trans (Ext.trans hb (Ext.alloc _ _)) hb1 | have hb := hb1); clear hb1; obtain ⟨hc1, hf1⟩ := hb.old)
    | (go_at_call 15; (with_reducible refine (HL.out _).mono ?_); rintro e1 w1 ⟨rfl, hb1⟩; replace hb := Ext.trans hb hb1; clear hb1; obtain ⟨hc1, hf1⟩ := hb.old)
    | (go_at_call 21; (with_reducible refine (HC.out _ ((Ext.alloc _ _).trans hb)).mono ?_); rintro e1 w1 ⟨rfl, hb1⟩; replace hb := Ext.trans hb hb1; clear hb1; obtain ⟨hc1, hf1⟩ := hb.old)
    | (go_at_call 18; (with_reducible refine (HR.out _ ((Ext.alloc _ _).trans hb)).mono ?_); rintro e1 w1 ⟨rfl, hb1⟩; replace hb := Ext.trans hb hb1; clear hb1; obtain ⟨hc1, hf1⟩ := hb.old)
    | (go_at_call 22; (with_reducible refine (HA.out _ ((Ext.alloc _ _).trans hb)).mono ?_); rintro e1 w1 ⟨rfl, hb1⟩; replace hb := Ext.trans hb hb1; clear hb1; obtain ⟨hc1, hf1⟩ := hb.old))
  go_ret
  exact ⟨rfl, (by repeat (first | exact Ext.refl _ | assumption | exact Ext.alloc _ _ | refine Ext.trans ?_ (by assumption) | refine Ext.trans ?_ (Ext.alloc _ _) | refine Ext.trans ?_ (Ext.drewN _ _) | refine Ext.trans ?_ (Ext.drew _)))⟩
theorem cur_of' {w : World} {A B : Option Addr} {n m : Nat} {X Y : Nat → Int} (hz : chk n m X Y = 0) (ra : Ri w A n X) (rb : Ri w B m Y) :
    n = m ∧ ∃ ba oa bb ob, A = some ⟨ba, oa, none⟩ ∧ B = some ⟨bb, ob, none⟩ ∧ Cur w ba oa bb ob n X Y := by
  obtain ⟨rfl, k⟩ := crv_of hz
  have h2 := k.two
  obtain ⟨ba, oa, rfl, hba, ca⟩ := ra (by omega)
  obtain ⟨bb, ob, rfl, hbb, cb⟩ := rb (by omega)
  exact ⟨rfl, ba, oa, bb, ob, rfl, rfl, hba, hbb, ca, cb⟩

theorem checks_top {w : World} {A B : Option Addr} {n c m e : Nat} {X Y : Nat → Int} (hn : n ≤ maxLen) (hm : m ≤ maxLen) (ra : Ri w A n X) (rb : Ri w B m Y) :
    Calls Try.prog 3 #[cv A n c B m e] w fun e' w' => e' = .returned (.bool true) ∧ Ext w w' := by
  by_cases h : 100 < n ∨ 100 < m
  · exact checks_long A B n c m e h hn hm
  · exact checks_any ra rb (by omega) (by omega)
theorem at_top {w : World} {A B : Option Addr} {n c m e : Nat} {X Y : Nat → Int} {x : Int} (hn : n ≤ maxLen) (hm : m ≤ maxLen) (ra : Ri w A n X) (rb : Ri w B m Y) (hx : -9223372036854775808 ≤ x ∧ x ≤ 9223372036854775807) :
    Calls Try.prog 4 #[cv A n c B m e, I x] w fun e' w' => e' = .returned (.bool true) ∧ Ext w w' := by
  by_cases h : 100 < n ∨ 100 < m
  · exact at_long A B n c m e x h hn hm
  · by_cases hz : chk n m X Y = 0
    · obtain ⟨rfl, ba, oa, bb, ob, rfl, rfl, r⟩ := cur_of' hz ra rb
      exact at_yes hz r x hx
    · exact at_no rfl hz ra rb (by omega) (by omega) x
theorem inverts_top {w : World} {A B : Option Addr} {n c m e : Nat} {X Y : Nat → Int} {y : Int} (hn : n ≤ maxLen) (hm : m ≤ maxLen) (ra : Ri w A n X) (rb : Ri w B m Y) (_hy : -9223372036854775808 ≤ y ∧ y ≤ 9223372036854775807) :
    Calls Try.prog 5 #[cv A n c B m e, I y] w fun e' w' => e' = .returned (.bool true) ∧ Ext w w' := by
  by_cases h : 100 < n ∨ 100 < m
  · exact inverts_long A B n c m e y h hn hm
  · by_cases hz : chk n m X Y = 0
    · obtain ⟨rfl, ba, oa, bb, ob, rfl, rfl, r⟩ := cur_of' hz ra rb
      by_cases hy : y ≤ Y (n - 1)
      · exact inverts_yes hz r y hy
      · exact inverts_range hz r y (by omega)
    · exact inverts_no rfl hz ra rb (by omega) (by omega) y
end Go.Proofs.Ytdcollchhcjaaaa
