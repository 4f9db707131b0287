/- The law CurvePoints: it returns true. -/
import Derived.Test.YtdcollchhcjaaaaCrvl
namespace Go.Proofs.Ytdcollchhcjaaaa
open Go.RowKit

set_option maxRecDepth 100000 in
set_option maxHeartbeats 1000000 in
theorem points_long {w : World} (A B : Option Addr) (n c m e : Nat) (x : Int) (h : 100 < n ∨ 100 < m) (hn : n ≤ maxLen) (hm : m ≤ maxLen) :
    Calls Try.prog 8 #[cv A n c B m e, I x] w fun e' w' => e' = .returned (.bool true) ∧ Ext w w' := by
  have HL := Lib.hid (fun w' => large_t A B n c m e w' h hn hm)
  clear h
  go_enter Try.func8, Try.ntmps8
  go_wp2_with (first
    | (go_at_call 14; refine (awake_any _).mono ?_; rintro e w1 ⟨rfl, hb1⟩; (first | replace hb := Ext.trans hb hb1 | replace hb := Ext.trans (Ext.trans hb (Ext.drewN _ _)) hb1 | replace hb := Ext.trans (Ext.trans hb (Ext.alloc _ _)) hb1 | have hb := hb1); clear hb1; obtain ⟨hc1, hf1⟩ := hb.old)
    | (go_at_call 15; (with_reducible refine (HL.out _).mono ?_); rintro e1 w1 ⟨rfl, hb1⟩; replace hb := Ext.trans hb hb1; clear hb1; obtain ⟨hc1, hf1⟩ := hb.old))
  go_ret
  exact ⟨rfl, (by repeat (first | exact Ext.refl _ | assumption | exact Ext.alloc _ _ | refine Ext.trans ?_ (by assumption) | refine Ext.trans ?_ (Ext.alloc _ _) | refine Ext.trans ?_ (Ext.drewN _ _) | refine Ext.trans ?_ (Ext.drew _)))⟩

set_option maxRecDepth 100000 in
set_option maxHeartbeats 1000000 in
theorem points_no {w : World} {A B : Option Addr} {n c m e : Nat} {X Y : Nat → Int} {k : Int} (hz : chk n m X Y = k) (hk : k ≠ 0) (ra : Ri w A n X) (rb : Ri w B m Y) (hn : n ≤ 100) (hm : m ≤ 100) (x : Int) :
    Calls Try.prog 8 #[cv A n c B m e, I x] w fun e' w' => e' = .returned (.bool true) ∧ Ext w w' := by
  have hn' : n ≤ maxLen := by unfold maxLen; omega
  have hm' : m ≤ maxLen := by unfold maxLen; omega
  have HL := Lib.hid (fun w' => large_f A B n c m e w' hn hm)
  have HC := Lib.hid (fun w' (he : Ext w w') => check_bad (c := c) (e := e) hz hk ra rb hn' hm' w' he)
  clear hn' hm' hn hm ra rb hz
  go_enter Try.func8, Try.ntmps8
  go_wp2_with (first
    | (go_at_call 14; refine (awake_any _).mono ?_; rintro e w1 ⟨rfl, hb1⟩; (first | replace hb := Ext.trans hb hb1 | replace hb := Ext.trans (Ext.trans hb (Ext.drewN _ _)) hb1 | replace hb := Ext.trans (Ext.trans hb (Ext.alloc _ _)) hb1 | have hb := hb1); clear hb1; obtain ⟨hc1, hf1⟩ := hb.old)
    | (go_at_call 15; (with_reducible refine (HL.out _).mono ?_); rintro e1 w1 ⟨rfl, hb1⟩; replace hb := Ext.trans hb hb1; clear hb1; obtain ⟨hc1, hf1⟩ := hb.old)
    | (go_at_call 17; (with_reducible refine (HC.out _ ((Ext.alloc _ _).trans hb)).mono ?_); rintro e1 w1 ⟨rfl, hb1⟩; replace hb := Ext.trans hb hb1; clear hb1; obtain ⟨hc1, hf1⟩ := hb.old))
  go_ret
  exact ⟨rfl, (by repeat (first | exact Ext.refl _ | assumption | exact Ext.alloc _ _ | refine Ext.trans ?_ (by assumption) | refine Ext.trans ?_ (Ext.alloc _ _) | refine Ext.trans ?_ (Ext.drewN _ _) | refine Ext.trans ?_ (Ext.drew _)))⟩

theorem at_pt {w : World} {ba oa c bb ob e n i : Nat} {X Y : Nat → Int} (hz : chk n n X Y = 0) (r : Cur w ba oa bb ob n X Y) (hi : i < n) :
    Calls Try.prog 19 #[cw ba oa c bb ob e n, I (X i)] w fun e' w' => e' = .returned (.tuple #[I (Y i), .nilIface]) ∧ Ext w w' := by
  have k := (crv_of hz).2
  have := k.bX i hi
  exact (at_ok hz r (X i) (by omega)).mono fun _ _ ⟨h1, h2⟩ => ⟨by rw [h1, atv_pt k hi], h2⟩

set_option maxRecDepth 100000 in
set_option maxHeartbeats 1000000 in
theorem points_in {w : World} {ba oa c bb ob e N : Nat} {X Y : Nat → Int} (hz : chk (N + 1) (N + 1) X Y = 0) (r : Cur w ba oa bb ob (N + 1) X Y) (x : Int) (hx : -9223372036854775808 ≤ x ∧ x ≤ 9223372036854775807) (h1 : X 0 < x) (h2 : x < X N) :
    Calls Try.prog 8 #[cw ba oa c bb ob e (N + 1), I x] w fun e' w' => e' = .returned (.bool true) ∧ Ext w w' := by
  have HL := Lib.hid (fun w' => large_ok (ba := ba) (oa := oa) (c := c) (bb := bb) (ob := ob) (e := e) hz w')
  have HK := Lib.hid (fun w' (he : Ext w w') => check_ok (c := c) (e := e) hz r w' he)
  have HR := Lib.hid (fun w' (he : Ext w w') => rcheck_ok (c := c) (e := e) hz r w' he)
  have k := (crv_of hz).2
  have hN1 := k.two
  have hN2 := k.le
  have hba := r.la
  have hbb := r.lb
  have ha2 : ba < w.heap.size + 1 := by omega
  have hb2 : bb < w.heap.size + 1 := by omega
  have ha3 : ba ≠ w.heap.size := by omega
  have hb3 : bb ≠ w.heap.size := by omega
  have e1 : IntKind.i64.wrap (((N + 1 : Nat) : Int) - 1) = (N : Int) := by rw [show ((N + 1 : Nat) : Int) - 1 = (N : Int) by omega]; exact IntWalk.i64_in _ (by omega)
  have hq1 : (N : Int) < (N : Int) + 1 := by omega
  have hq2 : (0 : Int) < (N : Int) + 1 := by omega
  have x0 := r.ca 0 (by omega)
  have y0 := r.cb 0 (by omega)
  rw [Nat.add_zero] at x0 y0
  have xn := r.ca N (by omega)
  have yn := r.cb N (by omega)
  have o3 := k.ltX N 0 (by omega) (by omega)
  have o4 := k.leY N 0 (by omega) (by omega)
  have HA0 := fun w' (he : Ext w w') => at_ok (c := c) (e := e) hz (r.ext he) x hx
  obtain ⟨a1, a2⟩ := atv_bd k x
  rw [Nat.add_sub_cancel] at a2
  have HP := Lib.hid (fun (i : Nat) (hi : i < N + 1) w' (he : Ext w w') => at_pt (c := c) (e := e) hz (r.ext he) hi)
  have R := Lib.hid r
  obtain ⟨a, ha⟩ : ∃ a, atv (N + 1) X Y x = a := ⟨_, rfl⟩
  rw [ha] at HA0 a1 a2
  clear ha
  have HA := Lib.hid HA0
  clear hz r k HA0 hx
  go_enter Try.func8, Try.ntmps8
  go_wp2_with (first
    | (go_at_call 14; refine (awake_any _).mono ?_; rintro e w1 ⟨rfl, hb1⟩; (first | replace hb := Ext.trans hb hb1 | replace hb := Ext.trans (Ext.trans hb (Ext.drewN _ _)) hb1 | replace hb := Ext.trans (Ext.trans hb (Ext.alloc _ _)) hb1 | have hb := hb1); clear hb1; obtain ⟨hc1, hf1⟩ := hb.old)
    | (go_at_call 15; (with_reducible refine (HL.out _).mono ?_); rintro e1 w1 ⟨rfl, hb1⟩; replace hb := Ext.trans hb hb1; clear hb1; obtain ⟨hc1, hf1⟩ := hb.old)
    | (go_at_call 17; (with_reducible refine (HK.out _ ((Ext.alloc _ _).trans hb)).mono ?_); rintro e1 w1 ⟨rfl, hb1⟩; replace hb := Ext.trans hb hb1; clear hb1; obtain ⟨hc1, hf1⟩ := hb.old)
    | (go_at_call 18; (with_reducible refine (HR.out _ ((Ext.alloc _ _).trans hb)).mono ?_); rintro e1 w1 ⟨rfl, hb1⟩; replace hb := Ext.trans hb hb1; clear hb1; obtain ⟨hc1, hf1⟩ := hb.old))
  go_loopw [6] (fun s wr => Ext (w.alloc (.cells #[.slice (some ⟨ba, oa, none⟩) (N + 1) c, .slice (some ⟨bb, ob, none⟩) (N + 1) e] 24)) wr ∧ ∃ k : Nat, k ≤ N + 1 ∧ s = I k) (fun s _ => N + 1 - (intOf s).toNat)
  case atStart => exact ⟨(by repeat (first | exact Ext.refl _ | assumption | exact Ext.alloc _ _ | refine Ext.trans ?_ (by assumption) | refine Ext.trans ?_ (Ext.alloc _ _) | refine Ext.trans ?_ (Ext.drewN _ _) | refine Ext.trans ?_ (Ext.drew _))), 0, Nat.zero_le _, rfl⟩
  case round =>
    clear hb hc1 hf1
    obtain ⟨hb, k, hkn, rfl⟩ := hrel
    obtain ⟨hc, hf⟩ := hb.old
    by_cases hlt : k < N + 1
    · have xk := R.out.ca k hlt
      have yk := R.out.cb k hlt
      have HQ := Lib.hid (HP.out k hlt)
      have hlt2 : (k : Int) < (N : Int) + 1 := by omega
      clear x0 xn y0 yn
      go_wp2_with fail
      have hL := fun (x : Later _) => (Ext.trans hb x.ext).old.1
      refine wp_region_later (by kernel_rfl) (by kernel_rfl) ?_
      repeat (go_big_quiet_step (((go_at_call 19; exact Calls.later (HQ.out _ (((Ext.alloc _ _).trans hb).trans (Later.ext _)))))))
      refine wpQuiet_nil ?_
      intro w2 hw2
      replace hb := Ext.trans hb (Later.of hw2)
      clear hw2 hL
      obtain ⟨hc, hf⟩ := hb.old
      go_wp2_with fail
      go_roundw
      case rel => exact ⟨(by repeat (first | exact Ext.refl _ | assumption | exact Ext.alloc _ _ | refine Ext.trans ?_ (by assumption) | refine Ext.trans ?_ (Ext.alloc _ _) | refine Ext.trans ?_ (Ext.drewN _ _) | refine Ext.trans ?_ (Ext.drew _))), k + 1, by omega, by go_num⟩
      case measure => simp [intOf]; omega
    · obtain rfl : k = N + 1 := by omega
      go_wp2_with (go_at_call 19; (with_reducible refine (HA.out _ ((Ext.alloc _ _).trans hb)).mono ?_); rintro e1 w1 ⟨rfl, hb1⟩; replace hb := Ext.trans hb hb1; clear hb1; obtain ⟨hc1, hf1⟩ := hb.old)
      go_ret
      exact ⟨rfl, (by repeat (first | exact Ext.refl _ | assumption | exact Ext.alloc _ _ | refine Ext.trans ?_ (by assumption) | refine Ext.trans ?_ (Ext.alloc _ _) | refine Ext.trans ?_ (Ext.drewN _ _) | refine Ext.trans ?_ (Ext.drew _)))⟩

set_option maxRecDepth 100000 in
set_option maxHeartbeats 1000000 in
theorem points_lo {w : World} {ba oa c bb ob e N : Nat} {X Y : Nat → Int} (hz : chk (N + 1) (N + 1) X Y = 0) (r : Cur w ba oa bb ob (N + 1) X Y) (x : Int) (hx : -9223372036854775808 ≤ x ∧ x ≤ 9223372036854775807) (h1 : x ≤ X 0) :
    Calls Try.prog 8 #[cw ba oa c bb ob e (N + 1), I x] w fun e' w' => e' = .returned (.bool true) ∧ Ext w w' := by
  have HL := Lib.hid (fun w' => large_ok (ba := ba) (oa := oa) (c := c) (bb := bb) (ob := ob) (e := e) hz w')
  have HK := Lib.hid (fun w' (he : Ext w w') => check_ok (c := c) (e := e) hz r w' he)
  have HR := Lib.hid (fun w' (he : Ext w w') => rcheck_ok (c := c) (e := e) hz r w' he)
  have k := (crv_of hz).2
  have hN1 := k.two
  have hN2 := k.le
  have hba := r.la
  have hbb := r.lb
  have ha2 : ba < w.heap.size + 1 := by omega
  have hb2 : bb < w.heap.size + 1 := by omega
  have ha3 : ba ≠ w.heap.size := by omega
  have hb3 : bb ≠ w.heap.size := by omega
  have e1 : IntKind.i64.wrap (((N + 1 : Nat) : Int) - 1) = (N : Int) := by rw [show ((N + 1 : Nat) : Int) - 1 = (N : Int) by omega]; exact IntWalk.i64_in _ (by omega)
  have hq1 : (N : Int) < (N : Int) + 1 := by omega
  have hq2 : (0 : Int) < (N : Int) + 1 := by omega
  have x0 := r.ca 0 (by omega)
  have y0 := r.cb 0 (by omega)
  rw [Nat.add_zero] at x0 y0
  have xn := r.ca N (by omega)
  have yn := r.cb N (by omega)
  have o3 := k.ltX N 0 (by omega) (by omega)
  have o4 := k.leY N 0 (by omega) (by omega)
  have HA0 := fun w' (he : Ext w w') => at_ok (c := c) (e := e) hz (r.ext he) x hx
  obtain ⟨a1, a2⟩ := atv_bd k x
  rw [Nat.add_sub_cancel] at a2
  have HP := Lib.hid (fun (i : Nat) (hi : i < N + 1) w' (he : Ext w w') => at_pt (c := c) (e := e) hz (r.ext he) hi)
  have R := Lib.hid r
  rw [atv_lo h1] at HA0
  have h2 : x < X N := by omega
  clear a1 a2
  have HA := Lib.hid HA0
  clear hz r k HA0 hx
  go_enter Try.func8, Try.ntmps8
  go_wp2_with (first
    | (go_at_call 14; refine (awake_any _).mono ?_; rintro e w1 ⟨rfl, hb1⟩; (first | replace hb := Ext.trans hb hb1 | replace hb := Ext.trans (Ext.trans hb (Ext.drewN _ _)) hb1 | replace hb := Ext.trans (Ext.trans hb (Ext.alloc _ _)) hb1 | have hb := hb1); clear hb1; obtain ⟨hc1, hf1⟩ := hb.old)
    | (go_at_call 15; (with_reducible refine (HL.out _).mono ?_); rintro e1 w1 ⟨rfl, hb1⟩; replace hb := Ext.trans hb hb1; clear hb1; obtain ⟨hc1, hf1⟩ := hb.old)
    | (go_at_call 17; (with_reducible refine (HK.out _ ((Ext.alloc _ _).trans hb)).mono ?_); rintro e1 w1 ⟨rfl, hb1⟩; replace hb := Ext.trans hb hb1; clear hb1; obtain ⟨hc1, hf1⟩ := hb.old)
    | (go_at_call 18; (with_reducible refine (HR.out _ ((Ext.alloc _ _).trans hb)).mono ?_); rintro e1 w1 ⟨rfl, hb1⟩; replace hb := Ext.trans hb hb1; clear hb1; obtain ⟨hc1, hf1⟩ := hb.old))
  go_loopw [6] (fun s wr => Ext (w.alloc (.cells #[.slice (some ⟨ba, oa, none⟩) (N + 1) c, .slice (some ⟨bb, ob, none⟩) (N + 1) e] 24)) wr ∧ ∃ k : Nat, k ≤ N + 1 ∧ s = I k) (fun s _ => N + 1 - (intOf s).toNat)
  case atStart => exact ⟨(by repeat (first | exact Ext.refl _ | assumption | exact Ext.alloc _ _ | refine Ext.trans ?_ (by assumption) | refine Ext.trans ?_ (Ext.alloc _ _) | refine Ext.trans ?_ (Ext.drewN _ _) | refine Ext.trans ?_ (Ext.drew _))), 0, Nat.zero_le _, rfl⟩
  case round =>
    clear hb hc1 hf1
    obtain ⟨hb, k, hkn, rfl⟩ := hrel
    obtain ⟨hc, hf⟩ := hb.old
    by_cases hlt : k < N + 1
    · have xk := R.out.ca k hlt
      have yk := R.out.cb k hlt
      have HQ := Lib.hid (HP.out k hlt)
      have hlt2 : (k : Int) < (N : Int) + 1 := by omega
      clear x0 xn y0 yn
      go_wp2_with fail
      have hL := fun (x : Later _) => (Ext.trans hb x.ext).old.1
      refine wp_region_later (by kernel_rfl) (by kernel_rfl) ?_
      repeat (go_big_quiet_step (((go_at_call 19; exact Calls.later (HQ.out _ (((Ext.alloc _ _).trans hb).trans (Later.ext _)))))))
      refine wpQuiet_nil ?_
      intro w2 hw2
      replace hb := Ext.trans hb (Later.of hw2)
      clear hw2 hL
      obtain ⟨hc, hf⟩ := hb.old
      go_wp2_with fail
      go_roundw
      case rel => exact ⟨(by repeat (first | exact Ext.refl _ | assumption | exact Ext.alloc _ _ | refine Ext.trans ?_ (by assumption) | refine Ext.trans ?_ (Ext.alloc _ _) | refine Ext.trans ?_ (Ext.drewN _ _) | refine Ext.trans ?_ (Ext.drew _))), k + 1, by omega, by go_num⟩
      case measure => simp [intOf]; omega
    · obtain rfl : k = N + 1 := by omega
      go_wp2_with (go_at_call 19; (with_reducible refine (HA.out _ ((Ext.alloc _ _).trans hb)).mono ?_); rintro e1 w1 ⟨rfl, hb1⟩; replace hb := Ext.trans hb hb1; clear hb1; obtain ⟨hc1, hf1⟩ := hb.old)
      go_ret
      exact ⟨rfl, (by repeat (first | exact Ext.refl _ | assumption | exact Ext.alloc _ _ | refine Ext.trans ?_ (by assumption) | refine Ext.trans ?_ (Ext.alloc _ _) | refine Ext.trans ?_ (Ext.drewN _ _) | refine Ext.trans ?_ (Ext.drew _)))⟩

set_option maxRecDepth 100000 in
set_option maxHeartbeats 1000000 in
theorem points_hi {w : World} {ba oa c bb ob e N : Nat} {X Y : Nat → Int} (hz : chk (N + 1) (N + 1) X Y = 0) (r : Cur w ba oa bb ob (N + 1) X Y) (x : Int) (hx : -9223372036854775808 ≤ x ∧ x ≤ 9223372036854775807) (h2 : X N ≤ x) :
    Calls Try.prog 8 #[cw ba oa c bb ob e (N + 1), I x] w fun e' w' => e' = .returned (.bool true) ∧ Ext w w' := by
  have HL := Lib.hid (fun w' => large_ok (ba := ba) (oa := oa) (c := c) (bb := bb) (ob := ob) (e := e) hz w')
  have HK := Lib.hid (fun w' (he : Ext w w') => check_ok (c := c) (e := e) hz r w' he)
  have HR := Lib.hid (fun w' (he : Ext w w') => rcheck_ok (c := c) (e := e) hz r w' he)
  have k := (crv_of hz).2
  have hN1 := k.two
  have hN2 := k.le
  have hba := r.la
  have hbb := r.lb
  have ha2 : ba < w.heap.size + 1 := by omega
  have hb2 : bb < w.heap.size + 1 := by omega
  have ha3 : ba ≠ w.heap.size := by omega
  have hb3 : bb ≠ w.heap.size := by omega
  have e1 : IntKind.i64.wrap (((N + 1 : Nat) : Int) - 1) = (N : Int) := by rw [show ((N + 1 : Nat) : Int) - 1 = (N : Int) by omega]; exact IntWalk.i64_in _ (by omega)
  have hq1 : (N : Int) < (N : Int) + 1 := by omega
  have hq2 : (0 : Int) < (N : Int) + 1 := by omega
  have x0 := r.ca 0 (by omega)
  have y0 := r.cb 0 (by omega)
  rw [Nat.add_zero] at x0 y0
  have xn := r.ca N (by omega)
  have yn := r.cb N (by omega)
  have o3 := k.ltX N 0 (by omega) (by omega)
  have o4 := k.leY N 0 (by omega) (by omega)
  have HA0 := fun w' (he : Ext w w') => at_ok (c := c) (e := e) hz (r.ext he) x hx
  obtain ⟨a1, a2⟩ := atv_bd k x
  rw [Nat.add_sub_cancel] at a2
  have HP := Lib.hid (fun (i : Nat) (hi : i < N + 1) w' (he : Ext w w') => at_pt (c := c) (e := e) hz (r.ext he) hi)
  have R := Lib.hid r
  rw [atv_hi k (by rw [Nat.add_sub_cancel]; exact h2), Nat.add_sub_cancel] at HA0
  have h1 : X 0 < x := by omega
  clear a1 a2
  have HA := Lib.hid HA0
  clear hz r k HA0 hx
  go_enter Try.func8, Try.ntmps8
  go_wp2_with (first
    | (go_at_call 14; refine (awake_any _).mono ?_; rintro e w1 ⟨rfl, hb1⟩; (first | replace hb := Ext.trans hb hb1 | replace hb := Ext.trans (Ext.trans hb (Ext.drewN _ _)) hb1 | replace hb := Ext.trans (Ext.trans hb (Ext.alloc _ _)) hb1 | have hb := hb1); clear hb1; obtain ⟨hc1, hf1⟩ := hb.old)
    | (go_at_call 15; (with_reducible refine (HL.out _).mono ?_); rintro e1 w1 ⟨rfl, hb1⟩; replace hb := Ext.trans hb hb1; clear hb1; obtain ⟨hc1, hf1⟩ := hb.old)
    | (go_at_call 17; (with_reducible refine (HK.out _ ((Ext.alloc _ _).trans hb)).mono ?_); rintro e1 w1 ⟨rfl, hb1⟩; replace hb := Ext.trans hb hb1; clear hb1; obtain ⟨hc1, hf1⟩ := hb.old)
    | (go_at_call 18; (with_reducible refine (HR.out _ ((Ext.alloc _ _).trans hb)).mono ?_); rintro e1 w1 ⟨rfl, hb1⟩; replace hb := Ext.trans hb hb1; clear hb1; obtain ⟨hc1, hf1⟩ := hb.old))
  go_loopw [6] (fun s wr => Ext (w.alloc (.cells #[.slice (some ⟨ba, oa, none⟩) (N + 1) c, .slice (some ⟨bb, ob, none⟩) (N + 1) e] 24)) wr ∧ ∃ k : Nat, k ≤ N + 1 ∧ s = I k) (fun s _ => N + 1 - (intOf s).toNat)
  case atStart => exact ⟨(by repeat (first | exact Ext.refl _ | assumption | exact Ext.alloc _ _ | refine Ext.trans ?_ (by assumption) | refine Ext.trans ?_ (Ext.alloc _ _) | refine Ext.trans ?_ (Ext.drewN _ _) | refine Ext.trans ?_ (Ext.drew _))), 0, Nat.zero_le _, rfl⟩
  case round =>
    clear hb hc1 hf1
    obtain ⟨hb, k, hkn, rfl⟩ := hrel
    obtain ⟨hc, hf⟩ := hb.old
    by_cases hlt : k < N + 1
    · have xk := R.out.ca k hlt
      have yk := R.out.cb k hlt
      have HQ := Lib.hid (HP.out k hlt)
      have hlt2 : (k : Int) < (N : Int) + 1 := by omega
      clear x0 xn y0 yn
      go_wp2_with fail
      have hL := fun (x : Later _) => (Ext.trans hb x.ext).old.1
      refine wp_region_later (by kernel_rfl) (by kernel_rfl) ?_
      repeat (go_big_quiet_step (((go_at_call 19; exact Calls.later (HQ.out _ (((Ext.alloc _ _).trans hb).trans (Later.ext _)))))))
      refine wpQuiet_nil ?_
      intro w2 hw2
      replace hb := Ext.trans hb (Later.of hw2)
      clear hw2 hL
      obtain ⟨hc, hf⟩ := hb.old
      go_wp2_with fail
      go_roundw
      case rel => exact ⟨(by repeat (first | exact Ext.refl _ | assumption | exact Ext.alloc _ _ | refine Ext.trans ?_ (by assumption) | refine Ext.trans ?_ (Ext.alloc _ _) | refine Ext.trans ?_ (Ext.drewN _ _) | refine Ext.trans ?_ (Ext.drew _))), k + 1, by omega, by go_num⟩
      case measure => simp [intOf]; omega
    · obtain rfl : k = N + 1 := by omega
      go_wp2_with (go_at_call 19; (with_reducible refine (HA.out _ ((Ext.alloc _ _).trans hb)).mono ?_); rintro e1 w1 ⟨rfl, hb1⟩; replace hb := Ext.trans hb hb1; clear hb1; obtain ⟨hc1, hf1⟩ := hb.old)
      go_ret
      exact ⟨rfl, (by repeat (first | exact Ext.refl _ | assumption | exact Ext.alloc _ _ | refine Ext.trans ?_ (by assumption) | refine Ext.trans ?_ (Ext.alloc _ _) | refine Ext.trans ?_ (Ext.drewN _ _) | refine Ext.trans ?_ (Ext.drew _)))⟩

theorem points_yes {w : World} {ba oa c bb ob e n : Nat} {X Y : Nat → Int} (hz : chk n n X Y = 0) (r : Cur w ba oa bb ob n X Y) (x : Int) (hx : -9223372036854775808 ≤ x ∧ x ≤ 9223372036854775807) :
    Calls Try.prog 8 #[cw ba oa c bb ob e n, I x] w fun e' w' => e' = .returned (.bool true) ∧ Ext w w' := by
  obtain ⟨N, rfl⟩ : ∃ N, n = N + 1 := ⟨n - 1, by have := (crv_of hz).2.two; omega⟩
  by_cases h1 : x ≤ X 0
  · exact points_lo hz r x hx h1
  · by_cases h2 : X N ≤ x
    · exact points_hi hz r x hx h2
    · exact points_in hz r x hx (by omega) (by omega)

theorem points_top {w : World} {A B : Option Addr} {n c m e : Nat} {X Y : Nat → Int} {x : Int} (hn : n ≤ maxLen) (hm : m ≤ maxLen) (ra : Ri w A n X) (rb : Ri w B m Y) (hx : -9223372036854775808 ≤ x ∧ x ≤ 9223372036854775807) :
    Calls Try.prog 8 #[cv A n c B m e, I x] w fun e' w' => e' = .returned (.bool true) ∧ Ext w w' := by
  by_cases h : 100 < n ∨ 100 < m
  · exact points_long A B n c m e x h hn hm
  · by_cases hz : chk n m X Y = 0
    · obtain ⟨rfl, ba, oa, bb, ob, rfl, rfl, r⟩ := cur_of' hz ra rb
      exact points_yes hz r x hx
    · exact points_no rfl hz ra rb (by omega) (by omega) x
end Go.Proofs.Ytdcollchhcjaaaa
