/- The laws CurveSteepest, CurveMonotone, CurvePoints, CurveGalois: they return true. -/
import Derived.Test.YtdcollchhcjaaaaCrvl
import Derived.Test.YtdcollchhcjaaaaCrvp
namespace Go.Proofs.Ytdcollchhcjaaaa
open Go.RowKit

set_option maxRecDepth 100000 in
set_option maxHeartbeats 1000000 in
theorem steep_long {w : World} (A B : Option Addr) (n c m e : Nat) (d : Int) (h : 100 < n ∨ 100 < m) (hn : n ≤ maxLen) (hm : m ≤ maxLen) :
    Calls Try.prog 6 #[cv A n c B m e, I d] w fun e' w' => e' = .returned (.bool true) ∧ Ext w w' := by
  have HL := Lib.hid (fun w' => large_t A B n c m e w' h hn hm)
  clear h
  go_enter Try.func6, Try.ntmps6
  go_wp2_with (first
    | (go_at_call 14; refine (awake_any _).mono ?_; rintro e w1 ⟨rfl, hb1⟩; (first | replace hb := Ext.trans hb hb1 | replace hb := Ext.trans (Ext.trans hb (Ext.drewN _ _)) hb1 | replace hb := Ext.trans (Ext.trans hb (Ext.alloc _ _)) hb1 | have hb := hb1); clear hb1; obtain ⟨hc1, hf1⟩ := hb.old)
    | (go_at_call 15; (with_reducible refine (HL.out _).mono ?_); rintro e1 w1 ⟨rfl, hb1⟩; replace hb := Ext.trans hb hb1; clear hb1; obtain ⟨hc1, hf1⟩ := hb.old))
  go_ret
  exact ⟨rfl, (by repeat (first | exact Ext.refl _ | assumption | exact Ext.alloc _ _ | refine Ext.trans ?_ (by assumption) | refine Ext.trans ?_ (Ext.alloc _ _) | refine Ext.trans ?_ (Ext.drewN _ _) | refine Ext.trans ?_ (Ext.drew _)))⟩

set_option maxRecDepth 100000 in
set_option maxHeartbeats 1000000 in
theorem steep_no {w : World} {A B : Option Addr} {n c m e : Nat} {X Y : Nat → Int} {k : Int} (hz : chk n m X Y = k) (hk : k ≠ 0) (ra : Ri w A n X) (rb : Ri w B m Y) (hn : n ≤ 100) (hm : m ≤ 100) (d : Int) :
    Calls Try.prog 6 #[cv A n c B m e, I d] w fun e' w' => e' = .returned (.bool true) ∧ Ext w w' := by
  have hn' : n ≤ maxLen := by unfold maxLen; omega
  have hm' : m ≤ maxLen := by unfold maxLen; omega
  have HL := Lib.hid (fun w' => large_f A B n c m e w' hn hm)
  have HC := Lib.hid (fun w' (he : Ext w w') => steepest_bad (c := c) (e := e) hz hk (ra.ext he) (rb.ext he) hn' hm' d)
  have HR := Lib.hid (fun w' (he : Ext w w') => rcheck_any (c := c) (e := e) (ra.ext he) (rb.ext he) hn' hm')
  rw [hz] at HR
  clear hn' hm' hn hm ra rb hz
  go_enter Try.func6, Try.ntmps6
  go_wp2_with (first
    | (go_at_call 14; refine (awake_any _).mono ?_; rintro e w1 ⟨rfl, hb1⟩; (first | replace hb := Ext.trans hb hb1 | replace hb := Ext.trans (Ext.trans hb (Ext.drewN _ _)) hb1 | replace hb := Ext.trans (Ext.trans hb (Ext.alloc _ _)) hb1 | have hb := hb1); clear hb1; obtain ⟨hc1, hf1⟩ := hb.old)
    | (go_at_call 15; (with_reducible refine (HL.out _).mono ?_); rintro e1 w1 ⟨rfl, hb1⟩; replace hb := Ext.trans hb hb1; clear hb1; obtain ⟨hc1, hf1⟩ := hb.old)
    | (go_at_call 23; (with_reducible refine (HC.out _ ((Ext.alloc _ _).trans hb)).mono ?_); rintro e1 w1 ⟨rfl, hb1⟩; replace hb := Ext.trans hb hb1; clear hb1; obtain ⟨hc1, hf1⟩ := hb.old)
    | (go_at_call 18; (with_reducible refine (HR.out _ ((Ext.alloc _ _).trans hb)).mono ?_); rintro e1 w1 ⟨rfl, hb1⟩; replace hb := Ext.trans hb hb1; clear hb1; obtain ⟨hc1, hf1⟩ := hb.old)
    | (go_at_call 16; (with_reducible refine (num_err _ _).mono ?_); rintro e1 w1 ⟨rfl, hb1⟩; replace hb := Ext.trans hb hb1; clear hb1; obtain ⟨hc1, hf1⟩ := hb.old))
  go_ret
  exact ⟨rfl, (by repeat (first | exact Ext.refl _ | assumption | exact Ext.alloc _ _ | refine Ext.trans ?_ (by assumption) | refine Ext.trans ?_ (Ext.alloc _ _) | refine Ext.trans ?_ (Ext.drewN _ _) | refine Ext.trans ?_ (Ext.drew _)))⟩

set_option maxRecDepth 100000 in
set_option maxHeartbeats 1000000 in
theorem steep_yes {w : World} {ba oa c bb ob e n : Nat} {X Y : Nat → Int} (hz : chk n n X Y = 0) (r : Cur w ba oa bb ob n X Y) (d : Int) (hd : -9223372036854775808 ≤ d ∧ d ≤ 9223372036854775807) :
    Calls Try.prog 6 #[cw ba oa c bb ob e n, I d] w fun e' w' => e' = .returned (.bool true) ∧ Ext w w' := by
  have HL := Lib.hid (fun w' => large_ok (ba := ba) (oa := oa) (c := c) (bb := bb) (ob := ob) (e := e) hz w')
  have HC := Lib.hid (fun w' (he : Ext w w') => steepest_ok (c := c) (e := e) hz (r.ext he) d)
  have HR := Lib.hid (fun w' (he : Ext w w') => rcheck_ok (c := c) (e := e) hz r w' he)
  have HA := Lib.hid (fun w' (he : Ext w w') => rsteepest_any (c := c) (e := e) (crv_of hz).2 (r.ext he) d hd)
  clear hz r hd
  go_enter Try.func6, Try.ntmps6
  go_wp2_with (first
    | (go_at_call 14; refine (awake_any _).mono ?_; rintro e w1 ⟨rfl, hb1⟩; (first | replace hb := Ext.trans hb hb1 | replace hb := Ext.trans (Ext.trans hb (Ext.drewN _ _)) hb1 | replace hb := Ext.trans (Ext.trans hb (Ext.alloc _ _)) hb1 | have hb := hb1); clear hb1; obtain ⟨hc1, hf1⟩ := hb.old)
    | (go_at_call 15; (with_reducible refine (HL.out _).mono ?_); rintro e1 w1 ⟨rfl, hb1⟩; replace hb := Ext.trans hb hb1; clear hb1; obtain ⟨hc1, hf1⟩ := hb.old)
    | (go_at_call 23; (with_reducible refine (HC.out _ ((Ext.alloc _ _).trans hb)).mono ?_); rintro e1 w1 ⟨rfl, hb1⟩; replace hb := Ext.trans hb hb1; clear hb1; obtain ⟨hc1, hf1⟩ := hb.old)
    | (go_at_call 18; (with_reducible refine (HR.out _ ((Ext.alloc _ _).trans hb)).mono ?_); rintro e1 w1 ⟨rfl, hb1⟩; replace hb := Ext.trans hb hb1; clear hb1; obtain ⟨hc1, hf1⟩ := hb.old)
    | (go_at_call 24; (with_reducible refine (HA.out _ ((Ext.alloc _ _).trans hb)).mono ?_); rintro e1 w1 ⟨rfl, hb1⟩; replace hb := Ext.trans hb hb1; clear hb1; obtain ⟨hc1, hf1⟩ := hb.old))
  go_ret
  exact ⟨rfl, (by repeat (first | exact Ext.refl _ | assumption | exact Ext.alloc _ _ | refine Ext.trans ?_ (by assumption) | refine Ext.trans ?_ (Ext.alloc _ _) | refine Ext.trans ?_ (Ext.drewN _ _) | refine Ext.trans ?_ (Ext.drew _)))⟩

theorem steep_top {w : World} {A B : Option Addr} {n c m e : Nat} {X Y : Nat → Int} {d : Int} (hn : n ≤ maxLen) (hm : m ≤ maxLen) (ra : Ri w A n X) (rb : Ri w B m Y) (hd : -9223372036854775808 ≤ d ∧ d ≤ 9223372036854775807) :
    Calls Try.prog 6 #[cv A n c B m e, I d] w fun e' w' => e' = .returned (.bool true) ∧ Ext w w' := by
  by_cases h : 100 < n ∨ 100 < m
  · exact steep_long A B n c m e d h hn hm
  · by_cases hz : chk n m X Y = 0
    · obtain ⟨rfl, ba, oa, bb, ob, rfl, rfl, r⟩ := cur_of' hz ra rb
      exact steep_yes hz r d hd
    · exact steep_no rfl hz ra rb (by omega) (by omega) d

set_option maxRecDepth 100000 in
set_option maxHeartbeats 1000000 in
theorem mono_long {w : World} (A B : Option Addr) (n c m e : Nat) (x y : Int) (h : 100 < n ∨ 100 < m) (hn : n ≤ maxLen) (hm : m ≤ maxLen) :
    Calls Try.prog 7 #[cv A n c B m e, I x, I y] w fun e' w' => e' = .returned (.bool true) ∧ Ext w w' := by
  have HL := Lib.hid (fun w' => large_t A B n c m e w' h hn hm)
  clear h
  go_enter Try.func7, Try.ntmps7
  go_wp2_with (first
    | (go_at_call 14; refine (awake_any _).mono ?_; rintro e w1 ⟨rfl, hb1⟩; (first | replace hb := Ext.trans hb hb1 | replace hb := Ext.trans (Ext.trans hb (Ext.drewN _ _)) hb1 | replace hb := Ext.trans (Ext.trans hb (Ext.alloc _ _)) hb1 | have hb := hb1); clear hb1; obtain ⟨hc1, hf1⟩ := hb.old)
    | (go_at_call 15; (with_reducible refine (HL.out _).mono ?_); rintro e1 w1 ⟨rfl, hb1⟩; replace hb := Ext.trans hb hb1; clear hb1; obtain ⟨hc1, hf1⟩ := hb.old))
  go_ret
  exact ⟨rfl, (by repeat (first | exact Ext.refl _ | assumption | exact Ext.alloc _ _ | refine Ext.trans ?_ (by assumption) | refine Ext.trans ?_ (Ext.alloc _ _) | refine Ext.trans ?_ (Ext.drewN _ _) | refine Ext.trans ?_ (Ext.drew _)))⟩

set_option maxRecDepth 100000 in
set_option maxHeartbeats 1000000 in
theorem mono_no {w : World} {A B : Option Addr} {n c m e : Nat} {X Y : Nat → Int} {k : Int} (hz : chk n m X Y = k) (hk : k ≠ 0) (ra : Ri w A n X) (rb : Ri w B m Y) (hn : n ≤ 100) (hm : m ≤ 100) (x y : Int) :
    Calls Try.prog 7 #[cv A n c B m e, I x, I y] w fun e' w' => e' = .returned (.bool true) ∧ Ext w w' := by
  have hn' : n ≤ maxLen := by unfold maxLen; omega
  have hm' : m ≤ maxLen := by unfold maxLen; omega
  have HL := Lib.hid (fun w' => large_f A B n c m e w' hn hm)
  have HC := Lib.hid (fun w' (he : Ext w w') => check_bad (c := c) (e := e) hz hk ra rb hn' hm' w' he)
  clear hn' hm' hn hm ra rb hz
  go_enter Try.func7, Try.ntmps7
  go_wp2_with (first
    | (go_at_call 14; refine (awake_any _).mono ?_; rintro e w1 ⟨rfl, hb1⟩; (first | replace hb := Ext.trans hb hb1 | replace hb := Ext.trans (Ext.trans hb (Ext.drewN _ _)) hb1 | replace hb := Ext.trans (Ext.trans hb (Ext.alloc _ _)) hb1 | have hb := hb1); clear hb1; obtain ⟨hc1, hf1⟩ := hb.old)
    | (go_at_call 15; (with_reducible refine (HL.out _).mono ?_); rintro e1 w1 ⟨rfl, hb1⟩; replace hb := Ext.trans hb hb1; clear hb1; obtain ⟨hc1, hf1⟩ := hb.old)
    | (go_at_call 17; (with_reducible refine (HC.out _ ((Ext.alloc _ _).trans hb)).mono ?_); rintro e1 w1 ⟨rfl, hb1⟩; replace hb := Ext.trans hb hb1; clear hb1; obtain ⟨hc1, hf1⟩ := hb.old))
  go_ret
  exact ⟨rfl, (by repeat (first | exact Ext.refl _ | assumption | exact Ext.alloc _ _ | refine Ext.trans ?_ (by assumption) | refine Ext.trans ?_ (Ext.alloc _ _) | refine Ext.trans ?_ (Ext.drewN _ _) | refine Ext.trans ?_ (Ext.drew _)))⟩

set_option maxRecDepth 100000 in
set_option maxHeartbeats 1000000 in
theorem mono_lt {w : World} {ba oa c bb ob e n : Nat} {X Y : Nat → Int} (hz : chk n n X Y = 0) (r : Cur w ba oa bb ob n X Y) (x y : Int) (h : nr x < nr y) :
    Calls Try.prog 7 #[cw ba oa c bb ob e n, I x, I y] w fun e' w' => e' = .returned (.bool true) ∧ Ext w w' := by
  have HL := Lib.hid (fun w' => large_ok (ba := ba) (oa := oa) (c := c) (bb := bb) (ob := ob) (e := e) hz w')
  have HK := Lib.hid (fun w' (he : Ext w w') => check_ok (c := c) (e := e) hz r w' he)
  have k := (crv_of hz).2
  have bx := nr_bd x
  have by' := nr_bd y
  have HX := Lib.hid (fun w' => near_any x w')
  have HY := Lib.hid (fun w' => near_any y w')
  obtain ⟨p, hp⟩ : ∃ p, nr x = p := ⟨_, rfl⟩
  obtain ⟨q, hq⟩ : ∃ q, nr y = q := ⟨_, rfl⟩
  rw [hp] at HX bx h
  rw [hq] at HY by' h
  obtain ⟨bx1, bx2⟩ := bx
  obtain ⟨by1, by2⟩ := by'
  have HA := Lib.hid (fun w' (he : Ext w w') => at_ok (c := c) (e := e) hz (r.ext he) p (by omega))
  have HB := Lib.hid (fun w' (he : Ext w w') => at_ok (c := c) (e := e) hz (r.ext he) q (by omega))
  have HS := Lib.hid (fun w' (he : Ext w w') => steepest_ok (c := c) (e := e) hz (r.ext he) (q - p))
  have r1 := atv_range k p
  have r2 := atv_range k q
  have m10 := atv_mono k (x := p) (y := q) (by omega)
  have m20 := atv_lip k (x := p) (y := q) (by omega)
  rw [show q - p = q - p by omega] at m20
  obtain ⟨a, ha⟩ : ∃ a, atv n X Y p = a := ⟨_, rfl⟩
  obtain ⟨b, hb0⟩ : ∃ b, atv n X Y q = b := ⟨_, rfl⟩
  obtain ⟨s, hs⟩ : ∃ s, steep n X Y (q - p) = s := ⟨_, rfl⟩
  have m1 : a ≤ b := by rw [← ha, ← hb0]; exact m10
  have m3 : b - a ≤ s := by rw [← ha, ← hb0, ← hs]; omega
  have m4 : 0 ≤ s := by rw [← hs]; exact stp_nn _ _ _ _
  rw [ha] at HA r1
  rw [hb0] at HB r2
  rw [hs] at HS
  have e1 : wrap64 (b - a) = b - a := wrap_id (by omega) (by omega)
  clear m10 m20 r1 r2 hz r k ha hb0 hs hp hq
  go_enter Try.func7, Try.ntmps7
  go_wp2_with (first
    | (go_at_call 14; refine (awake_any _).mono ?_; rintro e w1 ⟨rfl, hb1⟩; (first | replace hb := Ext.trans hb hb1 | replace hb := Ext.trans (Ext.trans hb (Ext.drewN _ _)) hb1 | replace hb := Ext.trans (Ext.trans hb (Ext.alloc _ _)) hb1 | have hb := hb1); clear hb1; obtain ⟨hc1, hf1⟩ := hb.old)
    | (go_at_call 15; (with_reducible refine (HL.out _).mono ?_); rintro e1 w1 ⟨rfl, hb1⟩; replace hb := Ext.trans hb hb1; clear hb1; obtain ⟨hc1, hf1⟩ := hb.old)
    | (go_at_call 17; (with_reducible refine (HK.out _ ((Ext.alloc _ _).trans hb)).mono ?_); rintro e1 w1 ⟨rfl, hb1⟩; replace hb := Ext.trans hb hb1; clear hb1; obtain ⟨hc1, hf1⟩ := hb.old)
    | (go_at_call 25; (with_reducible refine (HX.out _).mono ?_); rintro e1 w1 ⟨rfl, hb1⟩; replace hb := Ext.trans hb hb1; clear hb1; obtain ⟨hc1, hf1⟩ := hb.old)
    | (go_at_call 25; (with_reducible refine (HY.out _).mono ?_); rintro e1 w1 ⟨rfl, hb1⟩; replace hb := Ext.trans hb hb1; clear hb1; obtain ⟨hc1, hf1⟩ := hb.old)
    | (go_at_call 19; (with_reducible refine (HA.out _ ((Ext.alloc _ _).trans hb)).mono ?_); rintro e1 w1 ⟨rfl, hb1⟩; replace hb := Ext.trans hb hb1; clear hb1; obtain ⟨hc1, hf1⟩ := hb.old)
    | (go_at_call 19; (with_reducible refine (HB.out _ ((Ext.alloc _ _).trans hb)).mono ?_); rintro e1 w1 ⟨rfl, hb1⟩; replace hb := Ext.trans hb hb1; clear hb1; obtain ⟨hc1, hf1⟩ := hb.old)
    | (go_at_call 23; (with_reducible refine (HS.out _ ((Ext.alloc _ _).trans hb)).mono ?_); rintro e1 w1 ⟨rfl, hb1⟩; replace hb := Ext.trans hb hb1; clear hb1; obtain ⟨hc1, hf1⟩ := hb.old))
  go_ret
  exact ⟨rfl, (by repeat (first | exact Ext.refl _ | assumption | exact Ext.alloc _ _ | refine Ext.trans ?_ (by assumption) | refine Ext.trans ?_ (Ext.alloc _ _) | refine Ext.trans ?_ (Ext.drewN _ _) | refine Ext.trans ?_ (Ext.drew _)))⟩

set_option maxRecDepth 100000 in
set_option maxHeartbeats 1000000 in
theorem mono_gt {w : World} {ba oa c bb ob e n : Nat} {X Y : Nat → Int} (hz : chk n n X Y = 0) (r : Cur w ba oa bb ob n X Y) (x y : Int) (h : nr y < nr x) :
    Calls Try.prog 7 #[cw ba oa c bb ob e n, I x, I y] w fun e' w' => e' = .returned (.bool true) ∧ Ext w w' := by
  have HL := Lib.hid (fun w' => large_ok (ba := ba) (oa := oa) (c := c) (bb := bb) (ob := ob) (e := e) hz w')
  have HK := Lib.hid (fun w' (he : Ext w w') => check_ok (c := c) (e := e) hz r w' he)
  have k := (crv_of hz).2
  have bx := nr_bd x
  have by' := nr_bd y
  have HX := Lib.hid (fun w' => near_any x w')
  have HY := Lib.hid (fun w' => near_any y w')
  obtain ⟨p, hp⟩ : ∃ p, nr x = p := ⟨_, rfl⟩
  obtain ⟨q, hq⟩ : ∃ q, nr y = q := ⟨_, rfl⟩
  rw [hp] at HX bx h
  rw [hq] at HY by' h
  obtain ⟨bx1, bx2⟩ := bx
  obtain ⟨by1, by2⟩ := by'
  have HA := Lib.hid (fun w' (he : Ext w w') => at_ok (c := c) (e := e) hz (r.ext he) q (by omega))
  have HB := Lib.hid (fun w' (he : Ext w w') => at_ok (c := c) (e := e) hz (r.ext he) p (by omega))
  have HS := Lib.hid (fun w' (he : Ext w w') => steepest_ok (c := c) (e := e) hz (r.ext he) (p - q))
  have r1 := atv_range k q
  have r2 := atv_range k p
  have m10 := atv_mono k (x := q) (y := p) (by omega)
  have m20 := atv_lip k (x := q) (y := p) (by omega)
  rw [show p - q = p - q by omega] at m20
  obtain ⟨a, ha⟩ : ∃ a, atv n X Y q = a := ⟨_, rfl⟩
  obtain ⟨b, hb0⟩ : ∃ b, atv n X Y p = b := ⟨_, rfl⟩
  obtain ⟨s, hs⟩ : ∃ s, steep n X Y (p - q) = s := ⟨_, rfl⟩
  have m1 : a ≤ b := by rw [← ha, ← hb0]; exact m10
  have m3 : b - a ≤ s := by rw [← ha, ← hb0, ← hs]; omega
  have m4 : 0 ≤ s := by rw [← hs]; exact stp_nn _ _ _ _
  rw [ha] at HA r1
  rw [hb0] at HB r2
  rw [hs] at HS
  have e1 : wrap64 (b - a) = b - a := wrap_id (by omega) (by omega)
  clear m10 m20 r1 r2 hz r k ha hb0 hs hp hq
  go_enter Try.func7, Try.ntmps7
  go_wp2_with (first
    | (go_at_call 14; refine (awake_any _).mono ?_; rintro e w1 ⟨rfl, hb1⟩; (first | replace hb := Ext.trans hb hb1 | replace hb := Ext.trans (Ext.trans hb (Ext.drewN _ _)) hb1 | replace hb := Ext.trans (Ext.trans hb (Ext.alloc _ _)) hb1 | have hb := hb1); clear hb1; obtain ⟨hc1, hf1⟩ := hb.old)
    | (go_at_call 15; (with_reducible refine (HL.out _).mono ?_); rintro e1 w1 ⟨rfl, hb1⟩; replace hb := Ext.trans hb hb1; clear hb1; obtain ⟨hc1, hf1⟩ := hb.old)
    | (go_at_call 17; (with_reducible refine (HK.out _ ((Ext.alloc _ _).trans hb)).mono ?_); rintro e1 w1 ⟨rfl, hb1⟩; replace hb := Ext.trans hb hb1; clear hb1; obtain ⟨hc1, hf1⟩ := hb.old)
    | (go_at_call 25; (with_reducible refine (HX.out _).mono ?_); rintro e1 w1 ⟨rfl, hb1⟩; replace hb := Ext.trans hb hb1; clear hb1; obtain ⟨hc1, hf1⟩ := hb.old)
    | (go_at_call 25; (with_reducible refine (HY.out _).mono ?_); rintro e1 w1 ⟨rfl, hb1⟩; replace hb := Ext.trans hb hb1; clear hb1; obtain ⟨hc1, hf1⟩ := hb.old)
    | (go_at_call 19; (with_reducible refine (HA.out _ ((Ext.alloc _ _).trans hb)).mono ?_); rintro e1 w1 ⟨rfl, hb1⟩; replace hb := Ext.trans hb hb1; clear hb1; obtain ⟨hc1, hf1⟩ := hb.old)
    | (go_at_call 19; (with_reducible refine (HB.out _ ((Ext.alloc _ _).trans hb)).mono ?_); rintro e1 w1 ⟨rfl, hb1⟩; replace hb := Ext.trans hb hb1; clear hb1; obtain ⟨hc1, hf1⟩ := hb.old)
    | (go_at_call 23; (with_reducible refine (HS.out _ ((Ext.alloc _ _).trans hb)).mono ?_); rintro e1 w1 ⟨rfl, hb1⟩; replace hb := Ext.trans hb hb1; clear hb1; obtain ⟨hc1, hf1⟩ := hb.old))
  go_ret
  exact ⟨rfl, (by repeat (first | exact Ext.refl _ | assumption | exact Ext.alloc _ _ | refine Ext.trans ?_ (by assumption) | refine Ext.trans ?_ (Ext.alloc _ _) | refine Ext.trans ?_ (Ext.drewN _ _) | refine Ext.trans ?_ (Ext.drew _)))⟩

set_option maxRecDepth 100000 in
set_option maxHeartbeats 1000000 in
theorem mono_eq {w : World} {ba oa c bb ob e n : Nat} {X Y : Nat → Int} (hz : chk n n X Y = 0) (r : Cur w ba oa bb ob n X Y) (x y : Int) (h : nr x = nr y) :
    Calls Try.prog 7 #[cw ba oa c bb ob e n, I x, I y] w fun e' w' => e' = .returned (.bool true) ∧ Ext w w' := by
  have HL := Lib.hid (fun w' => large_ok (ba := ba) (oa := oa) (c := c) (bb := bb) (ob := ob) (e := e) hz w')
  have HK := Lib.hid (fun w' (he : Ext w w') => check_ok (c := c) (e := e) hz r w' he)
  have k := (crv_of hz).2
  have bx := nr_bd x
  have by' := nr_bd y
  have HX := Lib.hid (fun w' => near_any x w')
  have HY := Lib.hid (fun w' => near_any y w')
  obtain ⟨p, hp⟩ : ∃ p, nr x = p := ⟨_, rfl⟩
  obtain ⟨q, hq⟩ : ∃ q, nr y = q := ⟨_, rfl⟩
  rw [hp] at HX bx h
  rw [hq] at HY by' h
  subst h
  obtain ⟨bx1, bx2⟩ := bx
  obtain ⟨by1, by2⟩ := by'
  have HA := Lib.hid (fun w' (he : Ext w w') => at_ok (c := c) (e := e) hz (r.ext he) p (by omega))
  have HB := Lib.hid (fun w' (he : Ext w w') => at_ok (c := c) (e := e) hz (r.ext he) p (by omega))
  have HS := Lib.hid (fun w' (he : Ext w w') => steepest_ok (c := c) (e := e) hz (r.ext he) (0))
  have r1 := atv_range k p
  have r2 := atv_range k p
  have m10 := atv_mono k (x := p) (y := p) (by omega)
  have m20 := atv_lip k (x := p) (y := p) (by omega)
  rw [show p - p = 0 by omega] at m20
  obtain ⟨a, ha⟩ : ∃ a, atv n X Y p = a := ⟨_, rfl⟩
  obtain ⟨b, hb0⟩ : ∃ b, atv n X Y p = b := ⟨_, rfl⟩
  obtain ⟨s, hs⟩ : ∃ s, steep n X Y (0) = s := ⟨_, rfl⟩
  have m1 : a ≤ b := by rw [← ha, ← hb0]; exact m10
  have m3 : b - a ≤ s := by rw [← ha, ← hb0, ← hs]; omega
  have m4 : 0 ≤ s := by rw [← hs]; exact stp_nn _ _ _ _
  rw [ha] at HA r1
  rw [hb0] at HB r2
  rw [hs] at HS
  have e1 : wrap64 (b - a) = b - a := wrap_id (by omega) (by omega)
  clear m10 m20 r1 r2 hz r k ha hb0 hs hp hq
  go_enter Try.func7, Try.ntmps7
  go_wp2_with (first
    | (go_at_call 14; refine (awake_any _).mono ?_; rintro e w1 ⟨rfl, hb1⟩; (first | replace hb := Ext.trans hb hb1 | replace hb := Ext.trans (Ext.trans hb (Ext.drewN _ _)) hb1 | replace hb := Ext.trans (Ext.trans hb (Ext.alloc _ _)) hb1 | have hb := hb1); clear hb1; obtain ⟨hc1, hf1⟩ := hb.old)
    | (go_at_call 15; (with_reducible refine (HL.out _).mono ?_); rintro e1 w1 ⟨rfl, hb1⟩; replace hb := Ext.trans hb hb1; clear hb1; obtain ⟨hc1, hf1⟩ := hb.old)
    | (go_at_call 17; (with_reducible refine (HK.out _ ((Ext.alloc _ _).trans hb)).mono ?_); rintro e1 w1 ⟨rfl, hb1⟩; replace hb := Ext.trans hb hb1; clear hb1; obtain ⟨hc1, hf1⟩ := hb.old)
    | (go_at_call 25; (with_reducible refine (HX.out _).mono ?_); rintro e1 w1 ⟨rfl, hb1⟩; replace hb := Ext.trans hb hb1; clear hb1; obtain ⟨hc1, hf1⟩ := hb.old)
    | (go_at_call 25; (with_reducible refine (HY.out _).mono ?_); rintro e1 w1 ⟨rfl, hb1⟩; replace hb := Ext.trans hb hb1; clear hb1; obtain ⟨hc1, hf1⟩ := hb.old)
    | (go_at_call 19; (with_reducible refine (HA.out _ ((Ext.alloc _ _).trans hb)).mono ?_); rintro e1 w1 ⟨rfl, hb1⟩; replace hb := Ext.trans hb hb1; clear hb1; obtain ⟨hc1, hf1⟩ := hb.old)
    | (go_at_call 19; (with_reducible refine (HB.out _ ((Ext.alloc _ _).trans hb)).mono ?_); rintro e1 w1 ⟨rfl, hb1⟩; replace hb := Ext.trans hb hb1; clear hb1; obtain ⟨hc1, hf1⟩ := hb.old)
    | (go_at_call 23; (with_reducible refine (HS.out _ ((Ext.alloc _ _).trans hb)).mono ?_); rintro e1 w1 ⟨rfl, hb1⟩; replace hb := Ext.trans hb hb1; clear hb1; obtain ⟨hc1, hf1⟩ := hb.old))
  go_ret
  exact ⟨rfl, (by repeat (first | exact Ext.refl _ | assumption | exact Ext.alloc _ _ | refine Ext.trans ?_ (by assumption) | refine Ext.trans ?_ (Ext.alloc _ _) | refine Ext.trans ?_ (Ext.drewN _ _) | refine Ext.trans ?_ (Ext.drew _)))⟩

theorem mono_yes {w : World} {ba oa c bb ob e n : Nat} {X Y : Nat → Int} (hz : chk n n X Y = 0) (r : Cur w ba oa bb ob n X Y) (x y : Int) :
    Calls Try.prog 7 #[cw ba oa c bb ob e n, I x, I y] w fun e' w' => e' = .returned (.bool true) ∧ Ext w w' := by
  rcases Int.lt_trichotomy (nr x) (nr y) with h | h | h
  · exact mono_lt hz r x y h
  · exact mono_eq hz r x y h
  · exact mono_gt hz r x y h

theorem mono_top {w : World} {A B : Option Addr} {n c m e : Nat} {X Y : Nat → Int} {x y : Int} (hn : n ≤ maxLen) (hm : m ≤ maxLen) (ra : Ri w A n X) (rb : Ri w B m Y) (_hx : -9223372036854775808 ≤ x ∧ x ≤ 9223372036854775807) (_hy : -9223372036854775808 ≤ y ∧ y ≤ 9223372036854775807) :
    Calls Try.prog 7 #[cv A n c B m e, I x, I y] w fun e' w' => e' = .returned (.bool true) ∧ Ext w w' := by
  by_cases h : 100 < n ∨ 100 < m
  · exact mono_long A B n c m e x y h hn hm
  · by_cases hz : chk n m X Y = 0
    · obtain ⟨rfl, ba, oa, bb, ob, rfl, rfl, r⟩ := cur_of' hz ra rb
      exact mono_yes hz r x y
    · exact mono_no rfl hz ra rb (by omega) (by omega) x y

set_option maxRecDepth 100000 in
set_option maxHeartbeats 1000000 in
theorem galois_long {w : World} (A B : Option Addr) (n c m e : Nat) (x y : Int) (h : 100 < n ∨ 100 < m) (hn : n ≤ maxLen) (hm : m ≤ maxLen) :
    Calls Try.prog 9 #[cv A n c B m e, I x, I y] w fun e' w' => e' = .returned (.bool true) ∧ Ext w w' := by
  have HL := Lib.hid (fun w' => large_t A B n c m e w' h hn hm)
  clear h
  go_enter Try.func9, Try.ntmps9
  go_wp2_with (first
    | (go_at_call 14; refine (awake_any _).mono ?_; rintro e w1 ⟨rfl, hb1⟩; (first | replace hb := Ext.trans hb hb1 | replace hb := Ext.trans (Ext.trans hb (Ext.drewN _ _)) hb1 | replace hb := Ext.trans (Ext.trans hb (Ext.alloc _ _)) hb1 | have hb := hb1); clear hb1; obtain ⟨hc1, hf1⟩ := hb.old)
    | (go_at_call 15; (with_reducible refine (HL.out _).mono ?_); rintro e1 w1 ⟨rfl, hb1⟩; replace hb := Ext.trans hb hb1; clear hb1; obtain ⟨hc1, hf1⟩ := hb.old))
  go_ret
  exact ⟨rfl, (by repeat (first | exact Ext.refl _ | assumption | exact Ext.alloc _ _ | refine Ext.trans ?_ (by assumption) | refine Ext.trans ?_ (Ext.alloc _ _) | refine Ext.trans ?_ (Ext.drewN _ _) | refine Ext.trans ?_ (Ext.drew _)))⟩

set_option maxRecDepth 100000 in
set_option maxHeartbeats 1000000 in
theorem galois_no {w : World} {A B : Option Addr} {n c m e : Nat} {X Y : Nat → Int} {k : Int} (hz : chk n m X Y = k) (hk : k ≠ 0) (ra : Ri w A n X) (rb : Ri w B m Y) (hn : n ≤ 100) (hm : m ≤ 100) (x y : Int) :
    Calls Try.prog 9 #[cv A n c B m e, I x, I y] w fun e' w' => e' = .returned (.bool true) ∧ Ext w w' := by
  have hn' : n ≤ maxLen := by unfold maxLen; omega
  have hm' : m ≤ maxLen := by unfold maxLen; omega
  have HL := Lib.hid (fun w' => large_f A B n c m e w' hn hm)
  have HR := Lib.hid (fun w' (he : Ext w w') => rcheck_any (c := c) (e := e) (ra.ext he) (rb.ext he) hn' hm')
  rw [hz] at HR
  clear hn' hm' hn hm ra rb hz
  go_enter Try.func9, Try.ntmps9
  go_wp2_with (first
    | (go_at_call 14; refine (awake_any _).mono ?_; rintro e w1 ⟨rfl, hb1⟩; (first | replace hb := Ext.trans hb hb1 | replace hb := Ext.trans (Ext.trans hb (Ext.drewN _ _)) hb1 | replace hb := Ext.trans (Ext.trans hb (Ext.alloc _ _)) hb1 | have hb := hb1); clear hb1; obtain ⟨hc1, hf1⟩ := hb.old)
    | (go_at_call 15; (with_reducible refine (HL.out _).mono ?_); rintro e1 w1 ⟨rfl, hb1⟩; replace hb := Ext.trans hb hb1; clear hb1; obtain ⟨hc1, hf1⟩ := hb.old)
    | (go_at_call 18; (with_reducible refine (HR.out _ ((Ext.alloc _ _).trans hb)).mono ?_); rintro e1 w1 ⟨rfl, hb1⟩; replace hb := Ext.trans hb hb1; clear hb1; obtain ⟨hc1, hf1⟩ := hb.old))
  go_ret
  exact ⟨rfl, (by repeat (first | exact Ext.refl _ | assumption | exact Ext.alloc _ _ | refine Ext.trans ?_ (by assumption) | refine Ext.trans ?_ (Ext.alloc _ _) | refine Ext.trans ?_ (Ext.drewN _ _) | refine Ext.trans ?_ (Ext.drew _)))⟩

set_option maxRecDepth 100000 in
set_option maxHeartbeats 1000000 in
theorem galois_lt {w : World} {ba oa c bb ob e N : Nat} {X Y : Nat → Int} (hz : chk (N + 1) (N + 1) X Y = 0) (r : Cur w ba oa bb ob (N + 1) X Y) (x y : Int) (h : y ≤ Y N) :
    Calls Try.prog 9 #[cw ba oa c bb ob e (N + 1), I x, I y] w fun e' w' => e' = .returned (.bool true) ∧ Ext w w' := by
  have HL := Lib.hid (fun w' => large_ok (ba := ba) (oa := oa) (c := c) (bb := bb) (ob := ob) (e := e) hz w')
  have HR := Lib.hid (fun w' (he : Ext w w') => rcheck_ok (c := c) (e := e) hz r w' he)
  have k := (crv_of hz).2
  have hN1 := k.two
  have hN2 := k.le
  have hba := r.la
  have hbb := r.lb
  have ha2 : ba < w.heap.size + 1 := by omega
  have hb2 : bb < w.heap.size + 1 := by omega
  have ha3 : ba ≠ w.heap.size := by omega
  have hb3 : bb ≠ w.heap.size := by omega
  have e1 : IntKind.i64.wrap (((N + 1 : Nat) : Int) - 1) = (N : Int) := by rw [show ((N + 1 : Nat) : Int) - 1 = (N : Int) by omega]; exact IntWalk.i64_in _ (by omega)
  have hq1 : (N : Int) < (N : Int) + 1 := by omega
  have hq2 : (0 : Int) < (N : Int) + 1 := by omega
  have x0 := r.ca 0 (by omega)
  rw [Nat.add_zero] at x0
  have xn := r.ca N (by omega)
  have yn := r.cb N (by omega)
  have o3 := k.ltX N 0 (by omega) (by omega)
  obtain ⟨b1, b2⟩ := k.bX 0 (by omega)
  obtain ⟨b3, b4⟩ := k.bX N (by omega)
  obtain ⟨v, hv⟩ := inv_ex k (y := y) (by rw [Nat.add_sub_cancel]; omega)
  have HI := Lib.hid (fun w' (he : Ext w w') => inverse_is (c := c) (e := e) hz (r.ext he) (by rw [Nat.add_sub_cancel]; omega) hv)
  have HX := Lib.hid (fun w' => clip_any x (X 0) (X N) w' o3)
  obtain ⟨q1, q2⟩ := clp_bd x (X 0) (X N) (by omega)
  obtain ⟨p, hp⟩ : ∃ p, clp x (X 0) (X N) = p := ⟨_, rfl⟩
  rw [hp] at HX q1 q2
  have HA := Lib.hid (fun w' (he : Ext w w') => at_ok (c := c) (e := e) hz (r.ext he) p (by omega))
  have g := inv_galois k hv q1
  have v1 := hv.lo
  have v2 := hv.hi
  rw [Nat.add_sub_cancel] at v2
  obtain ⟨a, ha⟩ : ∃ a, atv (N + 1) X Y p = a := ⟨_, rfl⟩
  rw [ha] at HA g
  have d1 : decide (v ≤ p) = decide (y ≤ a) := decide_eq_decide.2 g.symm
  have D1 := Lib.hid d1
  clear hz r k hv g hp ha d1
  go_enter Try.func9, Try.ntmps9
  go_wp2_with (first
    | (go_at_call 14; refine (awake_any _).mono ?_; rintro e w1 ⟨rfl, hb1⟩; (first | replace hb := Ext.trans hb hb1 | replace hb := Ext.trans (Ext.trans hb (Ext.drewN _ _)) hb1 | replace hb := Ext.trans (Ext.trans hb (Ext.alloc _ _)) hb1 | have hb := hb1); clear hb1; obtain ⟨hc1, hf1⟩ := hb.old)
    | (go_at_call 15; (with_reducible refine (HL.out _).mono ?_); rintro e1 w1 ⟨rfl, hb1⟩; replace hb := Ext.trans hb hb1; clear hb1; obtain ⟨hc1, hf1⟩ := hb.old)
    | (go_at_call 18; (with_reducible refine (HR.out _ ((Ext.alloc _ _).trans hb)).mono ?_); rintro e1 w1 ⟨rfl, hb1⟩; replace hb := Ext.trans hb hb1; clear hb1; obtain ⟨hc1, hf1⟩ := hb.old))
  have hL := fun (x : Later _) => (Ext.trans hb x.ext).old.1
  refine wp_region_later (by kernel_rfl) (by kernel_rfl) ?_
  repeat (go_big_quiet_step (((go_at_call 26; exact Calls.later (HX.out _)))))
  refine wpQuiet_nil ?_
  intro w2 hw2
  replace hb := Ext.trans hb (Later.of hw2)
  clear hw2 hL
  obtain ⟨hc, hf⟩ := hb.old
  go_wp2_with (first
    | (go_at_call 19; (with_reducible refine (HA.out _ ((Ext.alloc _ _).trans hb)).mono ?_); rintro e1 w1 ⟨rfl, hb1⟩; replace hb := Ext.trans hb hb1; clear hb1; obtain ⟨hc1, hf1⟩ := hb.old)
    | (go_at_call 21; (with_reducible refine (HI.out _ ((Ext.alloc _ _).trans hb)).mono ?_); rintro e1 w1 ⟨rfl, hb1⟩; replace hb := Ext.trans hb hb1; clear hb1; obtain ⟨hc1, hf1⟩ := hb.old))
  go_ret
  refine ⟨?_, (by repeat (first | exact Ext.refl _ | assumption | exact Ext.alloc _ _ | refine Ext.trans ?_ (by assumption) | refine Ext.trans ?_ (Ext.alloc _ _) | refine Ext.trans ?_ (Ext.drewN _ _) | refine Ext.trans ?_ (Ext.drew _)))⟩
  first | rfl | (simp [D1.out]; done) | (rw [D1.out]; simp)

set_option maxRecDepth 100000 in
set_option maxHeartbeats 1000000 in
theorem galois_ge {w : World} {ba oa c bb ob e N : Nat} {X Y : Nat → Int} (hz : chk (N + 1) (N + 1) X Y = 0) (r : Cur w ba oa bb ob (N + 1) X Y) (x y : Int) (h : Y N < y) :
    Calls Try.prog 9 #[cw ba oa c bb ob e (N + 1), I x, I y] w fun e' w' => e' = .returned (.bool true) ∧ Ext w w' := by
  have HL := Lib.hid (fun w' => large_ok (ba := ba) (oa := oa) (c := c) (bb := bb) (ob := ob) (e := e) hz w')
  have HR := Lib.hid (fun w' (he : Ext w w') => rcheck_ok (c := c) (e := e) hz r w' he)
  have k := (crv_of hz).2
  have hN1 := k.two
  have hN2 := k.le
  have hba := r.la
  have hbb := r.lb
  have ha2 : ba < w.heap.size + 1 := by omega
  have hb2 : bb < w.heap.size + 1 := by omega
  have ha3 : ba ≠ w.heap.size := by omega
  have hb3 : bb ≠ w.heap.size := by omega
  have e1 : IntKind.i64.wrap (((N + 1 : Nat) : Int) - 1) = (N : Int) := by rw [show ((N + 1 : Nat) : Int) - 1 = (N : Int) by omega]; exact IntWalk.i64_in _ (by omega)
  have hq1 : (N : Int) < (N : Int) + 1 := by omega
  have hq2 : (0 : Int) < (N : Int) + 1 := by omega
  have x0 := r.ca 0 (by omega)
  rw [Nat.add_zero] at x0
  have xn := r.ca N (by omega)
  have yn := r.cb N (by omega)
  have o3 := k.ltX N 0 (by omega) (by omega)
  obtain ⟨b1, b2⟩ := k.bX 0 (by omega)
  obtain ⟨b3, b4⟩ := k.bX N (by omega)
  obtain ⟨v, hv⟩ := inv_ex k (y := Y N) (by rw [Nat.add_sub_cancel]; omega)
  have HI := Lib.hid (fun w' (he : Ext w w') => inverse_is (c := c) (e := e) hz (r.ext he) (by rw [Nat.add_sub_cancel]; omega) hv)
  have HX := Lib.hid (fun w' => clip_any x (X 0) (X N) w' o3)
  obtain ⟨q1, q2⟩ := clp_bd x (X 0) (X N) (by omega)
  obtain ⟨p, hp⟩ : ∃ p, clp x (X 0) (X N) = p := ⟨_, rfl⟩
  rw [hp] at HX q1 q2
  have HA := Lib.hid (fun w' (he : Ext w w') => at_ok (c := c) (e := e) hz (r.ext he) p (by omega))
  have g := inv_galois k hv q1
  have v1 := hv.lo
  have v2 := hv.hi
  rw [Nat.add_sub_cancel] at v2
  obtain ⟨a, ha⟩ : ∃ a, atv (N + 1) X Y p = a := ⟨_, rfl⟩
  rw [ha] at HA g
  have d1 : decide (v ≤ p) = decide (Y N ≤ a) := decide_eq_decide.2 g.symm
  have D1 := Lib.hid d1
  clear hz r k hv g hp ha d1
  go_enter Try.func9, Try.ntmps9
  go_wp2_with (first
    | (go_at_call 14; refine (awake_any _).mono ?_; rintro e w1 ⟨rfl, hb1⟩; (first | replace hb := Ext.trans hb hb1 | replace hb := Ext.trans (Ext.trans hb (Ext.drewN _ _)) hb1 | replace hb := Ext.trans (Ext.trans hb (Ext.alloc _ _)) hb1 | have hb := hb1); clear hb1; obtain ⟨hc1, hf1⟩ := hb.old)
    | (go_at_call 15; (with_reducible refine (HL.out _).mono ?_); rintro e1 w1 ⟨rfl, hb1⟩; replace hb := Ext.trans hb hb1; clear hb1; obtain ⟨hc1, hf1⟩ := hb.old)
    | (go_at_call 18; (with_reducible refine (HR.out _ ((Ext.alloc _ _).trans hb)).mono ?_); rintro e1 w1 ⟨rfl, hb1⟩; replace hb := Ext.trans hb hb1; clear hb1; obtain ⟨hc1, hf1⟩ := hb.old))
  have hL := fun (x : Later _) => (Ext.trans hb x.ext).old.1
  refine wp_region_later (by kernel_rfl) (by kernel_rfl) ?_
  repeat (go_big_quiet_step (((go_at_call 26; exact Calls.later (HX.out _)))))
  refine wpQuiet_nil ?_
  intro w2 hw2
  replace hb := Ext.trans hb (Later.of hw2)
  clear hw2 hL
  obtain ⟨hc, hf⟩ := hb.old
  go_wp2_with (first
    | (go_at_call 19; (with_reducible refine (HA.out _ ((Ext.alloc _ _).trans hb)).mono ?_); rintro e1 w1 ⟨rfl, hb1⟩; replace hb := Ext.trans hb hb1; clear hb1; obtain ⟨hc1, hf1⟩ := hb.old)
    | (go_at_call 21; (with_reducible refine (HI.out _ ((Ext.alloc _ _).trans hb)).mono ?_); rintro e1 w1 ⟨rfl, hb1⟩; replace hb := Ext.trans hb hb1; clear hb1; obtain ⟨hc1, hf1⟩ := hb.old))
  go_ret
  refine ⟨?_, (by repeat (first | exact Ext.refl _ | assumption | exact Ext.alloc _ _ | refine Ext.trans ?_ (by assumption) | refine Ext.trans ?_ (Ext.alloc _ _) | refine Ext.trans ?_ (Ext.drewN _ _) | refine Ext.trans ?_ (Ext.drew _)))⟩
  first | rfl | (simp [D1.out]; done) | (rw [D1.out]; simp)

theorem galois_yes {w : World} {ba oa c bb ob e n : Nat} {X Y : Nat → Int} (hz : chk n n X Y = 0) (r : Cur w ba oa bb ob n X Y) (x y : Int) :
    Calls Try.prog 9 #[cw ba oa c bb ob e n, I x, I y] w fun e' w' => e' = .returned (.bool true) ∧ Ext w w' := by
  obtain ⟨N, rfl⟩ : ∃ N, n = N + 1 := ⟨n - 1, by have := (crv_of hz).2.two; omega⟩
  by_cases h : y ≤ Y N
  · exact galois_lt hz r x y h
  · exact galois_ge hz r x y (by omega)

theorem galois_top {w : World} {A B : Option Addr} {n c m e : Nat} {X Y : Nat → Int} {x y : Int} (hn : n ≤ maxLen) (hm : m ≤ maxLen) (ra : Ri w A n X) (rb : Ri w B m Y) (_hx : -9223372036854775808 ≤ x ∧ x ≤ 9223372036854775807) (_hy : -9223372036854775808 ≤ y ∧ y ≤ 9223372036854775807) :
    Calls Try.prog 9 #[cv A n c B m e, I x, I y] w fun e' w' => e' = .returned (.bool true) ∧ Ext w w' := by
  by_cases h : 100 < n ∨ 100 < m
  · exact galois_long A B n c m e x y h hn hm
  · by_cases hz : chk n m X Y = 0
    · obtain ⟨rfl, ba, oa, bb, ob, rfl, rfl, r⟩ := cur_of' hz ra rb
      exact galois_yes hz r x y
    · exact galois_no rfl hz ra rb (by omega) (by omega) x y
end Go.Proofs.Ytdcollchhcjaaaa
