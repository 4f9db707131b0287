/- The laws CurveBelow, CurveOrders: they return true. -/
import Derived.Test.YtdcollchhcjaaaaCrvu
namespace Go.Proofs.Ytdcollchhcjaaaa
open Go.RowKit

theorem below_t {w : World} {ba oa c bb ob e n bc oc d bd od f m : Nat} {X Y U V : Nat → Int} (hz : chk n n X Y = 0) (hy : chk m m U V = 0) (r : Cur w ba oa bb ob n X Y) (q : Cur w bc oc bd od m U V) (h : blw n X Y m U V) :
    Calls Try.prog 30 #[cw ba oa c bb ob e n, cw bc oc d bd od f m] w fun e' w' => e' = .returned (.tuple #[.bool true, .nilIface]) ∧ Ext w w' :=
  (below_ok hz hy r q).mono fun _ _ ⟨v, h1, h2, h3⟩ => ⟨by rw [h1, h2.out.2 h], h3⟩
theorem below_f {w : World} {ba oa c bb ob e n bc oc d bd od f m : Nat} {X Y U V : Nat → Int} (hz : chk n n X Y = 0) (hy : chk m m U V = 0) (r : Cur w ba oa bb ob n X Y) (q : Cur w bc oc bd od m U V) (h : ¬ blw n X Y m U V) :
    Calls Try.prog 30 #[cw ba oa c bb ob e n, cw bc oc d bd od f m] w fun e' w' => e' = .returned (.tuple #[.bool false, .nilIface]) ∧ Ext w w' :=
  (below_ok hz hy r q).mono fun _ _ ⟨v, h1, h2, h3⟩ => ⟨by cases v with | false => exact h1 | true => exact (h (h2.out.1 rfl)).elim, h3⟩
theorem rbelow_t {w : World} {ba oa c bb ob e n bc oc d bd od f m : Nat} {X Y U V : Nat → Int} (k : Crv n X Y) (l : Crv m U V) (r : Cur w ba oa bb ob n X Y) (q : Cur w bc oc bd od m U V) (h : blw n X Y m U V) :
    Calls Try.prog 31 #[cw ba oa c bb ob e n, cw bc oc d bd od f m] w fun e' w' => e' = .returned (.bool true) ∧ Ext w w' :=
  (rbelow_any k l r q).mono fun _ _ ⟨v, h1, h2, h3⟩ => ⟨by rw [h1, h2.out.2 h], h3⟩
theorem rbelow_f {w : World} {ba oa c bb ob e n bc oc d bd od f m : Nat} {X Y U V : Nat → Int} (k : Crv n X Y) (l : Crv m U V) (r : Cur w ba oa bb ob n X Y) (q : Cur w bc oc bd od m U V) (h : ¬ blw n X Y m U V) :
    Calls Try.prog 31 #[cw ba oa c bb ob e n, cw bc oc d bd od f m] w fun e' w' => e' = .returned (.bool false) ∧ Ext w w' :=
  (rbelow_any k l r q).mono fun _ _ ⟨v, h1, h2, h3⟩ => ⟨by cases v with | false => exact h1 | true => exact (h (h2.out.1 rfl)).elim, h3⟩

set_option maxRecDepth 100000 in
set_option maxHeartbeats 1000000 in
theorem below_long1 {w : World} (A B A2 B2 : Option Addr) (n c m e n2 d m2 f : Nat) (h : 100 < n ∨ 100 < m) (hn : n ≤ maxLen) (hm : m ≤ maxLen) :
    Calls Try.prog 11 #[cv A n c B m e, cv A2 n2 d B2 m2 f] w fun e' w' => e' = .returned (.bool true) ∧ Ext w w' := by
  have HL := Lib.hid (fun w' => large_t A B n c m e w' h hn hm)
  clear h
  go_enter Try.func11, Try.ntmps11
  go_wp2_with (first
    | (go_at_call 14; refine (awake_any _).mono ?_; rintro e w1 ⟨rfl, hb1⟩; (first | replace hb := Ext.trans hb hb1 | replace hb := Ext.trans (Ext.trans hb (Ext.drewN _ _)) hb1 | replace hb := Ext.trans (Ext.trans hb (Ext.alloc _ _)) hb1 | have hb := hb1); clear hb1; obtain ⟨hc1, hf1⟩ := hb.old)
    | (go_at_call 15; (with_reducible refine (HL.out _).mono ?_); rintro e1 w1 ⟨rfl, hb1⟩; replace hb := Ext.trans hb hb1; clear hb1; obtain ⟨hc1, hf1⟩ := hb.old))
  go_ret
  exact ⟨rfl, (by repeat (first | exact Ext.refl _ | assumption | exact Ext.alloc _ _ | refine Ext.trans ?_ (by assumption) | refine Ext.trans ?_ (Ext.alloc _ _) | refine Ext.trans ?_ (Ext.drewN _ _) | refine Ext.trans ?_ (Ext.drew _)))⟩

set_option maxRecDepth 100000 in
set_option maxHeartbeats 1000000 in
theorem below_long2 {w : World} (A B A2 B2 : Option Addr) (n c m e n2 d m2 f : Nat) (g1 : n ≤ 100) (g2 : m ≤ 100) (h : 100 < n2 ∨ 100 < m2) (hn : n2 ≤ maxLen) (hm : m2 ≤ maxLen) :
    Calls Try.prog 11 #[cv A n c B m e, cv A2 n2 d B2 m2 f] w fun e' w' => e' = .returned (.bool true) ∧ Ext w w' := by
  have HL := Lib.hid (fun w' => large_f A B n c m e w' g1 g2)
  have HL2 := Lib.hid (fun w' => large_t A2 B2 n2 d m2 f w' h hn hm)
  clear h
  go_enter Try.func11, Try.ntmps11
  go_wp2_with (first
    | (go_at_call 14; refine (awake_any _).mono ?_; rintro e w1 ⟨rfl, hb1⟩; (first | replace hb := Ext.trans hb hb1 | replace hb := Ext.trans (Ext.trans hb (Ext.drewN _ _)) hb1 | replace hb := Ext.trans (Ext.trans hb (Ext.alloc _ _)) hb1 | have hb := hb1); clear hb1; obtain ⟨hc1, hf1⟩ := hb.old)
    | (go_at_call 15; (with_reducible refine (HL.out _).mono ?_); rintro e1 w1 ⟨rfl, hb1⟩; replace hb := Ext.trans hb hb1; clear hb1; obtain ⟨hc1, hf1⟩ := hb.old)
    | (go_at_call 15; (with_reducible refine (HL2.out _).mono ?_); rintro e1 w1 ⟨rfl, hb1⟩; replace hb := Ext.trans hb hb1; clear hb1; obtain ⟨hc1, hf1⟩ := hb.old))
  go_ret
  exact ⟨rfl, (by repeat (first | exact Ext.refl _ | assumption | exact Ext.alloc _ _ | refine Ext.trans ?_ (by assumption) | refine Ext.trans ?_ (Ext.alloc _ _) | refine Ext.trans ?_ (Ext.drewN _ _) | refine Ext.trans ?_ (Ext.drew _)))⟩

set_option maxRecDepth 100000 in
set_option maxHeartbeats 1000000 in
theorem below_no1 {w : World} {A B A2 B2 : Option Addr} {n c m e n2 d m2 f : Nat} {X Y : Nat → Int} {k : Int} (hz : chk n m X Y = k) (hk : k ≠ 0) (ra : Ri w A n X) (rb : Ri w B m Y) (hn : n ≤ 100) (hm : m ≤ 100) (hn2 : n2 ≤ 100) (hm2 : m2 ≤ 100) :
    Calls Try.prog 11 #[cv A n c B m e, cv A2 n2 d B2 m2 f] w fun e' w' => e' = .returned (.bool true) ∧ Ext w w' := by
  have hn' : n ≤ maxLen := by unfold maxLen; omega
  have hm' : m ≤ maxLen := by unfold maxLen; omega
  have HL := Lib.hid (fun w' => large_f A B n c m e w' hn hm)
  have HL2 := Lib.hid (fun w' => large_f A2 B2 n2 d m2 f w' hn2 hm2)
  have HB := Lib.hid (fun w' (he : Ext w w') => below_bad (A2 := A2) (B2 := B2) (c := c) (e := e) (n2 := n2) (d := d) (m2 := m2) (f := f) hz hk (ra.ext he) (rb.ext he) hn' hm')
  have HR := Lib.hid (fun w' (he : Ext w w') => rcheck_any (c := c) (e := e) (ra.ext he) (rb.ext he) hn' hm')
  rw [hz] at HR
  have hk2 : decide (k = 0) = false := by simpa using hk
  clear hn' hm' hn hm hn2 hm2 ra rb hz
  go_enter Try.func11, Try.ntmps11
  go_wp2_with (first
    | (go_at_call 14; refine (awake_any _).mono ?_; rintro e w1 ⟨rfl, hb1⟩; (first | replace hb := Ext.trans hb hb1 | replace hb := Ext.trans (Ext.trans hb (Ext.drewN _ _)) hb1 | replace hb := Ext.trans (Ext.trans hb (Ext.alloc _ _)) hb1 | have hb := hb1); clear hb1; obtain ⟨hc1, hf1⟩ := hb.old)
    | (go_at_call 15; (with_reducible refine (HL.out _).mono ?_); rintro e1 w1 ⟨rfl, hb1⟩; replace hb := Ext.trans hb hb1; clear hb1; obtain ⟨hc1, hf1⟩ := hb.old)
    | (go_at_call 15; (with_reducible refine (HL2.out _).mono ?_); rintro e1 w1 ⟨rfl, hb1⟩; replace hb := Ext.trans hb hb1; clear hb1; obtain ⟨hc1, hf1⟩ := hb.old)
    | (go_at_call 30; (with_reducible refine (HB.out _ (((Ext.alloc _ _).trans (Ext.alloc _ _)).trans hb)).mono ?_); rintro e1 w1 ⟨rfl, hb1⟩; replace hb := Ext.trans hb hb1; clear hb1; obtain ⟨hc1, hf1⟩ := hb.old)
    | (go_at_call 18; (with_reducible refine (HR.out _ (((Ext.alloc _ _).trans (Ext.alloc _ _)).trans hb)).mono ?_); rintro e1 w1 ⟨rfl, hb1⟩; replace hb := Ext.trans hb hb1; clear hb1; obtain ⟨hc1, hf1⟩ := hb.old)
    | (go_at_call 16; (with_reducible refine (num_err _ _).mono ?_); rintro e1 w1 ⟨rfl, hb1⟩; replace hb := Ext.trans hb hb1; clear hb1; obtain ⟨hc1, hf1⟩ := hb.old))
  go_ret
  exact ⟨rfl, (by repeat (first | exact Ext.refl _ | assumption | exact Ext.alloc _ _ | refine Ext.trans ?_ (by assumption) | refine Ext.trans ?_ (Ext.alloc _ _) | refine Ext.trans ?_ (Ext.drewN _ _) | refine Ext.trans ?_ (Ext.drew _)))⟩

set_option maxRecDepth 100000 in
set_option maxHeartbeats 1000000 in
theorem below_no2 {w : World} {ba oa c bb ob e n : Nat} {A2 B2 : Option Addr} {n2 d m2 f : Nat} {X Y U V : Nat → Int} {k : Int} (hz : chk n n X Y = 0) (r : Cur w ba oa bb ob n X Y) (hy : chk n2 m2 U V = k) (hk : k ≠ 0) (ra : Ri w A2 n2 U) (rb : Ri w B2 m2 V) (hn2 : n2 ≤ 100) (hm2 : m2 ≤ 100) :
    Calls Try.prog 11 #[cw ba oa c bb ob e n, cv A2 n2 d B2 m2 f] w fun e' w' => e' = .returned (.bool true) ∧ Ext w w' := by
  have hn2' : n2 ≤ maxLen := by unfold maxLen; omega
  have hm2' : m2 ≤ maxLen := by unfold maxLen; omega
  have HL := Lib.hid (fun w' => large_ok (ba := ba) (oa := oa) (c := c) (bb := bb) (ob := ob) (e := e) hz w')
  have HL2 := Lib.hid (fun w' => large_f A2 B2 n2 d m2 f w' hn2 hm2)
  have HB := Lib.hid (fun w' (he : Ext w w') => below_bad2 (c := c) (e := e) (d := d) (f := f) hz (r.ext he) hy hk (ra.ext he) (rb.ext he) hn2' hm2')
  have HR := Lib.hid (fun w' (he : Ext w w') => rcheck_ok (c := c) (e := e) hz r w' he)
  have HR2 := Lib.hid (fun w' (he : Ext w w') => rcheck_any (c := d) (e := f) (ra.ext he) (rb.ext he) hn2' hm2')
  rw [hy] at HR2
  have hk2 : decide (k = 0) = false := by simpa using hk
  clear hn2' hm2' hn2 hm2 ra rb hz hy r
  go_enter Try.func11, Try.ntmps11
  go_wp2_with (first
    | (go_at_call 14; refine (awake_any _).mono ?_; rintro e w1 ⟨rfl, hb1⟩; (first | replace hb := Ext.trans hb hb1 | replace hb := Ext.trans (Ext.trans hb (Ext.drewN _ _)) hb1 | replace hb := Ext.trans (Ext.trans hb (Ext.alloc _ _)) hb1 | have hb := hb1); clear hb1; obtain ⟨hc1, hf1⟩ := hb.old)
    | (go_at_call 15; (with_reducible refine (HL.out _).mono ?_); rintro e1 w1 ⟨rfl, hb1⟩; replace hb := Ext.trans hb hb1; clear hb1; obtain ⟨hc1, hf1⟩ := hb.old)
    | (go_at_call 15; (with_reducible refine (HL2.out _).mono ?_); rintro e1 w1 ⟨rfl, hb1⟩; replace hb := Ext.trans hb hb1; clear hb1; obtain ⟨hc1, hf1⟩ := hb.old)
    | (go_at_call 30; (with_reducible refine (HB.out _ (((Ext.alloc _ _).trans (Ext.alloc _ _)).trans hb)).mono ?_); rintro e1 w1 ⟨rfl, hb1⟩; replace hb := Ext.trans hb hb1; clear hb1; obtain ⟨hc1, hf1⟩ := hb.old)
    | (go_at_call 18; (with_reducible refine (HR.out _ (((Ext.alloc _ _).trans (Ext.alloc _ _)).trans hb)).mono ?_); rintro e1 w1 ⟨rfl, hb1⟩; replace hb := Ext.trans hb hb1; clear hb1; obtain ⟨hc1, hf1⟩ := hb.old)
    | (go_at_call 18; (with_reducible refine (HR2.out _ (((Ext.alloc _ _).trans (Ext.alloc _ _)).trans hb)).mono ?_); rintro e1 w1 ⟨rfl, hb1⟩; replace hb := Ext.trans hb hb1; clear hb1; obtain ⟨hc1, hf1⟩ := hb.old)
    | (go_at_call 16; (with_reducible refine (num_err _ _).mono ?_); rintro e1 w1 ⟨rfl, hb1⟩; replace hb := Ext.trans hb hb1; clear hb1; obtain ⟨hc1, hf1⟩ := hb.old))
  go_ret
  exact ⟨rfl, (by repeat (first | exact Ext.refl _ | assumption | exact Ext.alloc _ _ | refine Ext.trans ?_ (by assumption) | refine Ext.trans ?_ (Ext.alloc _ _) | refine Ext.trans ?_ (Ext.drewN _ _) | refine Ext.trans ?_ (Ext.drew _)))⟩

set_option maxRecDepth 100000 in
set_option maxHeartbeats 1000000 in
theorem below_yes_t {w : World} {ba oa c bb ob e n bc oc d bd od f m : Nat} {X Y U V : Nat → Int} (hz : chk n n X Y = 0) (hy : chk m m U V = 0) (r : Cur w ba oa bb ob n X Y) (q : Cur w bc oc bd od m U V) (h : blw n X Y m U V) :
    Calls Try.prog 11 #[cw ba oa c bb ob e n, cw bc oc d bd od f m] w fun e' w' => e' = .returned (.bool true) ∧ Ext w w' := by
  have HL := Lib.hid (fun w' => large_ok (ba := ba) (oa := oa) (c := c) (bb := bb) (ob := ob) (e := e) hz w')
  have HL2 := Lib.hid (fun w' => large_ok (ba := bc) (oa := oc) (c := d) (bb := bd) (ob := od) (e := f) hy w')
  have HB := Lib.hid (fun w' (he : Ext w w') => below_t (c := c) (e := e) (d := d) (f := f) hz hy (r.ext he) (q.ext he) h)
  have HR := Lib.hid (fun w' (he : Ext w w') => rcheck_ok (c := c) (e := e) hz r w' he)
  have HR2 := Lib.hid (fun w' (he : Ext w w') => rcheck_ok (c := d) (e := f) hy q w' he)
  have HD := Lib.hid (fun w' (he : Ext w w') => rbelow_t (c := c) (e := e) (d := d) (f := f) (crv_of hz).2 (crv_of hy).2 (r.ext he) (q.ext he) h)
  clear hz hy r q h
  go_enter Try.func11, Try.ntmps11
  go_wp2_with (first
    | (go_at_call 14; refine (awake_any _).mono ?_; rintro e w1 ⟨rfl, hb1⟩; (first | replace hb := Ext.trans hb hb1 | replace hb := Ext.trans (Ext.trans hb (Ext.drewN _ _)) hb1 | replace hb := Ext.trans (Ext.trans hb (Ext.alloc _ _)) hb1 | have hb := hb1); clear hb1; obtain ⟨hc1, hf1⟩ := hb.old)
    | (go_at_call 15; (with_reducible refine (HL.out _).mono ?_); rintro e1 w1 ⟨rfl, hb1⟩; replace hb := Ext.trans hb hb1; clear hb1; obtain ⟨hc1, hf1⟩ := hb.old)
    | (go_at_call 15; (with_reducible refine (HL2.out _).mono ?_); rintro e1 w1 ⟨rfl, hb1⟩; replace hb := Ext.trans hb hb1; clear hb1; obtain ⟨hc1, hf1⟩ := hb.old)
    | (go_at_call 30; (with_reducible refine (HB.out _ (((Ext.alloc _ _).trans (Ext.alloc _ _)).trans hb)).mono ?_); rintro e1 w1 ⟨rfl, hb1⟩; replace hb := Ext.trans hb hb1; clear hb1; obtain ⟨hc1, hf1⟩ := hb.old)
    | (go_at_call 18; (with_reducible refine (HR.out _ (((Ext.alloc _ _).trans (Ext.alloc _ _)).trans hb)).mono ?_); rintro e1 w1 ⟨rfl, hb1⟩; replace hb := Ext.trans hb hb1; clear hb1; obtain ⟨hc1, hf1⟩ := hb.old)
    | (go_at_call 18; (with_reducible refine (HR2.out _ (((Ext.alloc _ _).trans (Ext.alloc _ _)).trans hb)).mono ?_); rintro e1 w1 ⟨rfl, hb1⟩; replace hb := Ext.trans hb hb1; clear hb1; obtain ⟨hc1, hf1⟩ := hb.old)
    | (go_at_call 31; (with_reducible refine (HD.out _ (((Ext.alloc _ _).trans (Ext.alloc _ _)).trans hb)).mono ?_); rintro e1 w1 ⟨rfl, hb1⟩; replace hb := Ext.trans hb hb1; clear hb1; obtain ⟨hc1, hf1⟩ := hb.old))
  go_ret
  exact ⟨rfl, (by repeat (first | exact Ext.refl _ | assumption | exact Ext.alloc _ _ | refine Ext.trans ?_ (by assumption) | refine Ext.trans ?_ (Ext.alloc _ _) | refine Ext.trans ?_ (Ext.drewN _ _) | refine Ext.trans ?_ (Ext.drew _)))⟩

set_option maxRecDepth 100000 in
set_option maxHeartbeats 1000000 in
theorem below_yes_f {w : World} {ba oa c bb ob e n bc oc d bd od f m : Nat} {X Y U V : Nat → Int} (hz : chk n n X Y = 0) (hy : chk m m U V = 0) (r : Cur w ba oa bb ob n X Y) (q : Cur w bc oc bd od m U V) (h : ¬ blw n X Y m U V) :
    Calls Try.prog 11 #[cw ba oa c bb ob e n, cw bc oc d bd od f m] w fun e' w' => e' = .returned (.bool true) ∧ Ext w w' := by
  have HL := Lib.hid (fun w' => large_ok (ba := ba) (oa := oa) (c := c) (bb := bb) (ob := ob) (e := e) hz w')
  have HL2 := Lib.hid (fun w' => large_ok (ba := bc) (oa := oc) (c := d) (bb := bd) (ob := od) (e := f) hy w')
  have HB := Lib.hid (fun w' (he : Ext w w') => below_f (c := c) (e := e) (d := d) (f := f) hz hy (r.ext he) (q.ext he) h)
  have HR := Lib.hid (fun w' (he : Ext w w') => rcheck_ok (c := c) (e := e) hz r w' he)
  have HR2 := Lib.hid (fun w' (he : Ext w w') => rcheck_ok (c := d) (e := f) hy q w' he)
  have HD := Lib.hid (fun w' (he : Ext w w') => rbelow_f (c := c) (e := e) (d := d) (f := f) (crv_of hz).2 (crv_of hy).2 (r.ext he) (q.ext he) h)
  clear hz hy r q h
  go_enter Try.func11, Try.ntmps11
  go_wp2_with (first
    | (go_at_call 14; refine (awake_any _).mono ?_; rintro e w1 ⟨rfl, hb1⟩; (first | replace hb := Ext.trans hb hb1 | replace hb := Ext.trans (Ext.trans hb (Ext.drewN _ _)) hb1 | replace hb := Ext.trans (Ext.trans hb (Ext.alloc _ _)) hb1 | have hb := hb1); clear hb1; obtain ⟨hc1, hf1⟩ := hb.old)
    | (go_at_call 15; (with_reducible refine (HL.out _).mono ?_); rintro e1 w1 ⟨rfl, hb1⟩; replace hb := Ext.trans hb hb1; clear hb1; obtain ⟨hc1, hf1⟩ := hb.old)
    | (go_at_call 15; (with_reducible refine (HL2.out _).mono ?_); rintro e1 w1 ⟨rfl, hb1⟩; replace hb := Ext.trans hb hb1; clear hb1; obtain ⟨hc1, hf1⟩ := hb.old)
    | (go_at_call 30; (with_reducible refine (HB.out _ (((Ext.alloc _ _).trans (Ext.alloc _ _)).trans hb)).mono ?_); rintro e1 w1 ⟨rfl, hb1⟩; replace hb := Ext.trans hb hb1; clear hb1; obtain ⟨hc1, hf1⟩ := hb.old)
    | (go_at_call 18; (with_reducible refine (HR.out _ (((Ext.alloc _ _).trans (Ext.alloc _ _)).trans hb)).mono ?_); rintro e1 w1 ⟨rfl, hb1⟩; replace hb := Ext.trans hb hb1; clear hb1; obtain ⟨hc1, hf1⟩ := hb.old)
    | (go_at_call 18; (with_reducible refine (HR2.out _ (((Ext.alloc _ _).trans (Ext.alloc _ _)).trans hb)).mono ?_); rintro e1 w1 ⟨rfl, hb1⟩; replace hb := Ext.trans hb hb1; clear hb1; obtain ⟨hc1, hf1⟩ := hb.old)
    | (go_at_call 31; (with_reducible refine (HD.out _ (((Ext.alloc _ _).trans (Ext.alloc _ _)).trans hb)).mono ?_); rintro e1 w1 ⟨rfl, hb1⟩; replace hb := Ext.trans hb hb1; clear hb1; obtain ⟨hc1, hf1⟩ := hb.old))
  go_ret
  exact ⟨rfl, (by repeat (first | exact Ext.refl _ | assumption | exact Ext.alloc _ _ | refine Ext.trans ?_ (by assumption) | refine Ext.trans ?_ (Ext.alloc _ _) | refine Ext.trans ?_ (Ext.drewN _ _) | refine Ext.trans ?_ (Ext.drew _)))⟩

set_option maxRecDepth 100000 in
set_option maxHeartbeats 1000000 in
theorem orders_long1 {w : World} (A B A2 B2 : Option Addr) (n c m e n2 d m2 f : Nat) (x : Int) (h : 100 < n ∨ 100 < m) (hn : n ≤ maxLen) (hm : m ≤ maxLen) :
    Calls Try.prog 12 #[cv A n c B m e, cv A2 n2 d B2 m2 f, I x] w fun e' w' => e' = .returned (.bool true) ∧ Ext w w' := by
  have HL := Lib.hid (fun w' => large_t A B n c m e w' h hn hm)
  clear h
  go_enter Try.func12, Try.ntmps12
  go_wp2_with (first
    | (go_at_call 14; refine (awake_any _).mono ?_; rintro e w1 ⟨rfl, hb1⟩; (first | replace hb := Ext.trans hb hb1 | replace hb := Ext.trans (Ext.trans hb (Ext.drewN _ _)) hb1 | replace hb := Ext.trans (Ext.trans hb (Ext.alloc _ _)) hb1 | have hb := hb1); clear hb1; obtain ⟨hc1, hf1⟩ := hb.old)
    | (go_at_call 15; (with_reducible refine (HL.out _).mono ?_); rintro e1 w1 ⟨rfl, hb1⟩; replace hb := Ext.trans hb hb1; clear hb1; obtain ⟨hc1, hf1⟩ := hb.old))
  go_ret
  exact ⟨rfl, (by repeat (first | exact Ext.refl _ | assumption | exact Ext.alloc _ _ | refine Ext.trans ?_ (by assumption) | refine Ext.trans ?_ (Ext.alloc _ _) | refine Ext.trans ?_ (Ext.drewN _ _) | refine Ext.trans ?_ (Ext.drew _)))⟩

set_option maxRecDepth 100000 in
set_option maxHeartbeats 1000000 in
theorem orders_long2 {w : World} (A B A2 B2 : Option Addr) (n c m e n2 d m2 f : Nat) (x : Int) (g1 : n ≤ 100) (g2 : m ≤ 100) (h : 100 < n2 ∨ 100 < m2) (hn : n2 ≤ maxLen) (hm : m2 ≤ maxLen) :
    Calls Try.prog 12 #[cv A n c B m e, cv A2 n2 d B2 m2 f, I x] w fun e' w' => e' = .returned (.bool true) ∧ Ext w w' := by
  have HL := Lib.hid (fun w' => large_f A B n c m e w' g1 g2)
  have HL2 := Lib.hid (fun w' => large_t A2 B2 n2 d m2 f w' h hn hm)
  clear h
  go_enter Try.func12, Try.ntmps12
  go_wp2_with (first
    | (go_at_call 14; refine (awake_any _).mono ?_; rintro e w1 ⟨rfl, hb1⟩; (first | replace hb := Ext.trans hb hb1 | replace hb := Ext.trans (Ext.trans hb (Ext.drewN _ _)) hb1 | replace hb := Ext.trans (Ext.trans hb (Ext.alloc _ _)) hb1 | have hb := hb1); clear hb1; obtain ⟨hc1, hf1⟩ := hb.old)
    | (go_at_call 15; (with_reducible refine (HL.out _).mono ?_); rintro e1 w1 ⟨rfl, hb1⟩; replace hb := Ext.trans hb hb1; clear hb1; obtain ⟨hc1, hf1⟩ := hb.old)
    | (go_at_call 15; (with_reducible refine (HL2.out _).mono ?_); rintro e1 w1 ⟨rfl, hb1⟩; replace hb := Ext.trans hb hb1; clear hb1; obtain ⟨hc1, hf1⟩ := hb.old))
  go_ret
  exact ⟨rfl, (by repeat (first | exact Ext.refl _ | assumption | exact Ext.alloc _ _ | refine Ext.trans ?_ (by assumption) | refine Ext.trans ?_ (Ext.alloc _ _) | refine Ext.trans ?_ (Ext.drewN _ _) | refine Ext.trans ?_ (Ext.drew _)))⟩

set_option maxRecDepth 100000 in
set_option maxHeartbeats 1000000 in
theorem orders_no1 {w : World} {A B A2 B2 : Option Addr} {n c m e n2 d m2 f : Nat} {X Y : Nat → Int} {k : Int} (hz : chk n m X Y = k) (hk : k ≠ 0) (ra : Ri w A n X) (rb : Ri w B m Y) (hn : n ≤ 100) (hm : m ≤ 100) (hn2 : n2 ≤ 100) (hm2 : m2 ≤ 100) (x : Int) :
    Calls Try.prog 12 #[cv A n c B m e, cv A2 n2 d B2 m2 f, I x] w fun e' w' => e' = .returned (.bool true) ∧ Ext w w' := by
  have hn' : n ≤ maxLen := by unfold maxLen; omega
  have hm' : m ≤ maxLen := by unfold maxLen; omega
  have HL := Lib.hid (fun w' => large_f A B n c m e w' hn hm)
  have HL2 := Lib.hid (fun w' => large_f A2 B2 n2 d m2 f w' hn2 hm2)
  have HB := Lib.hid (fun w' (he : Ext w w') => below_bad (A2 := A2) (B2 := B2) (c := c) (e := e) (n2 := n2) (d := d) (m2 := m2) (f := f) hz hk (ra.ext he) (rb.ext he) hn' hm')
  have hk2 : decide (k = 0) = false := by simpa using hk
  clear hn' hm' hn hm hn2 hm2 ra rb hz
  go_enter Try.func12, Try.ntmps12
  go_wp2_with (first
    | (go_at_call 14; refine (awake_any _).mono ?_; rintro e w1 ⟨rfl, hb1⟩; (first | replace hb := Ext.trans hb hb1 | replace hb := Ext.trans (Ext.trans hb (Ext.drewN _ _)) hb1 | replace hb := Ext.trans (Ext.trans hb (Ext.alloc _ _)) hb1 | have hb := hb1); clear hb1; obtain ⟨hc1, hf1⟩ := hb.old)
    | (go_at_call 15; (with_reducible refine (HL.out _).mono ?_); rintro e1 w1 ⟨rfl, hb1⟩; replace hb := Ext.trans hb hb1; clear hb1; obtain ⟨hc1, hf1⟩ := hb.old)
    | (go_at_call 15; (with_reducible refine (HL2.out _).mono ?_); rintro e1 w1 ⟨rfl, hb1⟩; replace hb := Ext.trans hb hb1; clear hb1; obtain ⟨hc1, hf1⟩ := hb.old)
    | (go_at_call 30; (with_reducible refine (HB.out _ (((Ext.alloc _ _).trans (Ext.alloc _ _)).trans hb)).mono ?_); rintro e1 w1 ⟨rfl, hb1⟩; replace hb := Ext.trans hb hb1; clear hb1; obtain ⟨hc1, hf1⟩ := hb.old))
  go_ret
  exact ⟨rfl, (by repeat (first | exact Ext.refl _ | assumption | exact Ext.alloc _ _ | refine Ext.trans ?_ (by assumption) | refine Ext.trans ?_ (Ext.alloc _ _) | refine Ext.trans ?_ (Ext.drewN _ _) | refine Ext.trans ?_ (Ext.drew _)))⟩

set_option maxRecDepth 100000 in
set_option maxHeartbeats 1000000 in
theorem orders_no2 {w : World} {ba oa c bb ob e n : Nat} {A2 B2 : Option Addr} {n2 d m2 f : Nat} {X Y U V : Nat → Int} {k : Int} (hz : chk n n X Y = 0) (r : Cur w ba oa bb ob n X Y) (hy : chk n2 m2 U V = k) (hk : k ≠ 0) (ra : Ri w A2 n2 U) (rb : Ri w B2 m2 V) (hn2 : n2 ≤ 100) (hm2 : m2 ≤ 100) (x : Int) :
    Calls Try.prog 12 #[cw ba oa c bb ob e n, cv A2 n2 d B2 m2 f, I x] w fun e' w' => e' = .returned (.bool true) ∧ Ext w w' := by
  have hn2' : n2 ≤ maxLen := by unfold maxLen; omega
  have hm2' : m2 ≤ maxLen := by unfold maxLen; omega
  have HL := Lib.hid (fun w' => large_ok (ba := ba) (oa := oa) (c := c) (bb := bb) (ob := ob) (e := e) hz w')
  have HL2 := Lib.hid (fun w' => large_f A2 B2 n2 d m2 f w' hn2 hm2)
  have HB := Lib.hid (fun w' (he : Ext w w') => below_bad2 (c := c) (e := e) (d := d) (f := f) hz (r.ext he) hy hk (ra.ext he) (rb.ext he) hn2' hm2')
  have hk2 : decide (k = 0) = false := by simpa using hk
  clear hn2' hm2' hn2 hm2 ra rb hz hy r
  go_enter Try.func12, Try.ntmps12
  go_wp2_with (first
    | (go_at_call 14; refine (awake_any _).mono ?_; rintro e w1 ⟨rfl, hb1⟩; (first | replace hb := Ext.trans hb hb1 | replace hb := Ext.trans (Ext.trans hb (Ext.drewN _ _)) hb1 | replace hb := Ext.trans (Ext.trans hb (Ext.alloc _ _)) hb1 | have hb := hb1); clear hb1; obtain ⟨hc1, hf1⟩ := hb.old)
    | (go_at_call 15; (with_reducible refine (HL.out _).mono ?_); rintro e1 w1 ⟨rfl, hb1⟩; replace hb := Ext.trans hb hb1; clear hb1; obtain ⟨hc1, hf1⟩ := hb.old)
    | (go_at_call 15; (with_reducible refine (HL2.out _).mono ?_); rintro e1 w1 ⟨rfl, hb1⟩; replace hb := Ext.trans hb hb1; clear hb1; obtain ⟨hc1, hf1⟩ := hb.old)
    | (go_at_call 30; (with_reducible refine (HB.out _ (((Ext.alloc _ _).trans (Ext.alloc _ _)).trans hb)).mono ?_); rintro e1 w1 ⟨rfl, hb1⟩; replace hb := Ext.trans hb hb1; clear hb1; obtain ⟨hc1, hf1⟩ := hb.old))
  go_ret
  exact ⟨rfl, (by repeat (first | exact Ext.refl _ | assumption | exact Ext.alloc _ _ | refine Ext.trans ?_ (by assumption) | refine Ext.trans ?_ (Ext.alloc _ _) | refine Ext.trans ?_ (Ext.drewN _ _) | refine Ext.trans ?_ (Ext.drew _)))⟩

set_option maxRecDepth 100000 in
set_option maxHeartbeats 1000000 in
theorem orders_yes_f {w : World} {ba oa c bb ob e n bc oc d bd od f m : Nat} {X Y U V : Nat → Int} (hz : chk n n X Y = 0) (hy : chk m m U V = 0) (r : Cur w ba oa bb ob n X Y) (q : Cur w bc oc bd od m U V) (h : ¬ blw n X Y m U V) (x : Int) :
    Calls Try.prog 12 #[cw ba oa c bb ob e n, cw bc oc d bd od f m, I x] w fun e' w' => e' = .returned (.bool true) ∧ Ext w w' := by
  have HL := Lib.hid (fun w' => large_ok (ba := ba) (oa := oa) (c := c) (bb := bb) (ob := ob) (e := e) hz w')
  have HL2 := Lib.hid (fun w' => large_ok (ba := bc) (oa := oc) (c := d) (bb := bd) (ob := od) (e := f) hy w')
  have HB := Lib.hid (fun w' (he : Ext w w') => below_f (c := c) (e := e) (d := d) (f := f) hz hy (r.ext he) (q.ext he) h)
  clear hz hy r q h
  go_enter Try.func12, Try.ntmps12
  go_wp2_with (first
    | (go_at_call 14; refine (awake_any _).mono ?_; rintro e w1 ⟨rfl, hb1⟩; (first | replace hb := Ext.trans hb hb1 | replace hb := Ext.trans (Ext.trans hb (Ext.drewN _ _)) hb1 | replace hb := Ext.trans (Ext.trans hb (Ext.alloc _ _)) hb1 | have hb := hb1); clear hb1; obtain ⟨hc1, hf1⟩ := hb.old)
    | (go_at_call 15; (with_reducible refine (HL.out _).mono ?_); rintro e1 w1 ⟨rfl, hb1⟩; replace hb := Ext.trans hb hb1; clear hb1; obtain ⟨hc1, hf1⟩ := hb.old)
    | (go_at_call 15; (with_reducible refine (HL2.out _).mono ?_); rintro e1 w1 ⟨rfl, hb1⟩; replace hb := Ext.trans hb hb1; clear hb1; obtain ⟨hc1, hf1⟩ := hb.old)
    | (go_at_call 30; (with_reducible refine (HB.out _ (((Ext.alloc _ _).trans (Ext.alloc _ _)).trans hb)).mono ?_); rintro e1 w1 ⟨rfl, hb1⟩; replace hb := Ext.trans hb hb1; clear hb1; obtain ⟨hc1, hf1⟩ := hb.old))
  go_ret
  exact ⟨rfl, (by repeat (first | exact Ext.refl _ | assumption | exact Ext.alloc _ _ | refine Ext.trans ?_ (by assumption) | refine Ext.trans ?_ (Ext.alloc _ _) | refine Ext.trans ?_ (Ext.drewN _ _) | refine Ext.trans ?_ (Ext.drew _)))⟩

set_option maxRecDepth 100000 in
set_option maxHeartbeats 1000000 in
theorem orders_yes_t {w : World} {ba oa c bb ob e n bc oc d bd od f m : Nat} {X Y U V : Nat → Int} (hz : chk n n X Y = 0) (hy : chk m m U V = 0) (r : Cur w ba oa bb ob n X Y) (q : Cur w bc oc bd od m U V) (h : blw n X Y m U V) (x : Int) (hx : -9223372036854775808 ≤ x ∧ x ≤ 9223372036854775807) :
    Calls Try.prog 12 #[cw ba oa c bb ob e n, cw bc oc d bd od f m, I x] w fun e' w' => e' = .returned (.bool true) ∧ Ext w w' := by
  have HL := Lib.hid (fun w' => large_ok (ba := ba) (oa := oa) (c := c) (bb := bb) (ob := ob) (e := e) hz w')
  have HL2 := Lib.hid (fun w' => large_ok (ba := bc) (oa := oc) (c := d) (bb := bd) (ob := od) (e := f) hy w')
  have HB := Lib.hid (fun w' (he : Ext w w') => below_t (c := c) (e := e) (d := d) (f := f) hz hy (r.ext he) (q.ext he) h)
  have HP := Lib.hid (fun w' (he : Ext w w') => at_ok (c := c) (e := e) hz (r.ext he) x hx)
  have HQ := Lib.hid (fun w' (he : Ext w w') => at_ok (c := d) (e := f) hy (q.ext he) x hx)
  have hle := blw_at (crv_of hz).2 (crv_of hy).2 h x
  obtain ⟨a, ha⟩ : ∃ a, atv n X Y x = a := ⟨_, rfl⟩
  obtain ⟨b, hb0⟩ : ∃ b, atv m U V x = b := ⟨_, rfl⟩
  rw [ha] at HP hle
  rw [hb0] at HQ hle
  clear ha hb0
  clear hz hy r q h
  go_enter Try.func12, Try.ntmps12
  go_wp2_with (first
    | (go_at_call 14; refine (awake_any _).mono ?_; rintro e w1 ⟨rfl, hb1⟩; (first | replace hb := Ext.trans hb hb1 | replace hb := Ext.trans (Ext.trans hb (Ext.drewN _ _)) hb1 | replace hb := Ext.trans (Ext.trans hb (Ext.alloc _ _)) hb1 | have hb := hb1); clear hb1; obtain ⟨hc1, hf1⟩ := hb.old)
    | (go_at_call 15; (with_reducible refine (HL.out _).mono ?_); rintro e1 w1 ⟨rfl, hb1⟩; replace hb := Ext.trans hb hb1; clear hb1; obtain ⟨hc1, hf1⟩ := hb.old)
    | (go_at_call 15; (with_reducible refine (HL2.out _).mono ?_); rintro e1 w1 ⟨rfl, hb1⟩; replace hb := Ext.trans hb hb1; clear hb1; obtain ⟨hc1, hf1⟩ := hb.old)
    | (go_at_call 30; (with_reducible refine (HB.out _ (((Ext.alloc _ _).trans (Ext.alloc _ _)).trans hb)).mono ?_); rintro e1 w1 ⟨rfl, hb1⟩; replace hb := Ext.trans hb hb1; clear hb1; obtain ⟨hc1, hf1⟩ := hb.old)
    | (go_at_call 19; (with_reducible refine (HP.out _ (((Ext.alloc _ _).trans (Ext.alloc _ _)).trans hb)).mono ?_); rintro e1 w1 ⟨rfl, hb1⟩; replace hb := Ext.trans hb hb1; clear hb1; obtain ⟨hc1, hf1⟩ := hb.old)
    | (go_at_call 19; (with_reducible refine (HQ.out _ (((Ext.alloc _ _).trans (Ext.alloc _ _)).trans hb)).mono ?_); rintro e1 w1 ⟨rfl, hb1⟩; replace hb := Ext.trans hb hb1; clear hb1; obtain ⟨hc1, hf1⟩ := hb.old))
  go_ret
  exact ⟨rfl, (by repeat (first | exact Ext.refl _ | assumption | exact Ext.alloc _ _ | refine Ext.trans ?_ (by assumption) | refine Ext.trans ?_ (Ext.alloc _ _) | refine Ext.trans ?_ (Ext.drewN _ _) | refine Ext.trans ?_ (Ext.drew _)))⟩

theorem below_top {w : World} {A B A2 B2 : Option Addr} {n c m e n2 d m2 f : Nat} {X Y U V : Nat → Int} (hn : n ≤ maxLen) (hm : m ≤ maxLen) (ra : Ri w A n X) (rb : Ri w B m Y) (hn2 : n2 ≤ maxLen) (hm2 : m2 ≤ maxLen) (ra2 : Ri w A2 n2 U) (rb2 : Ri w B2 m2 V) :
    Calls Try.prog 11 #[cv A n c B m e, cv A2 n2 d B2 m2 f] w fun e' w' => e' = .returned (.bool true) ∧ Ext w w' := by
  by_cases h : 100 < n ∨ 100 < m
  · exact below_long1 A B A2 B2 n c m e n2 d m2 f h hn hm
  · by_cases h2 : 100 < n2 ∨ 100 < m2
    · exact below_long2 A B A2 B2 n c m e n2 d m2 f (by omega) (by omega) h2 hn2 hm2
    · by_cases hz : chk n m X Y = 0
      · obtain ⟨rfl, ba, oa, bb, ob, rfl, rfl, r⟩ := cur_of' hz ra rb
        by_cases hy : chk n2 m2 U V = 0
        · obtain ⟨rfl, bc, oc, bd, od, rfl, rfl, q⟩ := cur_of' hy ra2 rb2
          by_cases hh : blw n X Y n2 U V
          · exact below_yes_t hz hy r q hh
          · exact below_yes_f hz hy r q hh
        · exact below_no2 hz r rfl hy ra2 rb2 (by omega) (by omega)
      · exact below_no1 rfl hz ra rb (by omega) (by omega) (by omega) (by omega)

theorem orders_top {w : World} {A B A2 B2 : Option Addr} {n c m e n2 d m2 f : Nat} {X Y U V : Nat → Int} {x : Int} (hn : n ≤ maxLen) (hm : m ≤ maxLen) (ra : Ri w A n X) (rb : Ri w B m Y) (hn2 : n2 ≤ maxLen) (hm2 : m2 ≤ maxLen) (ra2 : Ri w A2 n2 U) (rb2 : Ri w B2 m2 V) (hx : -9223372036854775808 ≤ x ∧ x ≤ 9223372036854775807) :
    Calls Try.prog 12 #[cv A n c B m e, cv A2 n2 d B2 m2 f, I x] w fun e' w' => e' = .returned (.bool true) ∧ Ext w w' := by
  by_cases h : 100 < n ∨ 100 < m
  · exact orders_long1 A B A2 B2 n c m e n2 d m2 f x h hn hm
  · by_cases h2 : 100 < n2 ∨ 100 < m2
    · exact orders_long2 A B A2 B2 n c m e n2 d m2 f x (by omega) (by omega) h2 hn2 hm2
    · by_cases hz : chk n m X Y = 0
      · obtain ⟨rfl, ba, oa, bb, ob, rfl, rfl, r⟩ := cur_of' hz ra rb
        by_cases hy : chk n2 m2 U V = 0
        · obtain ⟨rfl, bc, oc, bd, od, rfl, rfl, q⟩ := cur_of' hy ra2 rb2
          by_cases hh : blw n X Y n2 U V
          · exact orders_yes_t hz hy r q hh x hx
          · exact orders_yes_f hz hy r q hh x
        · exact orders_no2 hz r rfl hy ra2 rb2 (by omega) (by omega) x
      · exact orders_no1 rfl hz ra rb (by omega) (by omega) (by omega) (by omega) x
end Go.Proofs.Ytdcollchhcjaaaa
