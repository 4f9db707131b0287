/- Curves: At and Inverse of the code, Inverse of the reference. -/
import Derived.Test.YtdcollchhcjaaaaCrvg
import Derived.Test.YtdcollchhcjaaaaCrvh

namespace Go.Proofs.Ytdcollchhcjaaaa
open Go.RowKit

theorem check_ok {w : World} {ba oa c bb ob e n : Nat} {X Y : Nat → Int} (hz : chk n n X Y = 0) (r : Cur w ba oa bb ob n X Y) (w' : World) (he : Ext w w') :
    Calls Try.prog 17 #[cw ba oa c bb ob e n] w' fun e' w'' => e' = .returned .nilIface ∧ Ext w' w'' := by
  have k := (crv_of hz).2
  have hn : n ≤ maxLen := by have := k.le; unfold maxLen; omega
  exact (check_any (r.ext he).ra (r.ext he).rb hn hn).mono fun _ _ ⟨h1, h2⟩ => ⟨by rw [h1, hz]; rfl, h2⟩
theorem check_bad {w : World} {A B : Option Addr} {n c m e : Nat} {X Y : Nat → Int} {k : Int} (hz : chk n m X Y = k) (hk : k ≠ 0) (ra : Ri w A n X) (rb : Ri w B m Y) (hn : n ≤ maxLen) (hm : m ≤ maxLen) (w' : World) (he : Ext w w') :
    Calls Try.prog 17 #[cv A n c B m e] w' fun e' w'' => e' = .returned (.iface 51 (I k)) ∧ Ext w' w'' :=
  (check_any (ra.ext he) (rb.ext he) hn hm).mono fun _ _ ⟨h1, h2⟩ => ⟨by rw [h1, hz, errv_n hk], h2⟩

set_option maxRecDepth 100000 in
set_option maxHeartbeats 1000000 in
theorem at_ok {w : World} {ba oa c bb ob e n : Nat} {X Y : Nat → Int} (hz : chk n n X Y = 0) (r : Cur w ba oa bb ob n X Y) (x : Int) (hx : -9223372036854775808 ≤ x ∧ x ≤ 9223372036854775807) :
    Calls Try.prog 19 #[cw ba oa c bb ob e n, I x] w fun e' w' => e' = .returned (.tuple #[I (atv n X Y x), .nilIface]) ∧ Ext w w' := by
  have HC := Lib.hid (fun w' (he : Ext w w') => check_ok (c := c) (e := e) hz r w' he)
  have HT := Lib.hid (fun w' (he : Ext w w') => truncated_any (c := c) (e := e) (crv_of hz).2 (r.ext he) x hx)
  clear hz r
  go_enter Try.func19, Try.ntmps19
  go_wp2_with (first
    | (go_at_call 17; (refine (HC.out _ (Ext.alloc _ _)).mono ?_); rintro e1 w1 ⟨rfl, hb⟩; obtain ⟨hc, hf⟩ := hb.old)
    | (go_at_call 36; (refine (HT.out _ ((Ext.alloc _ _).trans hb)).mono ?_); rintro e2 w2 ⟨rfl, hb2⟩))
  go_ret2
  exact ⟨rfl, (by repeat (first | exact Ext.refl _ | assumption | exact Ext.alloc _ _ | refine Ext.trans ?_ (by assumption) | refine Ext.trans ?_ (Ext.alloc _ _) | refine Ext.trans ?_ (Ext.drewN _ _) | refine Ext.trans ?_ (Ext.drew _)))⟩

set_option maxRecDepth 100000 in
set_option maxHeartbeats 1000000 in
theorem at_bad {w : World} {A B : Option Addr} {n c m e : Nat} {X Y : Nat → Int} {k : Int} (hz : chk n m X Y = k) (hk : k ≠ 0) (ra : Ri w A n X) (rb : Ri w B m Y) (hn : n ≤ maxLen) (hm : m ≤ maxLen) (x : Int) :
    Calls Try.prog 19 #[cv A n c B m e, I x] w fun e' w' => e' = .returned (.tuple #[I 0, .iface 51 (I k)]) ∧ Ext w w' := by
  have HC := Lib.hid (fun w' (he : Ext w w') => check_bad (c := c) (e := e) hz hk ra rb hn hm w' he)
  clear hz hk ra rb hn hm
  go_enter Try.func19, Try.ntmps19
  go_wp2_with (go_at_call 17; (refine (HC.out _ (Ext.alloc _ _)).mono ?_); rintro e1 w1 ⟨rfl, hb⟩; obtain ⟨hc, hf⟩ := hb.old)
  go_ret2
  exact ⟨rfl, (by repeat (first | exact Ext.refl _ | assumption | exact Ext.alloc _ _ | refine Ext.trans ?_ (by assumption) | refine Ext.trans ?_ (Ext.alloc _ _) | refine Ext.trans ?_ (Ext.drewN _ _) | refine Ext.trans ?_ (Ext.drew _)))⟩

set_option maxRecDepth 100000 in
set_option maxHeartbeats 1000000 in
theorem inverse_bad {w : World} {A B : Option Addr} {n c m e : Nat} {X Y : Nat → Int} {k : Int} (hz : chk n m X Y = k) (hk : k ≠ 0) (ra : Ri w A n X) (rb : Ri w B m Y) (hn : n ≤ maxLen) (hm : m ≤ maxLen) (y : Int) :
    Calls Try.prog 21 #[cv A n c B m e, I y] w fun e' w' => e' = .returned (.tuple #[I 0, .iface 51 (I k)]) ∧ Ext w w' := by
  have HC := Lib.hid (fun w' (he : Ext w w') => check_bad (c := c) (e := e) hz hk ra rb hn hm w' he)
  clear hz hk ra rb hn hm
  go_enter Try.func21, Try.ntmps21
  go_wp2_with (go_at_call 17; (refine (HC.out _ ((Ext.alloc _ _).trans (Ext.alloc _ _))).mono ?_); rintro e1 w1 ⟨rfl, hb⟩; obtain ⟨hc, hf⟩ := hb.old)
  go_ret2
  exact ⟨rfl, (by repeat (first | exact Ext.refl _ | assumption | exact Ext.alloc _ _ | refine Ext.trans ?_ (by assumption) | refine Ext.trans ?_ (Ext.alloc _ _) | refine Ext.trans ?_ (Ext.drewN _ _) | refine Ext.trans ?_ (Ext.drew _)))⟩

set_option maxRecDepth 100000 in
set_option maxHeartbeats 1000000 in
theorem invClosure_any {w : World} {ba oa c bb ob e n : Nat} {X Y : Nat → Int} (k : Crv n X Y) (r : Cur w ba oa bb ob n X Y) (gc gf gy : Nat) (x0 y : Int) (i : Nat) (hi : (i : Int) ≤ 2147483648) (hx : -1073741824 ≤ x0 ∧ x0 ≤ 1073741824)
    (hc0 : w.cell? ⟨gc, 0, none⟩ = some (.slice (some ⟨ba, oa, none⟩) n c)) (hc1 : w.cell? ⟨gc, 1, none⟩ = some (.slice (some ⟨bb, ob, none⟩) n e)) (hfx : w.cell? ⟨gf, 0, none⟩ = some (I x0)) (hy : w.cell? ⟨gy, 0, none⟩ = some (I y)) :
    Calls Try.prog 39 (#[I i] ++ #[.pointer (some ⟨gc, 0, none⟩), .pointer (some ⟨gf, 0, none⟩), .pointer (some ⟨gy, 0, none⟩)]) w fun e' w' => e' = .returned (.bool (decide (y ≤ atv n X Y (x0 + i)))) ∧ Ext w w' := by
  have HT := Lib.hid (fun w' (he : Ext w w') => truncated_any (c := c) (e := e) k (r.ext he) (x0 + i) (by omega))
  have e1 : IntKind.i64.wrap (x0 + (i : Int)) = x0 + (i : Int) := wrap_in (by omega) (by omega)
  have lc := World.block_lt_of_cell? w _ hc0
  have lf := World.block_lt_of_cell? w _ hfx
  have ly := World.block_lt_of_cell? w _ hy
  have hb := Ext.refl w
  clear k r
  go_enter Try.func39, Try.ntmps39
  go_wp2_with fail
  have hL := fun (x : Later _) => (Ext.trans hb x.ext).old.1
  refine wp_region_later (by kernel_rfl) (by kernel_rfl) ?_
  repeat (go_big_quiet_step (((go_at_call 36; exact Calls.later (HT.out _ (Later.ext _))))))
  refine wpQuiet_nil ?_
  intro w2 hw2
  replace hb := Ext.trans hb (Later.of hw2)
  clear hw2 hL
  obtain ⟨hc, hf⟩ := hb.old
  go_wp2_with fail
  go_ret
  exact ⟨rfl, hb⟩
end Go.Proofs.Ytdcollchhcjaaaa
