/- Functions on natural numbers, part 2: comparisons. -/
import Derived.Test.YtgmmcfnahfcadaaDoorNat
namespace Go.Proofs.YtgmmcfnahfcadaaDoor
open Go.RowKit

theorem Calls.same_ext {P : Program} {f : FuncId} {args : Array Value} {w : World} {v : Value} (h : Calls P f args w fun e w' => e = .returned v ∧ w = w') : Calls P f args w fun e w' => e = .returned v ∧ Ext w w' :=
  h.mono fun _ _ ⟨he, hw⟩ => ⟨he, hw ▸ Ext.refl _⟩

def cmpI (x y : Int) : Int := if x < y then -1 else if y < x then 1 else 0
theorem cmpI_lt {x y : Int} (h : x < y) : cmpI x y = -1 := by unfold cmpI; rw [if_pos h]
theorem cmpI_gt {x y : Int} (h : y < x) : cmpI x y = 1 := by unfold cmpI; rw [if_neg (by omega), if_pos h]
theorem cmpI_eq {x y : Int} (h : x = y) : cmpI x y = 0 := by subst h; unfold cmpI; simp

set_option maxHeartbeats 400000 in
theorem cmpInt_any (x y : Int) (w : World) : Calls Tryd.prog 74 #[I x, I y] w fun e w' => e = .returned (I (cmpI x y)) ∧ w = w' := by
  rcases Int.lt_trichotomy x y with h | h | h
  · have HC := Lib.hid (cmpI_lt h)
    go_enter Tryd.func74, Tryd.ntmps74
    go_wp2
    go_ret
    exact ⟨by rw [HC.out]; rfl, rfl⟩
  · have HC := Lib.hid (cmpI_eq h)
    have h1 : ¬ x < y := by omega
    have h2 : ¬ y < x := by omega
    clear h
    go_enter Tryd.func74, Tryd.ntmps74
    go_wp2
    go_ret
    exact ⟨by rw [HC.out]; rfl, rfl⟩
  · have HC := Lib.hid (cmpI_gt h)
    have h1 : ¬ x < y := by omega
    go_enter Tryd.func74, Tryd.ntmps74
    go_wp2
    go_ret
    exact ⟨by rw [HC.out]; rfl, rfl⟩

set_option maxHeartbeats 400000 in
theorem cmpU_lt (x y : Nat) (w : World) (h : x < y) : Calls Tryd.prog 108 #[U4 x, U4 y] w fun e w' => e = .returned (I (-1)) ∧ w = w' := by
  have h1 : (x : Int) < y := by omega
  go_enter Tryd.func108, Tryd.ntmps108
  go_wp2
  go_ret
  exact ⟨rfl, rfl⟩
set_option maxHeartbeats 400000 in
theorem cmpU_gt (x y : Nat) (w : World) (h : y < x) : Calls Tryd.prog 108 #[U4 x, U4 y] w fun e w' => e = .returned (I 1) ∧ w = w' := by
  have h1 : (y : Int) < x := by omega
  have h2 : ¬ (x : Int) < y := by omega
  go_enter Tryd.func108, Tryd.ntmps108
  go_wp2
  go_ret
  exact ⟨rfl, rfl⟩

set_option maxHeartbeats 400000 in
theorem compare_any (A B : Option Addr) (m n ca cb : Nat) (w : World) (ha : Rd w A (len m) (dg m)) (hb' : Rd w B (len n) (dg n)) (ha1 : len m ≤ 1073741824) :
    Calls Tryd.prog 76 #[.slice A (len m) ca, .slice B (len n) cb] w fun e w' => e = .returned (I (cmpF m n)) ∧ Ext w w' := by
  have HA := Lib.hid ha; clear ha
  have HB := Lib.hid hb'; clear hb'
  by_cases hl : len m = len n
  · have h0 := Lib.hid (cmp_start hl)
    obtain ⟨L, hL⟩ : ∃ L, len m = L := ⟨_, rfl⟩
    rw [hL] at hl ha1 h0
    rw [hL, ← hl]
    rw [hL] at HA
    rw [← hl] at HB
    clear hL hl
    have H0 : Hid (m / pB L = n / pB L) := h0
    clear h0
    go_enter Tryd.func76, Tryd.ntmps76
    go_wp2
    go_loopw [5] (fun s wr => Ext w wr ∧ (s = I (-1) ∧ Hid (m / pB 0 = n / pB 0) ∨ ∃ j : Nat, j < L ∧ s = I j ∧ Hid (m / pB (j + 1) = n / pB (j + 1)))) (fun s _ => (intOf s + 1).toNat)
    case atStart =>
      refine ⟨Ext.refl _, ?_⟩
      cases L with
      | zero => exact .inl ⟨rfl, H0⟩
      | succ l => exact .inr ⟨l, by omega, by go_num, H0⟩
    case round =>
      clear H0
      obtain ⟨hb, ⟨rfl, hz⟩ | ⟨j, hj, rfl, hz⟩⟩ := hrel
      · have HC := Lib.hid (cmp_eq (cmp_end hz.out))
        go_wp2
        go_ret
        exact ⟨by rw [HC.out]; rfl, hb⟩
      · obtain ⟨b1, o1, rfl, hb1, c1⟩ := HA.out.at_ hj
        obtain ⟨b2, o2, rfl, hb2, c2⟩ := HB.out.at_ hj
        obtain ⟨hc, hf⟩ := hb.old
        have hi1 : (0 : Int) ≤ (j : Int) := by omega
        have hi2 : (j : Int) < (L : Int) := by omega
        by_cases e : dg m j = dg n j
        · have hz' := Lib.hid (cmp_step hz.out e)
          rw [e] at c1
          clear e hz
          go_wp2
          go_quiet (fail)
          go_wp2
          go_roundw
          case rel =>
            refine ⟨hb.trans (Ext.drewN _ _), ?_⟩
            cases j with
            | zero => exact .inl ⟨rfl, hz'⟩
            | succ l => exact .inr ⟨l, by omega, by go_num, hz'⟩
          case measure => simp [intOf]
        · have e1 : ((dg m j : Int) != (dg n j : Int)) = true := by simp; omega
          rcases Nat.lt_or_gt_of_ne e with e2 | e2
          · have HC := Lib.hid (cmp_lt (cmp_dg hz.out e2))
            clear e hz
            go_wp2
            go_quiet (fail)
            go_wp2
            replace hb := hb.trans (Ext.drewN _ nq); clear hc hf
            have hL := fun (x : Later _) => (Ext.trans hb x.ext).old.1
            refine wp_region_later (by kernel_rfl) (by kernel_rfl) ?_
            repeat (go_big_quiet_step (((go_at_call 108; exact Calls.later (Calls.same_ext (cmpU_lt _ _ _ e2))))))
            refine wpQuiet_nil ?_
            intro w2 hw2
            replace hb := Ext.trans hb (Later.of hw2)
            clear hw2 hL
            obtain ⟨hc, hf⟩ := hb.old
            go_wp2
            go_ret
            exact ⟨by rw [HC.out]; rfl, hb⟩
          · have HC := Lib.hid (cmp_gt (cmp_dg hz.out.symm e2))
            clear e hz
            go_wp2
            go_quiet (fail)
            go_wp2
            replace hb := hb.trans (Ext.drewN _ nq); clear hc hf
            have hL := fun (x : Later _) => (Ext.trans hb x.ext).old.1
            refine wp_region_later (by kernel_rfl) (by kernel_rfl) ?_
            repeat (go_big_quiet_step (((go_at_call 108; exact Calls.later (Calls.same_ext (cmpU_gt _ _ _ e2))))))
            refine wpQuiet_nil ?_
            intro w2 hw2
            replace hb := Ext.trans hb (Later.of hw2)
            clear hw2 hL
            obtain ⟨hc, hf⟩ := hb.old
            go_wp2
            go_ret
            exact ⟨by rw [HC.out]; rfl, hb⟩
  · have h1 : ((len m : Int) != (len n : Int)) = true := by simp; omega
    have HC : Hid (cmpI (len m) (len n) = cmpF m n) := by
      rcases Nat.lt_or_gt_of_ne hl with h | h
      · show cmpI _ _ = _; rw [cmp_lt (cmp_len h), cmpI_lt (by omega)]
      · show cmpI _ _ = _; rw [cmp_gt (cmp_len h), cmpI_gt (by omega)]
    clear hl
    go_enter Tryd.func76, Tryd.ntmps76
    go_wp2_with (go_at_call 74; refine (cmpInt_any _ _ _).mono ?_; rintro e w' ⟨rfl, rfl⟩)
    go_ret
    exact ⟨by rw [← HC.out]; rfl, Ext.refl _⟩

end Go.Proofs.YtgmmcfnahfcadaaDoor
