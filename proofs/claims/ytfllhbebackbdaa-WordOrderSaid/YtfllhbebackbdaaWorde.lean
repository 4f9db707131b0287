/- Contracts of the exported functions of package word but for products and quotients, and of their references. -/
import Derived.Test.YtfllhbebackbdaaWordd
namespace Go.Proofs.Ytfllhbebackbdaa
open Go.RowKit

def okM (m : Int) : Bool := decide (0 ≤ m) && decide (m ≤ 3)
theorem okM_t {m : Int} (h : 0 ≤ m) (h' : m ≤ 3) : okM m = true := by simp [okM, h, h']
theorem okM_f {m : Int} (h : ¬ (0 ≤ m ∧ m ≤ 3)) : okM m = false := by simp [okM]; omega

theorem isMode_is (m : Int) (v : Bool) (w : World) (h : okM m = v) : Calls Try.prog 39 #[I m] w fun e w' => e = .returned (.bool v) ∧ Ext w w' := by
  subst h; exact isMode_any m w
theorem mode_is (m : Int) (v : Bool) (w : World) (h : okM m = v) : Calls Try.prog 41 #[I m] w fun e w' => e = .returned (.bool v) ∧ Ext w w' := by
  subst h; exact mode_any m w

def shiftF (x n m : Int) : Int × Int :=
  if n < -62 ∨ 62 < n ∨ ¬ (0 ≤ m ∧ m ≤ 3) then (0, 3)
  else if 0 ≤ n then (rnd x n m, 0)
  else if wrap64 (x * 2 ^ (-n).toNat) / 2 ^ (-n).toNat = x then (wrap64 (x * 2 ^ (-n).toNat), 0) else (0, 13)

theorem shift_bad {x n m : Int} (h : n < -62 ∨ 62 < n ∨ ¬ (0 ≤ m ∧ m ≤ 3)) : shiftF x n m = (0, 3) := by unfold shiftF; rw [if_pos h]
theorem shift_right {x n m : Int} (h1 : n ≤ 62) (h2 : 0 ≤ m) (h3 : m ≤ 3) (h4 : 0 ≤ n) : shiftF x n m = (rnd x n m, 0) := by
  unfold shiftF; rw [if_neg (by omega), if_pos h4]
theorem shift_left {x n m : Int} (h1 : -62 ≤ n) (h2 : 0 ≤ m) (h3 : m ≤ 3) (h4 : ¬ 0 ≤ n) (h : wrap64 (x * 2 ^ (-n).toNat) / 2 ^ (-n).toNat = x) : shiftF x n m = (wrap64 (x * 2 ^ (-n).toNat), 0) := by
  unfold shiftF; rw [if_neg (by omega), if_neg h4, if_pos h]
theorem shift_over {x n m : Int} (h1 : -62 ≤ n) (h2 : 0 ≤ m) (h3 : m ≤ 3) (h4 : ¬ 0 ≤ n) (h : ¬ wrap64 (x * 2 ^ (-n).toNat) / 2 ^ (-n).toNat = x) : shiftF x n m = (0, 13) := by
  unfold shiftF; rw [if_neg (by omega), if_neg h4, if_neg h]

set_option maxHeartbeats 400000 in
theorem shift_any (x n m : Int) (w : World) (hx : In64 x) :
    Calls Try.prog 23 #[I x, I n, I m] w fun e w' => e = .returned (res2 (shiftF x n m)) ∧ Ext w w' := by
  by_cases hb : n < -62 ∨ 62 < n ∨ ¬ (0 ≤ m ∧ m ≤ 3)
  · have HV := Lib.hid (shift_bad (x := x) hb)
    have HX := Lib.hid hx; clear hx
    by_cases hm : 0 ≤ m ∧ m ≤ 3
    · have HM := Lib.hid (okM_t hm.1 hm.2)
      replace hb : n < -62 ∨ 62 < n := by omega
      clear hm
      rcases hb with hb | hb
      · go_enter Try.func23, Try.ntmps23
        go_wp2_with (first
          | (go_at_call 39; refine (isMode_is _ _ _ HM.out).mono ?_; rintro e w1 ⟨rfl, hb1⟩; (first | replace hb := Ext.trans hb hb1 | replace hb := Ext.trans (Ext.trans hb (Ext.drewN _ _)) hb1 | replace hb := Ext.trans (Ext.trans hb (Ext.alloc _ _)) hb1 | have hb := hb1); clear hb1; obtain ⟨hc1, hf1⟩ := hb.old))
        go_ret2
        exact ⟨by rw [HV.out]; rfl, (by repeat (first | exact Ext.refl _ | assumption | exact Ext.alloc _ _ | refine Ext.trans ?_ (by assumption) | refine Ext.trans ?_ (Ext.alloc _ _) | refine Ext.trans ?_ (Ext.drewN _ _) | refine Ext.trans ?_ (Ext.drew _)))⟩
      · have hb' : ¬ n < -62 := by omega
        go_enter Try.func23, Try.ntmps23
        go_wp2_with (first
          | (go_at_call 39; refine (isMode_is _ _ _ HM.out).mono ?_; rintro e w1 ⟨rfl, hb1⟩; (first | replace hb := Ext.trans hb hb1 | replace hb := Ext.trans (Ext.trans hb (Ext.drewN _ _)) hb1 | replace hb := Ext.trans (Ext.trans hb (Ext.alloc _ _)) hb1 | have hb := hb1); clear hb1; obtain ⟨hc1, hf1⟩ := hb.old))
        go_ret2
        exact ⟨by rw [HV.out]; rfl, (by repeat (first | exact Ext.refl _ | assumption | exact Ext.alloc _ _ | refine Ext.trans ?_ (by assumption) | refine Ext.trans ?_ (Ext.alloc _ _) | refine Ext.trans ?_ (Ext.drewN _ _) | refine Ext.trans ?_ (Ext.drew _)))⟩
    · have HM := Lib.hid (okM_f hm)
      clear hb hm
      go_enter Try.func23, Try.ntmps23
      go_wp2_with (first
        | (go_at_call 39; refine (isMode_is _ _ _ HM.out).mono ?_; rintro e w1 ⟨rfl, hb1⟩; (first | replace hb := Ext.trans hb hb1 | replace hb := Ext.trans (Ext.trans hb (Ext.drewN _ _)) hb1 | replace hb := Ext.trans (Ext.trans hb (Ext.alloc _ _)) hb1 | have hb := hb1); clear hb1; obtain ⟨hc1, hf1⟩ := hb.old))
      all_goals (go_ret2; exact ⟨by rw [HV.out]; rfl, (by repeat (first | exact Ext.refl _ | assumption | exact Ext.alloc _ _ | refine Ext.trans ?_ (by assumption) | refine Ext.trans ?_ (Ext.alloc _ _) | refine Ext.trans ?_ (Ext.drewN _ _) | refine Ext.trans ?_ (Ext.drew _)))⟩)
  · obtain ⟨b1, b2, b3, b4⟩ : -62 ≤ n ∧ n ≤ 62 ∧ 0 ≤ m ∧ m ≤ 3 := by omega
    clear hb
    have HM := Lib.hid (okM_t b3 b4)
    have HX := Lib.hid hx; clear hx
    by_cases hn : 0 ≤ n
    · have HV := Lib.hid (shift_right (x := x) b2 b3 b4 hn)
      go_enter Try.func23, Try.ntmps23
      go_wp2_with (first
        | (go_at_call 39; refine (isMode_is _ _ _ HM.out).mono ?_; rintro e w1 ⟨rfl, hb1⟩; (first | replace hb := Ext.trans hb hb1 | replace hb := Ext.trans (Ext.trans hb (Ext.drewN _ _)) hb1 | replace hb := Ext.trans (Ext.trans hb (Ext.alloc _ _)) hb1 | have hb := hb1); clear hb1; obtain ⟨hc1, hf1⟩ := hb.old)
        | (go_at_call 40; refine (shiftRight_any _ _ _ _ HX.out hn b2 b3 b4).mono ?_; rintro e w1 ⟨rfl, hb1⟩; (first | replace hb := Ext.trans hb hb1 | replace hb := Ext.trans (Ext.trans hb (Ext.drewN _ _)) hb1 | replace hb := Ext.trans (Ext.trans hb (Ext.alloc _ _)) hb1 | have hb := hb1); clear hb1; obtain ⟨hc1, hf1⟩ := hb.old))
      go_ret2
      exact ⟨by rw [HV.out]; rfl, (by repeat (first | exact Ext.refl _ | assumption | exact Ext.alloc _ _ | refine Ext.trans ?_ (by assumption) | refine Ext.trans ?_ (Ext.alloc _ _) | refine Ext.trans ?_ (Ext.drewN _ _) | refine Ext.trans ?_ (Ext.drew _)))⟩
    · have p1 := pow_pos (-n).toNat
      have p2 := pow62 (k := (-n).toNat) (by omega)
      by_cases h : wrap64 (x * 2 ^ (-n).toNat) / 2 ^ (-n).toNat = x
      · have HV := Lib.hid (shift_left (x := x) b1 b3 b4 hn h)
        have h' : (wrap64 (x * 2 ^ (-n).toNat) / 2 ^ (-n).toNat == x) = true := by simpa using h
        have h'' : (wrap64 (x * 2 ^ (-n).toNat) / 2 ^ (-n).toNat != x) = false := by simpa using h
        clear h
        go_enter Try.func23, Try.ntmps23
        go_wp2_with (first
          | (go_at_call 39; refine (isMode_is _ _ _ HM.out).mono ?_; rintro e w1 ⟨rfl, hb1⟩; (first | replace hb := Ext.trans hb hb1 | replace hb := Ext.trans (Ext.trans hb (Ext.drewN _ _)) hb1 | replace hb := Ext.trans (Ext.trans hb (Ext.alloc _ _)) hb1 | have hb := hb1); clear hb1; obtain ⟨hc1, hf1⟩ := hb.old))
        go_ret2
        exact ⟨by rw [HV.out]; rfl, (by repeat (first | exact Ext.refl _ | assumption | exact Ext.alloc _ _ | refine Ext.trans ?_ (by assumption) | refine Ext.trans ?_ (Ext.alloc _ _) | refine Ext.trans ?_ (Ext.drewN _ _) | refine Ext.trans ?_ (Ext.drew _)))⟩
      · have HV := Lib.hid (shift_over (x := x) b1 b3 b4 hn h)
        have h' : (wrap64 (x * 2 ^ (-n).toNat) / 2 ^ (-n).toNat == x) = false := by simpa using h
        have h'' : (wrap64 (x * 2 ^ (-n).toNat) / 2 ^ (-n).toNat != x) = true := by simpa using h
        clear h
        go_enter Try.func23, Try.ntmps23
        go_wp2_with (first
          | (go_at_call 39; refine (isMode_is _ _ _ HM.out).mono ?_; rintro e w1 ⟨rfl, hb1⟩; (first | replace hb := Ext.trans hb hb1 | replace hb := Ext.trans (Ext.trans hb (Ext.drewN _ _)) hb1 | replace hb := Ext.trans (Ext.trans hb (Ext.alloc _ _)) hb1 | have hb := hb1); clear hb1; obtain ⟨hc1, hf1⟩ := hb.old))
        go_ret2
        exact ⟨by rw [HV.out]; rfl, (by repeat (first | exact Ext.refl _ | assumption | exact Ext.alloc _ _ | refine Ext.trans ?_ (by assumption) | refine Ext.trans ?_ (Ext.alloc _ _) | refine Ext.trans ?_ (Ext.drewN _ _) | refine Ext.trans ?_ (Ext.drew _)))⟩

set_option maxHeartbeats 400000 in
theorem rshift_any (x n m : Int) (w : World) (hx : In64 x) :
    Calls Try.prog 24 #[I x, I n, I m] w fun e w' => e = .returned (ref2 (shiftF x n m)) ∧ Ext w w' := by
  by_cases hb : n < -62 ∨ 62 < n ∨ ¬ (0 ≤ m ∧ m ≤ 3)
  · have HV := Lib.hid (shift_bad (x := x) hb)
    have HX := Lib.hid hx; clear hx
    by_cases hm : 0 ≤ m ∧ m ≤ 3
    · have HM := Lib.hid (okM_t hm.1 hm.2)
      replace hb : n < -62 ∨ 62 < n := by omega
      clear hm
      rcases hb with hb | hb
      · go_enter Try.func24, Try.ntmps24
        go_wp2_with (first
          | (go_at_call 41; refine (mode_is _ _ _ HM.out).mono ?_; rintro e w1 ⟨rfl, hb1⟩; (first | replace hb := Ext.trans hb hb1 | replace hb := Ext.trans (Ext.trans hb (Ext.drewN _ _)) hb1 | replace hb := Ext.trans (Ext.trans hb (Ext.alloc _ _)) hb1 | have hb := hb1); clear hb1; obtain ⟨hc1, hf1⟩ := hb.old))
        go_ret2
        exact ⟨by rw [HV.out]; rfl, (by repeat (first | exact Ext.refl _ | assumption | exact Ext.alloc _ _ | refine Ext.trans ?_ (by assumption) | refine Ext.trans ?_ (Ext.alloc _ _) | refine Ext.trans ?_ (Ext.drewN _ _) | refine Ext.trans ?_ (Ext.drew _)))⟩
      · have hb' : ¬ n < -62 := by omega
        go_enter Try.func24, Try.ntmps24
        go_wp2_with (first
          | (go_at_call 41; refine (mode_is _ _ _ HM.out).mono ?_; rintro e w1 ⟨rfl, hb1⟩; (first | replace hb := Ext.trans hb hb1 | replace hb := Ext.trans (Ext.trans hb (Ext.drewN _ _)) hb1 | replace hb := Ext.trans (Ext.trans hb (Ext.alloc _ _)) hb1 | have hb := hb1); clear hb1; obtain ⟨hc1, hf1⟩ := hb.old))
        go_ret2
        exact ⟨by rw [HV.out]; rfl, (by repeat (first | exact Ext.refl _ | assumption | exact Ext.alloc _ _ | refine Ext.trans ?_ (by assumption) | refine Ext.trans ?_ (Ext.alloc _ _) | refine Ext.trans ?_ (Ext.drewN _ _) | refine Ext.trans ?_ (Ext.drew _)))⟩
    · have HM := Lib.hid (okM_f hm)
      clear hb hm
      go_enter Try.func24, Try.ntmps24
      go_wp2_with (first
        | (go_at_call 41; refine (mode_is _ _ _ HM.out).mono ?_; rintro e w1 ⟨rfl, hb1⟩; (first | replace hb := Ext.trans hb hb1 | replace hb := Ext.trans (Ext.trans hb (Ext.drewN _ _)) hb1 | replace hb := Ext.trans (Ext.trans hb (Ext.alloc _ _)) hb1 | have hb := hb1); clear hb1; obtain ⟨hc1, hf1⟩ := hb.old))
      all_goals (go_ret2; exact ⟨by rw [HV.out]; rfl, (by repeat (first | exact Ext.refl _ | assumption | exact Ext.alloc _ _ | refine Ext.trans ?_ (by assumption) | refine Ext.trans ?_ (Ext.alloc _ _) | refine Ext.trans ?_ (Ext.drewN _ _) | refine Ext.trans ?_ (Ext.drew _)))⟩)
  · obtain ⟨b1, b2, b3, b4⟩ : -62 ≤ n ∧ n ≤ 62 ∧ 0 ≤ m ∧ m ≤ 3 := by omega
    clear hb
    have HM := Lib.hid (okM_t b3 b4)
    have HX := Lib.hid hx; clear hx
    by_cases hn : 0 ≤ n
    · have HV := Lib.hid (shift_right (x := x) b2 b3 b4 hn)
      go_enter Try.func24, Try.ntmps24
      go_wp2_with (first
        | (go_at_call 41; refine (mode_is _ _ _ HM.out).mono ?_; rintro e w1 ⟨rfl, hb1⟩; (first | replace hb := Ext.trans hb hb1 | replace hb := Ext.trans (Ext.trans hb (Ext.drewN _ _)) hb1 | replace hb := Ext.trans (Ext.trans hb (Ext.alloc _ _)) hb1 | have hb := hb1); clear hb1; obtain ⟨hc1, hf1⟩ := hb.old)
        | (go_at_call 42; refine (rround_any _ _ _ _ HX.out hn b2 b3 b4).mono ?_; rintro e w1 ⟨rfl, hb1⟩; (first | replace hb := Ext.trans hb hb1 | replace hb := Ext.trans (Ext.trans hb (Ext.drewN _ _)) hb1 | replace hb := Ext.trans (Ext.trans hb (Ext.alloc _ _)) hb1 | have hb := hb1); clear hb1; obtain ⟨hc1, hf1⟩ := hb.old))
      go_ret2
      exact ⟨by rw [HV.out]; rfl, (by repeat (first | exact Ext.refl _ | assumption | exact Ext.alloc _ _ | refine Ext.trans ?_ (by assumption) | refine Ext.trans ?_ (Ext.alloc _ _) | refine Ext.trans ?_ (Ext.drewN _ _) | refine Ext.trans ?_ (Ext.drew _)))⟩
    · have p1 := pow_pos (-n).toNat
      have p2 := pow62 (k := (-n).toNat) (by omega)
      by_cases h : wrap64 (x * 2 ^ (-n).toNat) / 2 ^ (-n).toNat = x
      · have HV := Lib.hid (shift_left (x := x) b1 b3 b4 hn h)
        have h' : (wrap64 (x * 2 ^ (-n).toNat) / 2 ^ (-n).toNat == x) = true := by simpa using h
        have h'' : (wrap64 (x * 2 ^ (-n).toNat) / 2 ^ (-n).toNat != x) = false := by simpa using h
        clear h
        go_enter Try.func24, Try.ntmps24
        go_wp2_with (first
          | (go_at_call 41; refine (mode_is _ _ _ HM.out).mono ?_; rintro e w1 ⟨rfl, hb1⟩; (first | replace hb := Ext.trans hb hb1 | replace hb := Ext.trans (Ext.trans hb (Ext.drewN _ _)) hb1 | replace hb := Ext.trans (Ext.trans hb (Ext.alloc _ _)) hb1 | have hb := hb1); clear hb1; obtain ⟨hc1, hf1⟩ := hb.old))
        go_ret2
        exact ⟨by rw [HV.out]; rfl, (by repeat (first | exact Ext.refl _ | assumption | exact Ext.alloc _ _ | refine Ext.trans ?_ (by assumption) | refine Ext.trans ?_ (Ext.alloc _ _) | refine Ext.trans ?_ (Ext.drewN _ _) | refine Ext.trans ?_ (Ext.drew _)))⟩
      · have HV := Lib.hid (shift_over (x := x) b1 b3 b4 hn h)
        have h' : (wrap64 (x * 2 ^ (-n).toNat) / 2 ^ (-n).toNat == x) = false := by simpa using h
        have h'' : (wrap64 (x * 2 ^ (-n).toNat) / 2 ^ (-n).toNat != x) = true := by simpa using h
        clear h
        go_enter Try.func24, Try.ntmps24
        go_wp2_with (first
          | (go_at_call 41; refine (mode_is _ _ _ HM.out).mono ?_; rintro e w1 ⟨rfl, hb1⟩; (first | replace hb := Ext.trans hb hb1 | replace hb := Ext.trans (Ext.trans hb (Ext.drewN _ _)) hb1 | replace hb := Ext.trans (Ext.trans hb (Ext.alloc _ _)) hb1 | have hb := hb1); clear hb1; obtain ⟨hc1, hf1⟩ := hb.old))
        go_ret2
        exact ⟨by rw [HV.out]; rfl, (by repeat (first | exact Ext.refl _ | assumption | exact Ext.alloc _ _ | refine Ext.trans ?_ (by assumption) | refine Ext.trans ?_ (Ext.alloc _ _) | refine Ext.trans ?_ (Ext.drewN _ _) | refine Ext.trans ?_ (Ext.drew _)))⟩

def clip3 (b s x : Int) : Int × Bool × Int := if chkF b s = 0 then (clipF b x, cutF b x, 0) else (0, false, 3)
def bounds3 (b s : Int) : Int × Int × Int := if chkF b s = 0 then (loW b, hiW b, 0) else (0, 0, 3)
abbrev resB (r : Int × Int × Int) : Value := .tuple #[I r.1, I r.2.1, errv r.2.2]

set_option maxHeartbeats 400000 in
theorem clip_any (b s x : Int) (w : World) :
    Calls Try.prog 17 #[fmt b s, I x] w fun e w' => e = .returned (res3 (clip3 b s x)) ∧ Ext w w' := by
  by_cases hv : chkF b s = 0
  · obtain ⟨h1, h2, _, _⟩ := chk_of hv
    have HR := Lib.hid (show clip3 b s x = (clipF b x, cutF b x, 0) by unfold clip3; rw [if_pos hv])
    have HV := Lib.hid hv; clear hv
    go_enter Try.func17, Try.ntmps17
    go_wp2_with (first
      | (go_at_call 19; refine (check_ok _ _ _ HV.out).mono ?_; rintro e w1 ⟨rfl, hb1⟩; (first | replace hb := Ext.trans hb hb1 | replace hb := Ext.trans (Ext.trans hb (Ext.drewN _ _)) hb1 | replace hb := Ext.trans (Ext.trans hb (Ext.alloc _ _)) hb1 | have hb := hb1); clear hb1; obtain ⟨hc1, hf1⟩ := hb.old)
      | (go_at_call 38; refine (saturate_any _ _ _ _ h1 h2).mono ?_; rintro e w1 ⟨rfl, hb1⟩; (first | replace hb := Ext.trans hb hb1 | replace hb := Ext.trans (Ext.trans hb (Ext.drewN _ _)) hb1 | replace hb := Ext.trans (Ext.trans hb (Ext.alloc _ _)) hb1 | have hb := hb1); clear hb1; obtain ⟨hc1, hf1⟩ := hb.old))
    go_ret3
    exact ⟨by rw [HR.out]; rfl, (by repeat (first | exact Ext.refl _ | assumption | exact Ext.alloc _ _ | refine Ext.trans ?_ (by assumption) | refine Ext.trans ?_ (Ext.alloc _ _) | refine Ext.trans ?_ (Ext.drewN _ _) | refine Ext.trans ?_ (Ext.drew _)))⟩
  · have HR := Lib.hid (show clip3 b s x = (0, false, 3) by unfold clip3; rw [if_neg hv])
    have HV := Lib.hid hv; clear hv
    go_enter Try.func17, Try.ntmps17
    go_wp2_with (first
      | (go_at_call 19; refine (check_bad _ _ _ HV.out).mono ?_; rintro e w1 ⟨rfl, hb1⟩; (first | replace hb := Ext.trans hb hb1 | replace hb := Ext.trans (Ext.trans hb (Ext.drewN _ _)) hb1 | replace hb := Ext.trans (Ext.trans hb (Ext.alloc _ _)) hb1 | have hb := hb1); clear hb1; obtain ⟨hc1, hf1⟩ := hb.old))
    go_ret3
    exact ⟨by rw [HR.out]; rfl, (by repeat (first | exact Ext.refl _ | assumption | exact Ext.alloc _ _ | refine Ext.trans ?_ (by assumption) | refine Ext.trans ?_ (Ext.alloc _ _) | refine Ext.trans ?_ (Ext.drewN _ _) | refine Ext.trans ?_ (Ext.drew _)))⟩

set_option maxHeartbeats 400000 in
theorem bounds_any (b s : Int) (w : World) :
    Calls Try.prog 16 #[fmt b s] w fun e w' => e = .returned (resB (bounds3 b s)) ∧ Ext w w' := by
  by_cases hv : chkF b s = 0
  · obtain ⟨h1, h2, _, _⟩ := chk_of hv
    have HR := Lib.hid (show bounds3 b s = (loW b, hiW b, 0) by unfold bounds3; rw [if_pos hv])
    have HV := Lib.hid hv; clear hv
    go_enter Try.func16, Try.ntmps16
    go_wp2_with (first
      | (go_at_call 19; refine (check_ok _ _ _ HV.out).mono ?_; rintro e w1 ⟨rfl, hb1⟩; (first | replace hb := Ext.trans hb hb1 | replace hb := Ext.trans (Ext.trans hb (Ext.drewN _ _)) hb1 | replace hb := Ext.trans (Ext.trans hb (Ext.alloc _ _)) hb1 | have hb := hb1); clear hb1; obtain ⟨hc1, hf1⟩ := hb.old)
      | (go_at_call 37; refine (limits_any _ _ _ h1 h2).mono ?_; rintro e w1 ⟨rfl, hb1⟩; (first | replace hb := Ext.trans hb hb1 | replace hb := Ext.trans (Ext.trans hb (Ext.drewN _ _)) hb1 | replace hb := Ext.trans (Ext.trans hb (Ext.alloc _ _)) hb1 | have hb := hb1); clear hb1; obtain ⟨hc1, hf1⟩ := hb.old))
    go_ret3
    exact ⟨by rw [HR.out]; rfl, (by repeat (first | exact Ext.refl _ | assumption | exact Ext.alloc _ _ | refine Ext.trans ?_ (by assumption) | refine Ext.trans ?_ (Ext.alloc _ _) | refine Ext.trans ?_ (Ext.drewN _ _) | refine Ext.trans ?_ (Ext.drew _)))⟩
  · have HR := Lib.hid (show bounds3 b s = (0, 0, 3) by unfold bounds3; rw [if_neg hv])
    have HV := Lib.hid hv; clear hv
    go_enter Try.func16, Try.ntmps16
    go_wp2_with (first
      | (go_at_call 19; refine (check_bad _ _ _ HV.out).mono ?_; rintro e w1 ⟨rfl, hb1⟩; (first | replace hb := Ext.trans hb hb1 | replace hb := Ext.trans (Ext.trans hb (Ext.drewN _ _)) hb1 | replace hb := Ext.trans (Ext.trans hb (Ext.alloc _ _)) hb1 | have hb := hb1); clear hb1; obtain ⟨hc1, hf1⟩ := hb.old))
    go_ret3
    exact ⟨by rw [HR.out]; rfl, (by repeat (first | exact Ext.refl _ | assumption | exact Ext.alloc _ _ | refine Ext.trans ?_ (by assumption) | refine Ext.trans ?_ (Ext.alloc _ _) | refine Ext.trans ?_ (Ext.drewN _ _) | refine Ext.trans ?_ (Ext.drew _)))⟩

theorem add3_ok {b s x y z : Int} (h : pairF b s x y = 0) : addF b s x y z = (clipF b z, cutF b z, 0) := by unfold addF; rw [if_pos h]
theorem add3_bad {b s x y z : Int} (h : ¬ pairF b s x y = 0) : addF b s x y z = (0, false, 3) := by unfold addF; rw [if_neg h]


set_option maxHeartbeats 400000 in
theorem add_any (b s x y : Int) (w : World) :
    Calls Try.prog 25 #[fmt b s, I x, I y] w fun e w' => e = .returned (res3 (addF b s x y (x + y))) ∧ Ext w w' := by
  by_cases hp : pairF b s x y = 0
  · obtain ⟨hv, hx, hy⟩ := pair_of hp
    obtain ⟨h1, h2, _, _⟩ := chk_of hv
    have bx := inB_bd h2 hx
    have by' := inB_bd h2 hy
    have HR := Lib.hid (add3_ok (z := x + y) hp)
    have HP := Lib.hid hp; clear hp hv hx hy
    go_enter Try.func25, Try.ntmps25
    go_wp2_with (first
      | (go_at_call 43; refine (pair_nil _ _ _ _ _ HP.out).mono ?_; rintro e w1 ⟨rfl, hb1⟩; (first | replace hb := Ext.trans hb hb1 | replace hb := Ext.trans (Ext.trans hb (Ext.drewN _ _)) hb1 | replace hb := Ext.trans (Ext.trans hb (Ext.alloc _ _)) hb1 | have hb := hb1); clear hb1; obtain ⟨hc1, hf1⟩ := hb.old)
      | (go_at_call 38; refine (saturate_any _ _ _ _ h1 h2).mono ?_; rintro e w1 ⟨rfl, hb1⟩; (first | replace hb := Ext.trans hb hb1 | replace hb := Ext.trans (Ext.trans hb (Ext.drewN _ _)) hb1 | replace hb := Ext.trans (Ext.trans hb (Ext.alloc _ _)) hb1 | have hb := hb1); clear hb1; obtain ⟨hc1, hf1⟩ := hb.old))
    go_ret3
    exact ⟨by rw [HR.out]; rfl, (by repeat (first | exact Ext.refl _ | assumption | exact Ext.alloc _ _ | refine Ext.trans ?_ (by assumption) | refine Ext.trans ?_ (Ext.alloc _ _) | refine Ext.trans ?_ (Ext.drewN _ _) | refine Ext.trans ?_ (Ext.drew _)))⟩
  · have HR := Lib.hid (add3_bad (z := x + y) hp)
    have HP := Lib.hid hp; clear hp
    go_enter Try.func25, Try.ntmps25
    go_wp2_with (first
      | (go_at_call 43; refine (pair_err _ _ _ _ _ HP.out).mono ?_; rintro e w1 ⟨rfl, hb1⟩; (first | replace hb := Ext.trans hb hb1 | replace hb := Ext.trans (Ext.trans hb (Ext.drewN _ _)) hb1 | replace hb := Ext.trans (Ext.trans hb (Ext.alloc _ _)) hb1 | have hb := hb1); clear hb1; obtain ⟨hc1, hf1⟩ := hb.old))
    go_ret3
    exact ⟨by rw [HR.out]; rfl, (by repeat (first | exact Ext.refl _ | assumption | exact Ext.alloc _ _ | refine Ext.trans ?_ (by assumption) | refine Ext.trans ?_ (Ext.alloc _ _) | refine Ext.trans ?_ (Ext.drewN _ _) | refine Ext.trans ?_ (Ext.drew _)))⟩

set_option maxHeartbeats 400000 in
theorem radd_any (b s x y : Int) (w : World) :
    Calls Try.prog 26 #[fmt b s, I x, I y] w fun e w' => e = .returned (ref3 (addF b s x y (x + y))) ∧ Ext w w' := by
  by_cases hp : pairF b s x y = 0
  · obtain ⟨hv, hx, hy⟩ := pair_of hp
    obtain ⟨h1, h2, _, _⟩ := chk_of hv
    have bx := inB_bd h2 hx
    have by' := inB_bd h2 hy
    have HR := Lib.hid (add3_ok (z := x + y) hp)
    have ix : isF b s x = true := by rw [isF_ok hv, hx]
    have iy : isF b s y = true := by rw [isF_ok hv, hy]
    clear hp hv hx hy
    go_enter Try.func26, Try.ntmps26
    go_wp2_with (first
      | (go_at_call 44; refine (is_any _ _ _ _).mono ?_; rintro e w1 ⟨rfl, hb1⟩; (first | replace hb := Ext.trans hb hb1 | replace hb := Ext.trans (Ext.trans hb (Ext.drewN _ _)) hb1 | replace hb := Ext.trans (Ext.trans hb (Ext.alloc _ _)) hb1 | have hb := hb1); clear hb1; obtain ⟨hc1, hf1⟩ := hb.old)
      | (go_at_call 20; refine (rclip_any _ _ _ _ h1 h2).mono ?_; rintro e w1 ⟨rfl, hb1⟩; (first | replace hb := Ext.trans hb hb1 | replace hb := Ext.trans (Ext.trans hb (Ext.drewN _ _)) hb1 | replace hb := Ext.trans (Ext.trans hb (Ext.alloc _ _)) hb1 | have hb := hb1); clear hb1; obtain ⟨hc1, hf1⟩ := hb.old))
    go_ret3
    exact ⟨by rw [HR.out]; rfl, (by repeat (first | exact Ext.refl _ | assumption | exact Ext.alloc _ _ | refine Ext.trans ?_ (by assumption) | refine Ext.trans ?_ (Ext.alloc _ _) | refine Ext.trans ?_ (Ext.drewN _ _) | refine Ext.trans ?_ (Ext.drew _)))⟩
  · have HR := Lib.hid (add3_bad (z := x + y) hp)
    by_cases ix : isF b s x = true
    · have iy : isF b s y = false := by
        by_cases hv : chkF b s = 0
        · rw [isF_ok hv] at ix ⊢
          cases hy : inB b y with
          | false => rfl
          | true => exact absurd (pair_ok hv ix hy) hp
        · exact isF_bad hv
      clear hp
      go_enter Try.func26, Try.ntmps26
      go_wp2_with (first
        | (go_at_call 44; refine (is_any _ _ _ _).mono ?_; rintro e w1 ⟨rfl, hb1⟩; (first | replace hb := Ext.trans hb hb1 | replace hb := Ext.trans (Ext.trans hb (Ext.drewN _ _)) hb1 | replace hb := Ext.trans (Ext.trans hb (Ext.alloc _ _)) hb1 | have hb := hb1); clear hb1; obtain ⟨hc1, hf1⟩ := hb.old))
      go_ret3
      exact ⟨by rw [HR.out]; rfl, (by repeat (first | exact Ext.refl _ | assumption | exact Ext.alloc _ _ | refine Ext.trans ?_ (by assumption) | refine Ext.trans ?_ (Ext.alloc _ _) | refine Ext.trans ?_ (Ext.drewN _ _) | refine Ext.trans ?_ (Ext.drew _)))⟩
    · clear hp
      replace ix : isF b s x = false := by simpa using ix
      go_enter Try.func26, Try.ntmps26
      go_wp2_with (first
        | (go_at_call 44; refine (is_any _ _ _ _).mono ?_; rintro e w1 ⟨rfl, hb1⟩; (first | replace hb := Ext.trans hb hb1 | replace hb := Ext.trans (Ext.trans hb (Ext.drewN _ _)) hb1 | replace hb := Ext.trans (Ext.trans hb (Ext.alloc _ _)) hb1 | have hb := hb1); clear hb1; obtain ⟨hc1, hf1⟩ := hb.old))
      go_ret3
      exact ⟨by rw [HR.out]; rfl, (by repeat (first | exact Ext.refl _ | assumption | exact Ext.alloc _ _ | refine Ext.trans ?_ (by assumption) | refine Ext.trans ?_ (Ext.alloc _ _) | refine Ext.trans ?_ (Ext.drewN _ _) | refine Ext.trans ?_ (Ext.drew _)))⟩


set_option maxHeartbeats 400000 in
theorem sub_any (b s x y : Int) (w : World) :
    Calls Try.prog 27 #[fmt b s, I x, I y] w fun e w' => e = .returned (res3 (addF b s x y (x - y))) ∧ Ext w w' := by
  by_cases hp : pairF b s x y = 0
  · obtain ⟨hv, hx, hy⟩ := pair_of hp
    obtain ⟨h1, h2, _, _⟩ := chk_of hv
    have bx := inB_bd h2 hx
    have by' := inB_bd h2 hy
    have HR := Lib.hid (add3_ok (z := x - y) hp)
    have HP := Lib.hid hp; clear hp hv hx hy
    go_enter Try.func27, Try.ntmps27
    go_wp2_with (first
      | (go_at_call 43; refine (pair_nil _ _ _ _ _ HP.out).mono ?_; rintro e w1 ⟨rfl, hb1⟩; (first | replace hb := Ext.trans hb hb1 | replace hb := Ext.trans (Ext.trans hb (Ext.drewN _ _)) hb1 | replace hb := Ext.trans (Ext.trans hb (Ext.alloc _ _)) hb1 | have hb := hb1); clear hb1; obtain ⟨hc1, hf1⟩ := hb.old)
      | (go_at_call 38; refine (saturate_any _ _ _ _ h1 h2).mono ?_; rintro e w1 ⟨rfl, hb1⟩; (first | replace hb := Ext.trans hb hb1 | replace hb := Ext.trans (Ext.trans hb (Ext.drewN _ _)) hb1 | replace hb := Ext.trans (Ext.trans hb (Ext.alloc _ _)) hb1 | have hb := hb1); clear hb1; obtain ⟨hc1, hf1⟩ := hb.old))
    go_ret3
    exact ⟨by rw [HR.out]; rfl, (by repeat (first | exact Ext.refl _ | assumption | exact Ext.alloc _ _ | refine Ext.trans ?_ (by assumption) | refine Ext.trans ?_ (Ext.alloc _ _) | refine Ext.trans ?_ (Ext.drewN _ _) | refine Ext.trans ?_ (Ext.drew _)))⟩
  · have HR := Lib.hid (add3_bad (z := x - y) hp)
    have HP := Lib.hid hp; clear hp
    go_enter Try.func27, Try.ntmps27
    go_wp2_with (first
      | (go_at_call 43; refine (pair_err _ _ _ _ _ HP.out).mono ?_; rintro e w1 ⟨rfl, hb1⟩; (first | replace hb := Ext.trans hb hb1 | replace hb := Ext.trans (Ext.trans hb (Ext.drewN _ _)) hb1 | replace hb := Ext.trans (Ext.trans hb (Ext.alloc _ _)) hb1 | have hb := hb1); clear hb1; obtain ⟨hc1, hf1⟩ := hb.old))
    go_ret3
    exact ⟨by rw [HR.out]; rfl, (by repeat (first | exact Ext.refl _ | assumption | exact Ext.alloc _ _ | refine Ext.trans ?_ (by assumption) | refine Ext.trans ?_ (Ext.alloc _ _) | refine Ext.trans ?_ (Ext.drewN _ _) | refine Ext.trans ?_ (Ext.drew _)))⟩

set_option maxHeartbeats 400000 in
theorem rsub_any (b s x y : Int) (w : World) :
    Calls Try.prog 28 #[fmt b s, I x, I y] w fun e w' => e = .returned (ref3 (addF b s x y (x - y))) ∧ Ext w w' := by
  by_cases hp : pairF b s x y = 0
  · obtain ⟨hv, hx, hy⟩ := pair_of hp
    obtain ⟨h1, h2, _, _⟩ := chk_of hv
    have bx := inB_bd h2 hx
    have by' := inB_bd h2 hy
    have HR := Lib.hid (add3_ok (z := x - y) hp)
    have ix : isF b s x = true := by rw [isF_ok hv, hx]
    have iy : isF b s y = true := by rw [isF_ok hv, hy]
    clear hp hv hx hy
    go_enter Try.func28, Try.ntmps28
    go_wp2_with (first
      | (go_at_call 44; refine (is_any _ _ _ _).mono ?_; rintro e w1 ⟨rfl, hb1⟩; (first | replace hb := Ext.trans hb hb1 | replace hb := Ext.trans (Ext.trans hb (Ext.drewN _ _)) hb1 | replace hb := Ext.trans (Ext.trans hb (Ext.alloc _ _)) hb1 | have hb := hb1); clear hb1; obtain ⟨hc1, hf1⟩ := hb.old)
      | (go_at_call 20; refine (rclip_any _ _ _ _ h1 h2).mono ?_; rintro e w1 ⟨rfl, hb1⟩; (first | replace hb := Ext.trans hb hb1 | replace hb := Ext.trans (Ext.trans hb (Ext.drewN _ _)) hb1 | replace hb := Ext.trans (Ext.trans hb (Ext.alloc _ _)) hb1 | have hb := hb1); clear hb1; obtain ⟨hc1, hf1⟩ := hb.old))
    go_ret3
    exact ⟨by rw [HR.out]; rfl, (by repeat (first | exact Ext.refl _ | assumption | exact Ext.alloc _ _ | refine Ext.trans ?_ (by assumption) | refine Ext.trans ?_ (Ext.alloc _ _) | refine Ext.trans ?_ (Ext.drewN _ _) | refine Ext.trans ?_ (Ext.drew _)))⟩
  · have HR := Lib.hid (add3_bad (z := x - y) hp)
    by_cases ix : isF b s x = true
    · have iy : isF b s y = false := by
        by_cases hv : chkF b s = 0
        · rw [isF_ok hv] at ix ⊢
          cases hy : inB b y with
          | false => rfl
          | true => exact absurd (pair_ok hv ix hy) hp
        · exact isF_bad hv
      clear hp
      go_enter Try.func28, Try.ntmps28
      go_wp2_with (first
        | (go_at_call 44; refine (is_any _ _ _ _).mono ?_; rintro e w1 ⟨rfl, hb1⟩; (first | replace hb := Ext.trans hb hb1 | replace hb := Ext.trans (Ext.trans hb (Ext.drewN _ _)) hb1 | replace hb := Ext.trans (Ext.trans hb (Ext.alloc _ _)) hb1 | have hb := hb1); clear hb1; obtain ⟨hc1, hf1⟩ := hb.old))
      go_ret3
      exact ⟨by rw [HR.out]; rfl, (by repeat (first | exact Ext.refl _ | assumption | exact Ext.alloc _ _ | refine Ext.trans ?_ (by assumption) | refine Ext.trans ?_ (Ext.alloc _ _) | refine Ext.trans ?_ (Ext.drewN _ _) | refine Ext.trans ?_ (Ext.drew _)))⟩
    · clear hp
      replace ix : isF b s x = false := by simpa using ix
      go_enter Try.func28, Try.ntmps28
      go_wp2_with (first
        | (go_at_call 44; refine (is_any _ _ _ _).mono ?_; rintro e w1 ⟨rfl, hb1⟩; (first | replace hb := Ext.trans hb hb1 | replace hb := Ext.trans (Ext.trans hb (Ext.drewN _ _)) hb1 | replace hb := Ext.trans (Ext.trans hb (Ext.alloc _ _)) hb1 | have hb := hb1); clear hb1; obtain ⟨hc1, hf1⟩ := hb.old))
      go_ret3
      exact ⟨by rw [HR.out]; rfl, (by repeat (first | exact Ext.refl _ | assumption | exact Ext.alloc _ _ | refine Ext.trans ?_ (by assumption) | refine Ext.trans ?_ (Ext.alloc _ _) | refine Ext.trans ?_ (Ext.drewN _ _) | refine Ext.trans ?_ (Ext.drew _)))⟩

end Go.Proofs.Ytfllhbebackbdaa
