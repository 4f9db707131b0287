/- Contracts of the functions of package word and of its reference, third part. -/
import Derived.Test.YtfllhbebackbdaaWordb
namespace Go.Proofs.Ytfllhbebackbdaa
open Go.RowKit

theorem isF_bad {b s x : Int} (h : ¬ chkF b s = 0) : isF b s x = false := by unfold isF; rw [beq_eq_false_iff_ne.2 h]; rfl
theorem isF_ok {b s x : Int} (h : chkF b s = 0) : isF b s x = inB b x := by unfold isF; rw [h]; rfl
theorem inB_iff {b x : Int} : inB b x = true ↔ loW b ≤ x ∧ x ≤ hiW b := by unfold inB; simp

set_option maxHeartbeats 400000 in
theorem is_any (b s x : Int) (w : World) :
    Calls Try.prog 44 #[fmt b s, I x] w fun e w' => e = .returned (.bool (isF b s x)) ∧ Ext w w' := by
  by_cases hv : chkF b s = 0
  · have hv' : (chkF b s == 0) = true := by simpa using hv
    obtain ⟨h1, h2, _, _⟩ := chk_of hv
    have HV := Lib.hid hv; clear hv
    by_cases hlo : loW b ≤ x
    · go_enter Try.func44, Try.ntmps44
      go_wp2_with (first
        | (go_at_call 15; refine (rcheck_any _ _ _).mono ?_; rintro e w1 ⟨rfl, hb1⟩; (first | replace hb := Ext.trans hb hb1 | replace hb := Ext.trans (Ext.trans hb (Ext.drewN _ _)) hb1 | replace hb := Ext.trans (Ext.trans hb (Ext.alloc _ _)) hb1 | have hb := hb1); clear hb1; obtain ⟨hc1, hf1⟩ := hb.old)
        | (go_at_call 21; refine (least_any _ _ _ h1 h2).mono ?_; rintro e w1 ⟨rfl, hb1⟩; (first | replace hb := Ext.trans hb hb1 | replace hb := Ext.trans (Ext.trans hb (Ext.drewN _ _)) hb1 | replace hb := Ext.trans (Ext.trans hb (Ext.alloc _ _)) hb1 | have hb := hb1); clear hb1; obtain ⟨hc1, hf1⟩ := hb.old)
        | (go_at_call 22; refine (greatest_any _ _ _ h1 h2).mono ?_; rintro e w1 ⟨rfl, hb1⟩; (first | replace hb := Ext.trans hb hb1 | replace hb := Ext.trans (Ext.trans hb (Ext.drewN _ _)) hb1 | replace hb := Ext.trans (Ext.trans hb (Ext.alloc _ _)) hb1 | have hb := hb1); clear hb1; obtain ⟨hc1, hf1⟩ := hb.old))
      all_goals (go_ret; exact ⟨by rw [isF_ok HV.out]; simp [inB, hlo], (by repeat (first | exact Ext.refl _ | assumption | exact Ext.alloc _ _ | refine Ext.trans ?_ (by assumption) | refine Ext.trans ?_ (Ext.alloc _ _) | refine Ext.trans ?_ (Ext.drewN _ _) | refine Ext.trans ?_ (Ext.drew _)))⟩)
    · go_enter Try.func44, Try.ntmps44
      go_wp2_with (first
        | (go_at_call 15; refine (rcheck_any _ _ _).mono ?_; rintro e w1 ⟨rfl, hb1⟩; (first | replace hb := Ext.trans hb hb1 | replace hb := Ext.trans (Ext.trans hb (Ext.drewN _ _)) hb1 | replace hb := Ext.trans (Ext.trans hb (Ext.alloc _ _)) hb1 | have hb := hb1); clear hb1; obtain ⟨hc1, hf1⟩ := hb.old)
        | (go_at_call 21; refine (least_any _ _ _ h1 h2).mono ?_; rintro e w1 ⟨rfl, hb1⟩; (first | replace hb := Ext.trans hb hb1 | replace hb := Ext.trans (Ext.trans hb (Ext.drewN _ _)) hb1 | replace hb := Ext.trans (Ext.trans hb (Ext.alloc _ _)) hb1 | have hb := hb1); clear hb1; obtain ⟨hc1, hf1⟩ := hb.old)
        | (go_at_call 22; refine (greatest_any _ _ _ h1 h2).mono ?_; rintro e w1 ⟨rfl, hb1⟩; (first | replace hb := Ext.trans hb hb1 | replace hb := Ext.trans (Ext.trans hb (Ext.drewN _ _)) hb1 | replace hb := Ext.trans (Ext.trans hb (Ext.alloc _ _)) hb1 | have hb := hb1); clear hb1; obtain ⟨hc1, hf1⟩ := hb.old))
      all_goals (go_ret; exact ⟨by rw [isF_ok HV.out]; simp [inB] <;> omega, (by repeat (first | exact Ext.refl _ | assumption | exact Ext.alloc _ _ | refine Ext.trans ?_ (by assumption) | refine Ext.trans ?_ (Ext.alloc _ _) | refine Ext.trans ?_ (Ext.drewN _ _) | refine Ext.trans ?_ (Ext.drew _)))⟩)
  · have hv' : (chkF b s == 0) = false := by simpa using hv
    have HV := Lib.hid hv; clear hv
    go_enter Try.func44, Try.ntmps44
    go_wp2_with (first
      | (go_at_call 15; refine (rcheck_any _ _ _).mono ?_; rintro e w1 ⟨rfl, hb1⟩; (first | replace hb := Ext.trans hb hb1 | replace hb := Ext.trans (Ext.trans hb (Ext.drewN _ _)) hb1 | replace hb := Ext.trans (Ext.trans hb (Ext.alloc _ _)) hb1 | have hb := hb1); clear hb1; obtain ⟨hc1, hf1⟩ := hb.old))
    go_ret
    exact ⟨by rw [isF_bad HV.out]; rfl, (by repeat (first | exact Ext.refl _ | assumption | exact Ext.alloc _ _ | refine Ext.trans ?_ (by assumption) | refine Ext.trans ?_ (Ext.alloc _ _) | refine Ext.trans ?_ (Ext.drewN _ _) | refine Ext.trans ?_ (Ext.drew _)))⟩

theorem pair_ok {b s x y : Int} (h : chkF b s = 0) (hx : inB b x = true) (hy : inB b y = true) : pairF b s x y = 0 := by unfold pairF; rw [if_pos ⟨h, hx, hy⟩]
theorem pair_bad {b s x y : Int} (h : ¬ (chkF b s = 0 ∧ inB b x = true ∧ inB b y = true)) : pairF b s x y = 3 := by unfold pairF; rw [if_neg h]

set_option maxHeartbeats 400000 in
theorem pair_any (b s x y : Int) (w : World) :
    Calls Try.prog 43 #[fmt b s, I x, I y] w fun e w' => e = .returned (errv (pairF b s x y)) ∧ Ext w w' := by
  by_cases hv : chkF b s = 0
  · obtain ⟨h1, h2, _, _⟩ := chk_of hv
    by_cases hx : inB b x = true
    · by_cases hy : inB b y = true
      · have H := Lib.hid (pair_ok hv hx hy)
        have HV := Lib.hid hv; clear hv
        go_enter Try.func43, Try.ntmps43
        go_wp2_with (first
          | (go_at_call 19; refine (check_ok _ _ _ HV.out).mono ?_; rintro e w1 ⟨rfl, hb1⟩; (first | replace hb := Ext.trans hb hb1 | replace hb := Ext.trans (Ext.trans hb (Ext.drewN _ _)) hb1 | replace hb := Ext.trans (Ext.trans hb (Ext.alloc _ _)) hb1 | have hb := hb1); clear hb1; obtain ⟨hc1, hf1⟩ := hb.old)
          | (go_at_call 48; refine (isWord_any _ _ _ _ h1 h2).mono ?_; rintro e w1 ⟨rfl, hb1⟩; (first | replace hb := Ext.trans hb hb1 | replace hb := Ext.trans (Ext.trans hb (Ext.drewN _ _)) hb1 | replace hb := Ext.trans (Ext.trans hb (Ext.alloc _ _)) hb1 | have hb := hb1); clear hb1; obtain ⟨hc1, hf1⟩ := hb.old))
        go_ret
        exact ⟨by rw [H.out]; rfl, (by repeat (first | exact Ext.refl _ | assumption | exact Ext.alloc _ _ | refine Ext.trans ?_ (by assumption) | refine Ext.trans ?_ (Ext.alloc _ _) | refine Ext.trans ?_ (Ext.drewN _ _) | refine Ext.trans ?_ (Ext.drew _)))⟩
      · have H := Lib.hid (pair_bad (b := b) (s := s) (x := x) (y := y) (by simp [hy]))
        have HV := Lib.hid hv; clear hv
        replace hy : inB b y = false := by simpa using hy
        go_enter Try.func43, Try.ntmps43
        go_wp2_with (first
          | (go_at_call 19; refine (check_ok _ _ _ HV.out).mono ?_; rintro e w1 ⟨rfl, hb1⟩; (first | replace hb := Ext.trans hb hb1 | replace hb := Ext.trans (Ext.trans hb (Ext.drewN _ _)) hb1 | replace hb := Ext.trans (Ext.trans hb (Ext.alloc _ _)) hb1 | have hb := hb1); clear hb1; obtain ⟨hc1, hf1⟩ := hb.old)
          | (go_at_call 48; refine (isWord_any _ _ _ _ h1 h2).mono ?_; rintro e w1 ⟨rfl, hb1⟩; (first | replace hb := Ext.trans hb hb1 | replace hb := Ext.trans (Ext.trans hb (Ext.drewN _ _)) hb1 | replace hb := Ext.trans (Ext.trans hb (Ext.alloc _ _)) hb1 | have hb := hb1); clear hb1; obtain ⟨hc1, hf1⟩ := hb.old))
        go_ret
        exact ⟨by rw [H.out]; rfl, (by repeat (first | exact Ext.refl _ | assumption | exact Ext.alloc _ _ | refine Ext.trans ?_ (by assumption) | refine Ext.trans ?_ (Ext.alloc _ _) | refine Ext.trans ?_ (Ext.drewN _ _) | refine Ext.trans ?_ (Ext.drew _)))⟩
    · have H := Lib.hid (pair_bad (b := b) (s := s) (x := x) (y := y) (by simp [hx]))
      have HV := Lib.hid hv; clear hv
      replace hx : inB b x = false := by simpa using hx
      go_enter Try.func43, Try.ntmps43
      go_wp2_with (first
        | (go_at_call 19; refine (check_ok _ _ _ HV.out).mono ?_; rintro e w1 ⟨rfl, hb1⟩; (first | replace hb := Ext.trans hb hb1 | replace hb := Ext.trans (Ext.trans hb (Ext.drewN _ _)) hb1 | replace hb := Ext.trans (Ext.trans hb (Ext.alloc _ _)) hb1 | have hb := hb1); clear hb1; obtain ⟨hc1, hf1⟩ := hb.old)
        | (go_at_call 48; refine (isWord_any _ _ _ _ h1 h2).mono ?_; rintro e w1 ⟨rfl, hb1⟩; (first | replace hb := Ext.trans hb hb1 | replace hb := Ext.trans (Ext.trans hb (Ext.drewN _ _)) hb1 | replace hb := Ext.trans (Ext.trans hb (Ext.alloc _ _)) hb1 | have hb := hb1); clear hb1; obtain ⟨hc1, hf1⟩ := hb.old))
      go_ret
      exact ⟨by rw [H.out]; rfl, (by repeat (first | exact Ext.refl _ | assumption | exact Ext.alloc _ _ | refine Ext.trans ?_ (by assumption) | refine Ext.trans ?_ (Ext.alloc _ _) | refine Ext.trans ?_ (Ext.drewN _ _) | refine Ext.trans ?_ (Ext.drew _)))⟩
  · have H := Lib.hid (pair_bad (b := b) (s := s) (x := x) (y := y) (by simp [hv]))
    have HV := Lib.hid hv; clear hv
    go_enter Try.func43, Try.ntmps43
    go_wp2_with (first
      | (go_at_call 19; refine (check_bad _ _ _ HV.out).mono ?_; rintro e w1 ⟨rfl, hb1⟩; (first | replace hb := Ext.trans hb hb1 | replace hb := Ext.trans (Ext.trans hb (Ext.drewN _ _)) hb1 | replace hb := Ext.trans (Ext.trans hb (Ext.alloc _ _)) hb1 | have hb := hb1); clear hb1; obtain ⟨hc1, hf1⟩ := hb.old))
    go_ret
    exact ⟨by rw [H.out]; rfl, (by repeat (first | exact Ext.refl _ | assumption | exact Ext.alloc _ _ | refine Ext.trans ?_ (by assumption) | refine Ext.trans ?_ (Ext.alloc _ _) | refine Ext.trans ?_ (Ext.drewN _ _) | refine Ext.trans ?_ (Ext.drew _)))⟩

theorem pair_nil (b s x y : Int) (w : World) (h : pairF b s x y = 0) : Calls Try.prog 43 #[fmt b s, I x, I y] w fun e w' => e = .returned .nilIface ∧ Ext w w' :=
  (pair_any b s x y w).mono fun _ _ ⟨he, hw⟩ => ⟨by rw [he, h]; rfl, hw⟩
theorem pair_err (b s x y : Int) (w : World) (h : ¬ pairF b s x y = 0) : Calls Try.prog 43 #[fmt b s, I x, I y] w fun e w' => e = .returned (.iface 68 (I 3)) ∧ Ext w w' :=
  (pair_any b s x y w).mono fun _ _ ⟨he, hw⟩ => ⟨by rw [he, pair_bad (fun hh => h (pair_ok hh.1 hh.2.1 hh.2.2))]; rfl, hw⟩
theorem pair_of {b s x y : Int} (h : pairF b s x y = 0) : chkF b s = 0 ∧ inB b x = true ∧ inB b y = true := by
  unfold pairF at h; split at h
  · assumption
  · cases h
theorem pair_3 {b s x y : Int} (h : ¬ pairF b s x y = 0) : pairF b s x y = 3 := by
  unfold pairF at *; split
  · rename_i hh; rw [if_pos hh] at h; exact absurd rfl h
  · rfl

end Go.Proofs.Ytfllhbebackbdaa
