/- Contracts of package angle, second part: Middle, Interp, Unwrap, Electric, and of their references. -/
import Derived.Test.YtfjkijpfkpcjdaaAngb
namespace Go.Proofs.Ytfjkijpfkpcjdaa
open Go.RowKit

abbrev resB (r : Int × Bool) : Value := .tuple #[I r.1, .bool r.2]
/-- max of three, as the walk spells it. -/
theorem near_or {a b c : Int} (h : ¬ near3 a b c) : 16384 ≤ dst a b ∨ 16384 ≤ dst b c ∨ 16384 ≤ dst c a := by
  have e := dst_symm a c
  have h' : ¬ (dst a b < 16384 ∧ dst b c < 16384 ∧ dst a c < 16384) := h
  rw [e] at h'; omega
theorem near_and {a b c : Int} (h : near3 a b c) : dst a b < 16384 ∧ dst b c < 16384 ∧ dst c a < 16384 := by
  have e := dst_symm a c
  have h' : dst a b < 16384 ∧ dst b c < 16384 ∧ dst a c < 16384 := h
  rw [e] at h'; exact h'

set_option maxHeartbeats 1000000 in
theorem middle_any (a b c : Int) (w : World) : Calls Try.prog 24 #[I a, I b, I c] w fun e w' => e = .returned (resB (mid a b c)) ∧ Ext w w' := by
  obtain ⟨x0, x1⟩ := dst_bd a b
  obtain ⟨y0, y1⟩ := dst_bd b c
  obtain ⟨z0, z1⟩ := dst_bd c a
  have e := dst_symm a c
  by_cases hn : near3 a b c
  · obtain ⟨n1, n2, n3⟩ := near_and hn
    have HN := Lib.hid (mid_t hn); clear hn
    have HM : Hid (mid a b c = (mdl (dst a b) (dst b c) (dst c a) (nrm a) (nrm b) (nrm c), true)) := by show mid a b c = _; rw [HN.out, e]
    have E := Lib.hid e; clear e
    by_cases h1 : dst c a ≤ dst b c ∧ dst a b ≤ dst b c
    · have HV := Lib.hid (mdl_a (A := nrm a) (B := nrm b) (C := nrm c) h1.1 h1.2)
      obtain ⟨h2, h3⟩ := h1
      by_cases h4 : dst a b < dst b c
      all_goals
        by_cases h5 : dst b c < dst c a
        · omega
        · go_enter Try.func24, Try.ntmps24
          go_wp2_with (first | (go_at_call 18; refine (dist_any _ _ _).mono ?_; rintro e w1 ⟨rfl, hb1⟩; (first | replace hb := Ext.trans hb hb1 | replace hb := Ext.trans (Ext.trans hb (Ext.drewN _ _)) hb1 | replace hb := Ext.trans (Ext.trans hb (Ext.alloc _ _)) hb1 | have hb := hb1); clear hb1; obtain ⟨hc1, hf1⟩ := hb.old) | (go_at_call 14; refine (norm_any _ _).mono ?_; rintro e w1 ⟨rfl, hb1⟩; (first | replace hb := Ext.trans hb hb1 | replace hb := Ext.trans (Ext.trans hb (Ext.drewN _ _)) hb1 | replace hb := Ext.trans (Ext.trans hb (Ext.alloc _ _)) hb1 | have hb := hb1); clear hb1; obtain ⟨hc1, hf1⟩ := hb.old))
          all_goals (go_ret2; exact ⟨by rw [HM.out, HV.out]; rfl, (by repeat (first | exact Ext.refl _ | assumption | exact Ext.alloc _ _ | refine Ext.trans ?_ (by assumption) | refine Ext.trans ?_ (Ext.alloc _ _) | refine Ext.trans ?_ (Ext.drewN _ _) | refine Ext.trans ?_ (Ext.drew _)))⟩)
    · by_cases h2 : dst a b ≤ dst c a
      · have HV := Lib.hid (mdl_b (A := nrm a) (B := nrm b) (C := nrm c) h1 h2)
        have h3 : dst b c < dst c a := by omega
        clear h1
        by_cases h4 : dst a b < dst b c
        all_goals
          go_enter Try.func24, Try.ntmps24
          go_wp2_with (first | (go_at_call 18; refine (dist_any _ _ _).mono ?_; rintro e w1 ⟨rfl, hb1⟩; (first | replace hb := Ext.trans hb hb1 | replace hb := Ext.trans (Ext.trans hb (Ext.drewN _ _)) hb1 | replace hb := Ext.trans (Ext.trans hb (Ext.alloc _ _)) hb1 | have hb := hb1); clear hb1; obtain ⟨hc1, hf1⟩ := hb.old) | (go_at_call 14; refine (norm_any _ _).mono ?_; rintro e w1 ⟨rfl, hb1⟩; (first | replace hb := Ext.trans hb hb1 | replace hb := Ext.trans (Ext.trans hb (Ext.drewN _ _)) hb1 | replace hb := Ext.trans (Ext.trans hb (Ext.alloc _ _)) hb1 | have hb := hb1); clear hb1; obtain ⟨hc1, hf1⟩ := hb.old))
          all_goals (go_ret2; exact ⟨by rw [HM.out, HV.out]; rfl, (by repeat (first | exact Ext.refl _ | assumption | exact Ext.alloc _ _ | refine Ext.trans ?_ (by assumption) | refine Ext.trans ?_ (Ext.alloc _ _) | refine Ext.trans ?_ (Ext.drewN _ _) | refine Ext.trans ?_ (Ext.drew _)))⟩)
      · have HV := Lib.hid (mdl_c (A := nrm a) (B := nrm b) (C := nrm c) h1 h2)
        have h3 : dst b c < dst a b := by omega
        clear h1
        by_cases h4 : dst b c < dst c a
        all_goals
          go_enter Try.func24, Try.ntmps24
          go_wp2_with (first | (go_at_call 18; refine (dist_any _ _ _).mono ?_; rintro e w1 ⟨rfl, hb1⟩; (first | replace hb := Ext.trans hb hb1 | replace hb := Ext.trans (Ext.trans hb (Ext.drewN _ _)) hb1 | replace hb := Ext.trans (Ext.trans hb (Ext.alloc _ _)) hb1 | have hb := hb1); clear hb1; obtain ⟨hc1, hf1⟩ := hb.old) | (go_at_call 14; refine (norm_any _ _).mono ?_; rintro e w1 ⟨rfl, hb1⟩; (first | replace hb := Ext.trans hb hb1 | replace hb := Ext.trans (Ext.trans hb (Ext.drewN _ _)) hb1 | replace hb := Ext.trans (Ext.trans hb (Ext.alloc _ _)) hb1 | have hb := hb1); clear hb1; obtain ⟨hc1, hf1⟩ := hb.old))
          all_goals (go_ret2; exact ⟨by rw [HM.out, HV.out]; rfl, (by repeat (first | exact Ext.refl _ | assumption | exact Ext.alloc _ _ | refine Ext.trans ?_ (by assumption) | refine Ext.trans ?_ (Ext.alloc _ _) | refine Ext.trans ?_ (Ext.drewN _ _) | refine Ext.trans ?_ (Ext.drew _)))⟩)
  · have h := near_or hn
    have HN := Lib.hid (mid_f hn); clear hn
    have E := Lib.hid e; clear e
    by_cases h4 : dst a b < dst b c
    all_goals
      by_cases h5 : dst b c < dst c a
      all_goals
        by_cases h6 : dst a b < dst c a
        all_goals
          first
            | omega
            | (go_enter Try.func24, Try.ntmps24
               go_wp2_with (first | (go_at_call 18; refine (dist_any _ _ _).mono ?_; rintro e w1 ⟨rfl, hb1⟩; (first | replace hb := Ext.trans hb hb1 | replace hb := Ext.trans (Ext.trans hb (Ext.drewN _ _)) hb1 | replace hb := Ext.trans (Ext.trans hb (Ext.alloc _ _)) hb1 | have hb := hb1); clear hb1; obtain ⟨hc1, hf1⟩ := hb.old) | (go_at_call 14; refine (norm_any _ _).mono ?_; rintro e w1 ⟨rfl, hb1⟩; (first | replace hb := Ext.trans hb hb1 | replace hb := Ext.trans (Ext.trans hb (Ext.drewN _ _)) hb1 | replace hb := Ext.trans (Ext.trans hb (Ext.alloc _ _)) hb1 | have hb := hb1); clear hb1; obtain ⟨hc1, hf1⟩ := hb.old))
               all_goals (go_ret2; exact ⟨by rw [HN.out]; rfl, (by repeat (first | exact Ext.refl _ | assumption | exact Ext.alloc _ _ | refine Ext.trans ?_ (by assumption) | refine Ext.trans ?_ (Ext.alloc _ _) | refine Ext.trans ?_ (Ext.drewN _ _) | refine Ext.trans ?_ (Ext.drew _)))⟩))

set_option maxHeartbeats 1000000 in
theorem rmiddle_any (a b c : Int) (w : World) : Calls Try.prog 25 #[I a, I b, I c] w fun e w' => e = .returned (resB (mid a b c)) ∧ Ext w w' := by
  obtain ⟨x0, x1⟩ := dst_bd a b
  obtain ⟨y0, y1⟩ := dst_bd b c
  obtain ⟨z0, z1⟩ := dst_bd a c
  by_cases hn : near3 a b c
  · have HM := Lib.hid (mid_t hn)
    obtain ⟨n1, n2, n3⟩ := hn
    by_cases h1 : dst a c ≤ dst b c ∧ dst a b ≤ dst b c
    · have HV := Lib.hid (mdl_a (A := nrm a) (B := nrm b) (C := nrm c) h1.1 h1.2)
      obtain ⟨h2, h3⟩ := h1
      by_cases h4 : dst a b < dst b c
      all_goals
        by_cases h5 : dst b c < dst a c
        · omega
        · go_enter Try.func25, Try.ntmps25
          go_wp2_with (first | (go_at_call 19; refine (rdist_any _ _ _).mono ?_; rintro e w1 ⟨rfl, hb1⟩; (first | replace hb := Ext.trans hb hb1 | replace hb := Ext.trans (Ext.trans hb (Ext.drewN _ _)) hb1 | replace hb := Ext.trans (Ext.trans hb (Ext.alloc _ _)) hb1 | have hb := hb1); clear hb1; obtain ⟨hc1, hf1⟩ := hb.old) | (go_at_call 15; refine (rnorm_any _ _).mono ?_; rintro e w1 ⟨rfl, hb1⟩; (first | replace hb := Ext.trans hb hb1 | replace hb := Ext.trans (Ext.trans hb (Ext.drewN _ _)) hb1 | replace hb := Ext.trans (Ext.trans hb (Ext.alloc _ _)) hb1 | have hb := hb1); clear hb1; obtain ⟨hc1, hf1⟩ := hb.old))
          all_goals (go_ret2; exact ⟨by rw [HM.out, HV.out]; rfl, (by repeat (first | exact Ext.refl _ | assumption | exact Ext.alloc _ _ | refine Ext.trans ?_ (by assumption) | refine Ext.trans ?_ (Ext.alloc _ _) | refine Ext.trans ?_ (Ext.drewN _ _) | refine Ext.trans ?_ (Ext.drew _)))⟩)
    · by_cases h2 : dst a b ≤ dst a c
      · have HV := Lib.hid (mdl_b (A := nrm a) (B := nrm b) (C := nrm c) h1 h2)
        have h3 : dst b c < dst a c := by omega
        clear h1
        by_cases h4 : dst a b < dst b c
        all_goals
          go_enter Try.func25, Try.ntmps25
          go_wp2_with (first | (go_at_call 19; refine (rdist_any _ _ _).mono ?_; rintro e w1 ⟨rfl, hb1⟩; (first | replace hb := Ext.trans hb hb1 | replace hb := Ext.trans (Ext.trans hb (Ext.drewN _ _)) hb1 | replace hb := Ext.trans (Ext.trans hb (Ext.alloc _ _)) hb1 | have hb := hb1); clear hb1; obtain ⟨hc1, hf1⟩ := hb.old) | (go_at_call 15; refine (rnorm_any _ _).mono ?_; rintro e w1 ⟨rfl, hb1⟩; (first | replace hb := Ext.trans hb hb1 | replace hb := Ext.trans (Ext.trans hb (Ext.drewN _ _)) hb1 | replace hb := Ext.trans (Ext.trans hb (Ext.alloc _ _)) hb1 | have hb := hb1); clear hb1; obtain ⟨hc1, hf1⟩ := hb.old))
          all_goals (go_ret2; exact ⟨by rw [HM.out, HV.out]; rfl, (by repeat (first | exact Ext.refl _ | assumption | exact Ext.alloc _ _ | refine Ext.trans ?_ (by assumption) | refine Ext.trans ?_ (Ext.alloc _ _) | refine Ext.trans ?_ (Ext.drewN _ _) | refine Ext.trans ?_ (Ext.drew _)))⟩)
      · have HV := Lib.hid (mdl_c (A := nrm a) (B := nrm b) (C := nrm c) h1 h2)
        have h3 : dst b c < dst a b := by omega
        clear h1
        by_cases h4 : dst b c < dst a c
        all_goals
          go_enter Try.func25, Try.ntmps25
          go_wp2_with (first | (go_at_call 19; refine (rdist_any _ _ _).mono ?_; rintro e w1 ⟨rfl, hb1⟩; (first | replace hb := Ext.trans hb hb1 | replace hb := Ext.trans (Ext.trans hb (Ext.drewN _ _)) hb1 | replace hb := Ext.trans (Ext.trans hb (Ext.alloc _ _)) hb1 | have hb := hb1); clear hb1; obtain ⟨hc1, hf1⟩ := hb.old) | (go_at_call 15; refine (rnorm_any _ _).mono ?_; rintro e w1 ⟨rfl, hb1⟩; (first | replace hb := Ext.trans hb hb1 | replace hb := Ext.trans (Ext.trans hb (Ext.drewN _ _)) hb1 | replace hb := Ext.trans (Ext.trans hb (Ext.alloc _ _)) hb1 | have hb := hb1); clear hb1; obtain ⟨hc1, hf1⟩ := hb.old))
          all_goals (go_ret2; exact ⟨by rw [HM.out, HV.out]; rfl, (by repeat (first | exact Ext.refl _ | assumption | exact Ext.alloc _ _ | refine Ext.trans ?_ (by assumption) | refine Ext.trans ?_ (Ext.alloc _ _) | refine Ext.trans ?_ (Ext.drewN _ _) | refine Ext.trans ?_ (Ext.drew _)))⟩)
  · have h : 16384 ≤ dst a b ∨ 16384 ≤ dst b c ∨ 16384 ≤ dst a c := by
      have h' : ¬ (dst a b < 16384 ∧ dst b c < 16384 ∧ dst a c < 16384) := hn
      omega
    have HN := Lib.hid (mid_f hn); clear hn
    by_cases h4 : dst a b < dst b c
    all_goals
      by_cases h5 : dst b c < dst a c
      all_goals
        by_cases h6 : dst a b < dst a c
        all_goals
          first
            | omega
            | (go_enter Try.func25, Try.ntmps25
               go_wp2_with (first | (go_at_call 19; refine (rdist_any _ _ _).mono ?_; rintro e w1 ⟨rfl, hb1⟩; (first | replace hb := Ext.trans hb hb1 | replace hb := Ext.trans (Ext.trans hb (Ext.drewN _ _)) hb1 | replace hb := Ext.trans (Ext.trans hb (Ext.alloc _ _)) hb1 | have hb := hb1); clear hb1; obtain ⟨hc1, hf1⟩ := hb.old) | (go_at_call 15; refine (rnorm_any _ _).mono ?_; rintro e w1 ⟨rfl, hb1⟩; (first | replace hb := Ext.trans hb hb1 | replace hb := Ext.trans (Ext.trans hb (Ext.drewN _ _)) hb1 | replace hb := Ext.trans (Ext.trans hb (Ext.alloc _ _)) hb1 | have hb := hb1); clear hb1; obtain ⟨hc1, hf1⟩ := hb.old))
               all_goals (go_ret2; exact ⟨by rw [HN.out]; rfl, (by repeat (first | exact Ext.refl _ | assumption | exact Ext.alloc _ _ | refine Ext.trans ?_ (by assumption) | refine Ext.trans ?_ (Ext.alloc _ _) | refine Ext.trans ?_ (Ext.drewN _ _) | refine Ext.trans ?_ (Ext.drew _)))⟩))
end Go.Proofs.Ytfjkijpfkpcjdaa
