/- Conversion and back. -/
import Derived.Test.YtfllhbebackbdaaWordm
namespace Go.Proofs.Ytfllhbebackbdaa
open Go.RowKit

theorem rnd_exact (x n m : Int) : rnd (x * 2 ^ n.toNat) n m = x := by
  have p1 := pow_pos n.toNat
  unfold rnd
  rw [Int.mul_ediv_cancel _ (by omega), Int.mul_emod_left, rndQ_dn (upB_zero p1)]
theorem clip_in {b x : Int} (h : inB b x = true) : clipF b x = x ∧ cutF b x = false := by
  have h' := inB_iff.1 h
  have e : clipF b x = x := by unfold clipF; rw [if_neg (by omega), if_neg (by omega)]
  exact ⟨e, by unfold cutF; rw [e]; simp⟩
theorem clip_un {b x : Int} (h : cutF b x = false) : clipF b x = x ∧ inB b x = true := by
  have e : clipF b x = x := by unfold cutF at h; simpa using h
  refine ⟨e, inB_iff.2 ?_⟩
  have := lohi b
  unfold clipF at e; split at e
  · omega
  · split at e <;> omega

theorem back_fact {fb fs tb ts x m : Int} (hc : convP fb fs tb ts x m) (hs : fs ≤ ts) (hcut : cutF tb (resF (fs - ts) x m) = false) :
    convF tb ts fb fs (clipF tb (resF (fs - ts) x m)) m = (x, false, 0) := by
  obtain ⟨hf, ht, hx, hm⟩ := hc
  obtain ⟨m1, m2⟩ := okM_of hm
  obtain ⟨_, _, g3, g4⟩ := chk_of hf
  obtain ⟨_, g2, k3, k4⟩ := chk_of ht
  obtain ⟨e, hin⟩ := clip_un hcut
  rw [e]
  have hy : resF (ts - fs) (resF (fs - ts) x m) m = x := by
    rw [resF_pos (n := ts - fs) (by omega)]
    by_cases h0 : fs = ts
    · subst h0
      rw [resF_pos (n := fs - fs) (by omega)]
      have e0 : capN (fs - fs) 62 = 0 := by unfold capN; rw [if_pos (by omega)]; omega
      rw [e0]
      have := rnd_exact x 0 m
      have e1 : x * 2 ^ (0 : Int).toNat = x := by simp
      rw [e1] at this
      rw [this, this]
    · rw [resF_neg (by omega)] at hin ⊢
      have en : -(fs - ts) = ts - fs := by omega
      rw [en] at hin ⊢
      by_cases hk : ts - fs ≤ 32
      · have e1 : capN (ts - fs) 32 = ts - fs := by unfold capN; rw [if_pos hk]
        have e2 : capN (ts - fs) 62 = ts - fs := by unfold capN; rw [if_pos (by omega)]
        rw [e1, e2]; exact rnd_exact x _ m
      · have e1 : capN (ts - fs) 32 = 32 := by unfold capN; rw [if_neg hk]
        rw [e1] at hin ⊢
        have bd := inB_bd g2 hin
        have e3 : (2 : Int) ^ (32 : Int).toNat = 4294967296 := by decide
        rw [e3] at bd ⊢
        obtain rfl : x = 0 := by omega
        have := rnd_exact 0 (capN (ts - fs) 62) m
        rw [Int.zero_mul] at this ⊢
        exact this
  rw [conv_ok ⟨ht, hf, hin, hm⟩, hy]
  obtain ⟨c1, c2⟩ := clip_in hx
  rw [c1, c2]

set_option maxRecDepth 100000 in
set_option maxHeartbeats 1000000 in
theorem back_any (fb fs tb ts x m : Int) (w : World) : Calls Try.prog 13 #[.agg #[I fb, I fs, I tb, I ts], I x, I m] w fun e w' => e = .returned (.bool true) ∧ Ext w w' := by
  have h4 : errv 0 = .nilIface := rfl
  have h5 : errv 3 = .iface 68 (I 3) := rfl
  by_cases hs : ts < fs
  · go_enter Try.func13, Try.ntmps13
    go_wp2_with (first
      | (go_at_call 14; refine (awake_any _).mono ?_; rintro e w1 ⟨rfl, hb1⟩; (first | replace hb := Ext.trans hb hb1 | replace hb := Ext.trans (Ext.trans hb (Ext.drewN _ _)) hb1 | replace hb := Ext.trans (Ext.trans hb (Ext.alloc _ _)) hb1 | have hb := hb1); clear hb1; obtain ⟨hc1, hf1⟩ := hb.old))
    go_ret
    exact ⟨rfl, (by repeat (first | exact Ext.refl _ | assumption | exact Ext.alloc _ _ | refine Ext.trans ?_ (by assumption) | refine Ext.trans ?_ (Ext.alloc _ _) | refine Ext.trans ?_ (Ext.drewN _ _) | refine Ext.trans ?_ (Ext.drew _)))⟩
  · by_cases hc : convP fb fs tb ts x m
    · have hR := conv_ok hc
      cases hcut : cutF tb (resF (fs - ts) x m) with
      | true =>
        rw [hcut] at hR
        clear hc hcut
        go_enter Try.func13, Try.ntmps13
        go_wp2_with (first
          | (go_at_call 14; refine (awake_any _).mono ?_; rintro e w1 ⟨rfl, hb1⟩; (first | replace hb := Ext.trans hb hb1 | replace hb := Ext.trans (Ext.trans hb (Ext.drewN _ _)) hb1 | replace hb := Ext.trans (Ext.trans hb (Ext.alloc _ _)) hb1 | have hb := hb1); clear hb1; obtain ⟨hc1, hf1⟩ := hb.old)
          | (go_at_call 33; refine (convert_any _ _ _ _ _ _ _).mono ?_; rintro e w1 ⟨rfl, hb1⟩; (first | replace hb := Ext.trans hb hb1 | replace hb := Ext.trans (Ext.trans hb (Ext.drewN _ _)) hb1 | replace hb := Ext.trans (Ext.trans hb (Ext.alloc _ _)) hb1 | have hb := hb1); clear hb1; obtain ⟨hc1, hf1⟩ := hb.old))
        go_ret
        exact ⟨rfl, (by repeat (first | exact Ext.refl _ | assumption | exact Ext.alloc _ _ | refine Ext.trans ?_ (by assumption) | refine Ext.trans ?_ (Ext.alloc _ _) | refine Ext.trans ?_ (Ext.drewN _ _) | refine Ext.trans ?_ (Ext.drew _)))⟩
      | false =>
        have hB := back_fact hc (by omega) hcut
        rw [hcut] at hR
        generalize clipF tb (resF (fs - ts) x m) = y at hR hB
        clear hc hcut
        go_enter Try.func13, Try.ntmps13
        go_wp2_with (first
          | (go_at_call 14; refine (awake_any _).mono ?_; rintro e w1 ⟨rfl, hb1⟩; (first | replace hb := Ext.trans hb hb1 | replace hb := Ext.trans (Ext.trans hb (Ext.drewN _ _)) hb1 | replace hb := Ext.trans (Ext.trans hb (Ext.alloc _ _)) hb1 | have hb := hb1); clear hb1; obtain ⟨hc1, hf1⟩ := hb.old)
          | (go_at_call 33; refine (convert_any _ _ _ _ _ _ _).mono ?_; rintro e w1 ⟨rfl, hb1⟩; (first | replace hb := Ext.trans hb hb1 | replace hb := Ext.trans (Ext.trans hb (Ext.drewN _ _)) hb1 | replace hb := Ext.trans (Ext.trans hb (Ext.alloc _ _)) hb1 | have hb := hb1); clear hb1; obtain ⟨hc1, hf1⟩ := hb.old))
        go_ret
        exact ⟨by simp, (by repeat (first | exact Ext.refl _ | assumption | exact Ext.alloc _ _ | refine Ext.trans ?_ (by assumption) | refine Ext.trans ?_ (Ext.alloc _ _) | refine Ext.trans ?_ (Ext.drewN _ _) | refine Ext.trans ?_ (Ext.drew _)))⟩
    · have hR := conv_bad hc
      clear hc
      go_enter Try.func13, Try.ntmps13
      go_wp2_with (first
        | (go_at_call 14; refine (awake_any _).mono ?_; rintro e w1 ⟨rfl, hb1⟩; (first | replace hb := Ext.trans hb hb1 | replace hb := Ext.trans (Ext.trans hb (Ext.drewN _ _)) hb1 | replace hb := Ext.trans (Ext.trans hb (Ext.alloc _ _)) hb1 | have hb := hb1); clear hb1; obtain ⟨hc1, hf1⟩ := hb.old)
        | (go_at_call 33; refine (convert_any _ _ _ _ _ _ _).mono ?_; rintro e w1 ⟨rfl, hb1⟩; (first | replace hb := Ext.trans hb hb1 | replace hb := Ext.trans (Ext.trans hb (Ext.drewN _ _)) hb1 | replace hb := Ext.trans (Ext.trans hb (Ext.alloc _ _)) hb1 | have hb := hb1); clear hb1; obtain ⟨hc1, hf1⟩ := hb.old))
      go_ret
      exact ⟨rfl, (by repeat (first | exact Ext.refl _ | assumption | exact Ext.alloc _ _ | refine Ext.trans ?_ (by assumption) | refine Ext.trans ?_ (Ext.alloc _ _) | refine Ext.trans ?_ (Ext.drewN _ _) | refine Ext.trans ?_ (Ext.drew _)))⟩

end Go.Proofs.Ytfllhbebackbdaa
