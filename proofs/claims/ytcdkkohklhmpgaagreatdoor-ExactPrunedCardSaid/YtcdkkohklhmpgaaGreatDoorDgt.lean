/- Diagrams: block by the reference. -/
import Derived.Test.YtcdkkohklhmpgaaGreatDoorDgr
namespace Go.Proofs.YtcdkkohklhmpgaaGreatDoor
open Go Go.RowKit

theorem cls {k : Int} (h0 : 0 ≤ k) (h1 : k ≤ 11) :
    ((k == 0) = true ∧ (k == 11) = false ∧ (k == 1) = false ∧ (k == 2) = false ∧ (k == 6) = false ∧ usesV k = false) ∨ ((k == 0) = false ∧ (k == 11) = true ∧ (k == 1) = false ∧ (k == 2) = false ∧ (k == 6) = false ∧ usesV k = true) ∨
    ((k == 0) = false ∧ (k == 11) = false ∧ (k == 1) = true ∧ (k == 2) = false ∧ (k == 6) = false ∧ usesV k = true) ∨ ((k == 0) = false ∧ (k == 11) = false ∧ (k == 1) = false ∧ (k == 2) = true ∧ (k == 6) = false ∧ usesV k = true) ∨
    ((k == 0) = false ∧ (k == 11) = false ∧ (k == 1) = false ∧ (k == 2) = false ∧ (k == 6) = true ∧ usesV k = true) ∨ ((k == 0) = false ∧ (k == 11) = false ∧ (k == 1) = false ∧ (k == 2) = false ∧ (k == 6) = false ∧ usesV k = false) := by
  have : k = 0 ∨ k = 1 ∨ k = 2 ∨ k = 3 ∨ k = 4 ∨ k = 5 ∨ k = 6 ∨ k = 7 ∨ k = 8 ∨ k = 9 ∨ k = 10 ∨ k = 11 := by omega
  rcases this with rfl | rfl | rfl | rfl | rfl | rfl | rfl | rfl | rfl | rfl | rfl | rfl <;> decide
theorem rar_in {k : Int} (h0 : 0 ≤ k) (h1 : k ≤ 11) : rar k = arity k := by unfold rar; rw [if_neg (by omega)]
theorem gtS_cm {n e m f : Int} : decide (0 < cmS n e m f) = gtS n e m f := by
  unfold cmS gtS tS
  by_cases h1 : n * 2 ^ (e + 62).toNat < m * 2 ^ (f + 62).toNat
  · rw [if_pos h1, decide_eq_false (by omega), decide_eq_false (by omega)]
  · rw [if_neg h1]
    by_cases h2 : m * 2 ^ (f + 62).toNat < n * 2 ^ (e + 62).toNat
    · rw [if_pos h2, decide_eq_true (by omega), decide_eq_true h2]
    · rw [if_neg h2, decide_eq_false (by omega), decide_eq_false h2]
section
variable {w : World} {D : Dia} {p : Pl} {b : Blk} {A : Option Addr} {c : Nat}
set_option maxRecDepth 100000 in
set_option maxHeartbeats 1000000 in
theorem rblock_type (h : b.k < 0 ∨ 11 < b.k) : Calls Tryz.prog 128 #[dgv D p, bkv b.k A b.n c b.vn b.ve b.un b.ue] w fun e w' => e = .returned (I 7) ∧ Ext w w' := by
  have HA := Lib.hid (Arity_any b.k)
  rw [show rar b.k = -1 by unfold rar; rw [if_pos h]] at HA
  clear h
  go_enter Tryz.func128, Tryz.ntmps128
  go_wp2_with (go_at_call 191; (with_reducible refine (HA.out _).mono ?_); rintro e w1 ⟨rfl, x1⟩)
  go_ret
  exact ⟨rfl, ((Ext.alloc _ _).trans (Ext.alloc _ _)).trans x1⟩
set_option maxRecDepth 100000 in
set_option maxHeartbeats 1000000 in
theorem rblock_shape (h0 : 0 ≤ b.k) (h1 : b.k ≤ 11) (h2 : (b.n : Int) ≠ arity b.k) :
    Calls Tryz.prog 128 #[dgv D p, bkv b.k A b.n c b.vn b.ve b.un b.ue] w fun e w' => e = .returned (I 11) ∧ Ext w w' := by
  have HA := Lib.hid (Arity_any b.k)
  rw [rar_in h0 h1] at HA
  have hb2 := arity_b b.k
  generalize arity b.k = r at *
  have h2' : ((b.n : Int) == r) = false := by simpa using h2
  have h0' : ¬ r < 0 := by omega
  have HB := Lib.hid (bxB w D p b A c 48 100)
  clear h0 h1
  go_enter Tryz.func128, Tryz.ntmps128
  go_wp2_with (go_at_call 191; (with_reducible refine (HA.out _).mono ?_); rintro e w1 ⟨rfl, x1⟩; obtain ⟨m0, m1, m2, m3, m4, m5⟩ := HB.out.b0 _ x1)
  go_ret
  exact ⟨rfl, HB.out.ext.trans x1⟩
set_option maxRecDepth 100000 in
set_option maxHeartbeats 8000000 in
theorem rblock_in (d : Dm w D p) (ra : Ri w A b.n b.a) (hm : b.n ≤ maxLen) (h0 : 0 ≤ b.k) (h1 : b.k ≤ 11) (h2 : (b.n : Int) = arity b.k) :
    Calls Tryz.prog 128 #[dgv D p, bkv b.k A b.n c b.vn b.ve b.un b.ue] w fun e w' => e = .returned (I (blkE D b)) ∧ Ext w w' := by
  unfold maxLen at hm
  have l1 := d.li; have l2 := d.lb
  unfold maxLen at l1 l2
  obtain ⟨res, hres⟩ : ∃ res, blkE D b = res := ⟨_, rfl⟩
  have hres' := hres
  unfold blkE at hres'
  rw [if_neg (by omega), if_neg (by omega)] at hres'
  have HRES := Lib.hid hres'
  rw [hres]
  have HA := Lib.hid (Arity_any b.k)
  rw [rar_in h0 h1, ← h2] at HA
  have HB := Lib.hid (bxB w D p b A c 48 100)
  obtain ⟨cnt0, hcnt⟩ : ∃ cnt0 : Nat, cntB D b = cnt0 := by unfold cntB; split <;> exact ⟨_, rfl⟩
  have hcl1 : b.k = 0 → cnt0 = D.ni := fun h => by have := hcnt; unfold cntB at this; rw [if_pos h] at this; omega
  have hcl2 : b.k ≠ 0 → cnt0 = D.nb := fun h => by have := hcnt; unfold cntB at this; rw [if_neg h] at this; omega
  have hcb : cnt0 ≤ 9223372036854775807 := by
    by_cases q : b.k = 0
    · rw [hcl1 q]; exact l1
    · rw [hcl2 q]; exact l2
  rw [hcnt] at HRES
  have HW : Hid (∀ i w, Calls Tryz.prog 127 #[I (b.a i), I 0, I ((cnt0 : Int) - 1)] w fun e w' => e = .returned (.bool (inE cnt0 (b.a i) == 0)) ∧ Ext w w') := fun i w => by
    have := within_any (b.a i) 0 ((cnt0 : Int) - 1) w
    rw [show decide (0 ≤ b.a i ∧ b.a i ≤ (cnt0 : Int) - 1) = (inE cnt0 (b.a i) == 0) by
      unfold inE
      by_cases q : 0 ≤ b.a i ∧ b.a i < cnt0
      · rw [if_pos q, decide_eq_true (by omega)]; rfl
      · rw [if_neg q, decide_eq_false (by omega)]; rfl] at this
    exact this
  obtain ⟨E, hE⟩ : ∃ E : Nat → Int, (fun i => inE (cnt0 : Int) (b.a i)) = E := ⟨_, rfl⟩
  have HE10 : Hid (∀ i, E i ≠ 0 → E i = 10) := fun i hi => by
    rw [← hE] at hi ⊢
    simp only [] at hi ⊢
    unfold inE at hi ⊢
    split
    · rename_i q; rw [if_pos q] at hi; exact absurd rfl hi
    · rfl
  have HWE : Hid (∀ i w, Calls Tryz.prog 127 #[I (b.a i), I 0, I ((cnt0 : Int) - 1)] w fun e w' => e = .returned (.bool (E i == 0)) ∧ Ext w w') := fun i w => by rw [← hE]; exact HW.out i w
  rw [hE] at HRES
  clear hE HW
  have HV := Lib.hid (rscalar_any (usesV b.k) b.vn b.ve)
  have HU := Lib.hid (rscalar_any (b.k == 11) b.un b.ue)
  have HT : Hid (b.k = 11 → scE (usesV b.k) b.vn b.ve = 0 → scE (b.k == 11) b.un b.ue = 0 → ∀ w, Calls Tryz.prog 193 #[.agg #[I b.vn, I b.ve], .agg #[I b.un, I b.ue]] w fun x w' => x = .returned (I (cmS b.vn b.ve b.un b.ue)) ∧ Ext w w') := fun hk hv hu w => by
    rw [hk] at hv hu
    obtain ⟨v1, v2, v3, v4⟩ := scE_t (show scE true b.vn b.ve = 0 from hv)
    obtain ⟨u1, u2, u3, u4⟩ := scE_t (show scE true b.un b.ue = 0 from hu)
    exact rcmp_any _ _ _ _ w v1 v2 v3 v4 u1 u2 u3 u4
  have HG := Lib.hid (gtS_cm (n := b.vn) (e := b.ve) (m := b.un) (f := b.ue))
  generalize hev : scE (usesV b.k) b.vn b.ve = ev at *
  generalize heu : scE (b.k == 11) b.un b.ue = eu at *
  generalize cmS b.vn b.ve b.un b.ue = cm at *
  generalize gtS b.vn b.ve b.un b.ue = gt at *
  have R := Lib.hid ra
  have HCL1 := Lib.hid hcl1; have HCL2 := Lib.hid hcl2
  clear d ra h2 hres hres' hcnt hev heu hcl1 hcl2
  rcases cls h0 h1 with ⟨q0, q11, q1, q2, q6, hu⟩ | ⟨q0, q11, q1, q2, q6, hu⟩ | ⟨q0, q11, q1, q2, q6, hu⟩ | ⟨q0, q11, q1, q2, q6, hu⟩ | ⟨q0, q11, q1, q2, q6, hu⟩ | ⟨q0, q11, q1, q2, q6, hu⟩
  all_goals
    rw [hu] at HV
    rw [q11] at HU
    (first | (have hcl' : cnt0 = D.ni := HCL1.out (by simpa using q0)) | (have hcl' : cnt0 = D.nb := HCL2.out (by simpa using q0)))
    subst hcl'
    clear hu h0 h1 HCL1 HCL2
    go_enter Tryz.func128, Tryz.ntmps128
    go_wp2_with (go_at_call 191; (with_reducible refine (HA.out _).mono ?_); rintro e w1 ⟨rfl, x1⟩; obtain ⟨m0, m1, m2, m3, m4, m5⟩ := HB.out.b0 _ x1; obtain ⟨d0, d1, d2⟩ := HB.out.d0 _ x1)
    clear m0 m1 m2 m3 m4 m5 d0 d1 d2
    have X1 := Lib.hid x1
    clear x1
    go_loopw [34] (fun s wr => ∃ j : Nat, j ≤ b.n ∧ s = I j ∧ Hid (Ext w1 wr) ∧ Hid (∀ i, i < j → E i = 0)) (fun s _ => b.n - (intOf s).toNat)
    case atStart => exact ⟨0, Nat.zero_le _, rfl, Ext.refl _, fun i hi => absurd hi (by omega)⟩
    case round =>
      obtain ⟨j, hj, rfl, HX, HI⟩ := hrel
      by_cases hlt : j < b.n
      · obtain ⟨ba, oa, rfl, hba, ca⟩ := R.out (by omega)
        have xa := ((HB.out.ext.trans (X1.out.trans HX.out)).old.1 _ _ hba).trans (ca j hlt)
        clear ca
        have HWJ := Lib.hid (HWE.out j)
        have hltj : (j : Int) < (b.n : Int) := by omega
        by_cases hq : E j = 0
        · have HI2 : Hid (∀ i, i < j + 1 → E i = 0) := fun i hi => by
            by_cases h : i = j
            · subst h; exact hq
            · exact HI.out i (by omega)
          rw [show (E j == 0) = true by simpa using hq] at HWJ
          clear hq
          go_wp2_with (go_at_call 127; (with_reducible refine (HWJ.out _).mono ?_); rintro e2 w2 ⟨rfl, x2⟩)
          go_roundw
          case rel => exact ⟨j + 1, by omega, by go_num, HX.out.trans x2, HI2⟩
          case measure => simp [intOf]; omega
        · have HF := Lib.hid (fstE_hit HI.out hlt hq)
          have h10 := HE10.out j hq
          have HR2 := HRES.out
          rw [HF.out, if_pos hq, h10] at HR2
          have HR3 := Lib.hid HR2
          rw [show (E j == 0) = false by simpa using hq] at HWJ
          clear hq h10 HR2
          go_wp2_with (go_at_call 127; (with_reducible refine (HWJ.out _).mono ?_); rintro e2 w2 ⟨rfl, x2⟩)
          go_ret
          exact ⟨by rw [← HR3.out]; rfl, HB.out.ext.trans (X1.out.trans (HX.out.trans x2))⟩
      · obtain rfl : j = b.n := by omega
        have HR2 := HRES.out
        rw [fstE_none HI.out, if_neg (by decide)] at HR2
        have HR3 := Lib.hid HR2
        clear HR2 HRES
        obtain ⟨m0, m1, m2, m3, m4, m5⟩ := HB.out.b0 _ (X1.out.trans HX.out)
        by_cases hv : ev = 0
        · subst hv
          by_cases hw : eu = 0
          · subst hw
            have HR4 := HR3.out
            rw [if_neg (by decide), if_neg (by decide)] at HR4
            by_cases hk : b.k = 11
            · have HC := Lib.hid (HT.out hk rfl rfl)
              have hgt := HG.out
              have HR5 : Hid ((if 0 < cm then 26 else 0) = res) := by
                show _ = _
                rw [← HR4]
                by_cases q : 0 < cm
                · rw [if_pos q, if_pos ⟨hk, by rw [← hgt]; exact decide_eq_true q⟩]
                · rw [if_neg q, if_neg (fun h => q (by have h2 := h.2; rw [← hgt] at h2; exact of_decide_eq_true h2))]
              clear hgt HR4 HR3
              first
                | (exfalso; rw [hk] at q11; cases q11; done)
                | (clear hk
                   by_cases q : 0 < cm
                   all_goals
                     have HR6 := HR5.out
                     (first | rw [if_pos q] at HR6 | rw [if_neg q] at HR6)
                     subst HR6
                     go_wp2_with (first
                       | (go_at_call 192; first | (have hg := x3; clear hg; (refine (HU.out _).mono ?_); rintro e4 w4 ⟨rfl, x4⟩; obtain ⟨t0, t1, t2, t3, t4, t5⟩ := HB.out.b0 _ (((X1.out.trans HX.out).trans x3).trans x4)) | ((refine (HV.out _).mono ?_); rintro e3 w3 ⟨rfl, x3⟩; obtain ⟨k0, k1, k2, k3, k4, k5⟩ := HB.out.b0 _ ((X1.out.trans HX.out).trans x3)))
                       | (go_at_call 193; (with_reducible refine (HC.out _).mono ?_); rintro e5 w5 ⟨rfl, x5⟩))
                     go_ret
                     exact ⟨rfl, HB.out.ext.trans ((((X1.out.trans HX.out).trans x3).trans x4).trans x5)⟩)
            · rw [if_neg (fun h => hk h.1)] at HR4
              subst HR4
              clear HR3
              first
                | (exfalso; exact hk (by simpa using q11); done)
                | (clear hk
                   go_wp2_with (go_at_call 192; first | (have hg := x3; clear hg; (refine (HU.out _).mono ?_); rintro e4 w4 ⟨rfl, x4⟩; obtain ⟨t0, t1, t2, t3, t4, t5⟩ := HB.out.b0 _ (((X1.out.trans HX.out).trans x3).trans x4)) | ((refine (HV.out _).mono ?_); rintro e3 w3 ⟨rfl, x3⟩; obtain ⟨k0, k1, k2, k3, k4, k5⟩ := HB.out.b0 _ ((X1.out.trans HX.out).trans x3)))
                   go_ret
                   exact ⟨rfl, HB.out.ext.trans (((X1.out.trans HX.out).trans x3).trans x4)⟩)
          · have hw' : (eu == 0) = false := by simpa using hw
            have HR4 := HR3.out
            rw [if_neg (by decide), if_pos hw] at HR4
            subst HR4
            clear HR3 hw
            go_wp2_with (go_at_call 192; first | (have hg := x3; clear hg; (refine (HU.out _).mono ?_); rintro e4 w4 ⟨rfl, x4⟩) | ((refine (HV.out _).mono ?_); rintro e3 w3 ⟨rfl, x3⟩; obtain ⟨k0, k1, k2, k3, k4, k5⟩ := HB.out.b0 _ ((X1.out.trans HX.out).trans x3)))
            go_ret
            exact ⟨rfl, HB.out.ext.trans (((X1.out.trans HX.out).trans x3).trans x4)⟩
        · have hv' : (ev == 0) = false := by simpa using hv
          have HR4 := HR3.out
          rw [if_pos hv] at HR4
          subst HR4
          clear HR3 hv
          go_wp2_with (go_at_call 192; (refine (HV.out _).mono ?_); rintro e3 w3 ⟨rfl, x3⟩)
          go_ret
          exact ⟨rfl, HB.out.ext.trans ((X1.out.trans HX.out).trans x3)⟩
theorem rblock_any (d : Dm w D p) (ra : Ri w A b.n b.a) (hm : b.n ≤ maxLen) : Calls Tryz.prog 128 #[dgv D p, bkv b.k A b.n c b.vn b.ve b.un b.ue] w fun e w' => e = .returned (I (blkE D b)) ∧ Ext w w' := by
  by_cases h1 : b.k < 0 ∨ 11 < b.k
  · rw [show blkE D b = 7 by unfold blkE; rw [if_pos h1]]; exact rblock_type h1
  by_cases h2 : (b.n : Int) = arity b.k
  · exact rblock_in d ra hm (by omega) (by omega) h2
  · rw [show blkE D b = 11 by unfold blkE; rw [if_neg h1, if_pos h2]]; exact rblock_shape (by omega) (by omega) h2
end
end Go.Proofs.YtcdkkohklhmpgaaGreatDoor
