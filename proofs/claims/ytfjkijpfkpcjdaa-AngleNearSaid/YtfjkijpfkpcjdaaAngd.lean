/- Contracts of package angle, third part: Interp, Unwrap, Electric, and of their references. -/
import Derived.Test.YtfjkijpfkpcjdaaAngb
namespace Go.Proofs.Ytfjkijpfkpcjdaa
open Go.RowKit

theorem itp_wrap (a b n d : Int) : nrm (wrap64 (a + (dff b a * n).tdiv d)) = nrm (a + (dff b a * n).tdiv d) := nrm_wrap _
theorem itp_ref (a q : Int) : nrm (nrm a + q) = nrm (a + q) := by unfold nrm; omega

set_option maxHeartbeats 400000 in
theorem interp_any (a b n d : Int) (w : World) : Calls Try.prog 26 #[I a, I b, I n, I d] w fun e w' => e = .returned (res2 (itp a b n d)) ∧ Ext w w' := by
  by_cases h : 1 ≤ d ∧ d ≤ 1048576 ∧ 0 ≤ n ∧ n ≤ d
  · obtain ⟨h1, h2, h3, h4⟩ := h
    have HR := Lib.hid (itp_t (a := a) (b := b) h1 h2 h3 h4)
    have HW := Lib.hid (itp_wrap a b n d)
    obtain ⟨b1, b2⟩ := dff_bd b a
    obtain ⟨p1, p2⟩ := prod_bd (n := n) b1 (show dff b a ≤ 32768 by omega) h3 (by omega)
    obtain ⟨q1, q2⟩ := tdiv_bd h1 ⟨p1, p2⟩
    go_enter Try.func26, Try.ntmps26
    go_wp2_with (first | (go_at_call 16; refine (diff_any _ _ _).mono ?_; rintro e w1 ⟨rfl, hb1⟩; (first | replace hb := Ext.trans hb hb1 | replace hb := Ext.trans (Ext.trans hb (Ext.drewN _ _)) hb1 | replace hb := Ext.trans (Ext.trans hb (Ext.alloc _ _)) hb1 | have hb := hb1); clear hb1; obtain ⟨hc1, hf1⟩ := hb.old) | (go_at_call 14; refine (norm_any _ _).mono ?_; rintro e w1 ⟨rfl, hb1⟩; (first | replace hb := Ext.trans hb hb1 | replace hb := Ext.trans (Ext.trans hb (Ext.drewN _ _)) hb1 | replace hb := Ext.trans (Ext.trans hb (Ext.alloc _ _)) hb1 | have hb := hb1); clear hb1; obtain ⟨hc1, hf1⟩ := hb.old))
    go_ret2
    exact ⟨by rw [HR.out, ← HW.out]; rfl, (by repeat (first | exact Ext.refl _ | assumption | exact Ext.alloc _ _ | refine Ext.trans ?_ (by assumption) | refine Ext.trans ?_ (Ext.alloc _ _) | refine Ext.trans ?_ (Ext.drewN _ _) | refine Ext.trans ?_ (Ext.drew _)))⟩
  · have HR := Lib.hid (itp_f (a := a) (b := b) h)
    by_cases h1 : d < 1
    · clear h
      go_enter Try.func26, Try.ntmps26
      go_wp2
      go_ret2
      exact ⟨by rw [HR.out]; rfl, (by repeat (first | exact Ext.refl _ | assumption | exact Ext.alloc _ _ | refine Ext.trans ?_ (by assumption) | refine Ext.trans ?_ (Ext.alloc _ _) | refine Ext.trans ?_ (Ext.drewN _ _) | refine Ext.trans ?_ (Ext.drew _)))⟩
    · by_cases h2 : 1048576 < d
      · clear h
        go_enter Try.func26, Try.ntmps26
        go_wp2
        go_ret2
        exact ⟨by rw [HR.out]; rfl, (by repeat (first | exact Ext.refl _ | assumption | exact Ext.alloc _ _ | refine Ext.trans ?_ (by assumption) | refine Ext.trans ?_ (Ext.alloc _ _) | refine Ext.trans ?_ (Ext.drewN _ _) | refine Ext.trans ?_ (Ext.drew _)))⟩
      · by_cases h3 : n < 0
        · clear h
          go_enter Try.func26, Try.ntmps26
          go_wp2
          go_ret2
          exact ⟨by rw [HR.out]; rfl, (by repeat (first | exact Ext.refl _ | assumption | exact Ext.alloc _ _ | refine Ext.trans ?_ (by assumption) | refine Ext.trans ?_ (Ext.alloc _ _) | refine Ext.trans ?_ (Ext.drewN _ _) | refine Ext.trans ?_ (Ext.drew _)))⟩
        · have h4 : d < n := by omega
          clear h
          go_enter Try.func26, Try.ntmps26
          go_wp2
          go_ret2
          exact ⟨by rw [HR.out]; rfl, (by repeat (first | exact Ext.refl _ | assumption | exact Ext.alloc _ _ | refine Ext.trans ?_ (by assumption) | refine Ext.trans ?_ (Ext.alloc _ _) | refine Ext.trans ?_ (Ext.drewN _ _) | refine Ext.trans ?_ (Ext.drew _)))⟩

set_option maxHeartbeats 400000 in
theorem rinterp_any (a b n d : Int) (w : World) : Calls Try.prog 27 #[I a, I b, I n, I d] w fun e w' => e = .returned (ref2 (itp a b n d)) ∧ Ext w w' := by
  by_cases h : 1 ≤ d ∧ d ≤ 1048576 ∧ 0 ≤ n ∧ n ≤ d
  · obtain ⟨h1, h2, h3, h4⟩ := h
    have HR := Lib.hid (itp_t (a := a) (b := b) h1 h2 h3 h4)
    have HW := Lib.hid (itp_ref a ((dff b a * n).tdiv d))
    obtain ⟨b1, b2⟩ := dff_bd b a
    obtain ⟨a1, a2⟩ := nrm_bd a
    obtain ⟨p1, p2⟩ := prod_bd (n := n) b1 (show dff b a ≤ 32768 by omega) h3 (by omega)
    obtain ⟨q1, q2⟩ := tdiv_bd h1 ⟨p1, p2⟩
    go_enter Try.func27, Try.ntmps27
    go_wp2_with (first | (go_at_call 17; refine (rdiff_any _ _ _).mono ?_; rintro e w1 ⟨rfl, hb1⟩; (first | replace hb := Ext.trans hb hb1 | replace hb := Ext.trans (Ext.trans hb (Ext.drewN _ _)) hb1 | replace hb := Ext.trans (Ext.trans hb (Ext.alloc _ _)) hb1 | have hb := hb1); clear hb1; obtain ⟨hc1, hf1⟩ := hb.old) | (go_at_call 15; refine (rnorm_any _ _).mono ?_; rintro e w1 ⟨rfl, hb1⟩; (first | replace hb := Ext.trans hb hb1 | replace hb := Ext.trans (Ext.trans hb (Ext.drewN _ _)) hb1 | replace hb := Ext.trans (Ext.trans hb (Ext.alloc _ _)) hb1 | have hb := hb1); clear hb1; obtain ⟨hc1, hf1⟩ := hb.old))
    go_ret2
    exact ⟨by rw [HR.out, ← HW.out]; rfl, (by repeat (first | exact Ext.refl _ | assumption | exact Ext.alloc _ _ | refine Ext.trans ?_ (by assumption) | refine Ext.trans ?_ (Ext.alloc _ _) | refine Ext.trans ?_ (Ext.drewN _ _) | refine Ext.trans ?_ (Ext.drew _)))⟩
  · have HR := Lib.hid (itp_f (a := a) (b := b) h)
    by_cases h1 : d < 1
    · clear h
      go_enter Try.func27, Try.ntmps27
      go_wp2
      go_ret2
      exact ⟨by rw [HR.out]; rfl, (by repeat (first | exact Ext.refl _ | assumption | exact Ext.alloc _ _ | refine Ext.trans ?_ (by assumption) | refine Ext.trans ?_ (Ext.alloc _ _) | refine Ext.trans ?_ (Ext.drewN _ _) | refine Ext.trans ?_ (Ext.drew _)))⟩
    · by_cases h2 : 1048576 < d
      · clear h
        go_enter Try.func27, Try.ntmps27
        go_wp2
        go_ret2
        exact ⟨by rw [HR.out]; rfl, (by repeat (first | exact Ext.refl _ | assumption | exact Ext.alloc _ _ | refine Ext.trans ?_ (by assumption) | refine Ext.trans ?_ (Ext.alloc _ _) | refine Ext.trans ?_ (Ext.drewN _ _) | refine Ext.trans ?_ (Ext.drew _)))⟩
      · by_cases h3 : n < 0
        · clear h
          go_enter Try.func27, Try.ntmps27
          go_wp2
          go_ret2
          exact ⟨by rw [HR.out]; rfl, (by repeat (first | exact Ext.refl _ | assumption | exact Ext.alloc _ _ | refine Ext.trans ?_ (by assumption) | refine Ext.trans ?_ (Ext.alloc _ _) | refine Ext.trans ?_ (Ext.drewN _ _) | refine Ext.trans ?_ (Ext.drew _)))⟩
        · have h4 : d < n := by omega
          clear h
          go_enter Try.func27, Try.ntmps27
          go_wp2
          go_ret2
          exact ⟨by rw [HR.out]; rfl, (by repeat (first | exact Ext.refl _ | assumption | exact Ext.alloc _ _ | refine Ext.trans ?_ (by assumption) | refine Ext.trans ?_ (Ext.alloc _ _) | refine Ext.trans ?_ (Ext.drewN _ _) | refine Ext.trans ?_ (Ext.drew _)))⟩

set_option maxHeartbeats 400000 in
theorem unwrap_any (p a : Int) (w : World) : Calls Try.prog 29 #[I p, I a] w fun e w' => e = .returned (res2 (unw p a)) ∧ Ext w w' := by
  by_cases h : isP p
  · have HR := Lib.hid (unw_t (a := a) h)
    have hb : -72057594037927936 ≤ p ∧ p ≤ 72057594037927936 := h
    have HP : Hid (decide (isP p) = true) := by show decide (isP p) = true; exact decide_eq_true h
    obtain ⟨l, u⟩ := hb
    clear h
    obtain ⟨b1, b2⟩ := dff_bd a p
    go_enter Try.func29, Try.ntmps29
    go_wp2_with (first | (go_at_call 34; refine (isPos_is _ _ _ HP.out).mono ?_; rintro e w1 ⟨rfl, hb1⟩; (first | replace hb := Ext.trans hb hb1 | replace hb := Ext.trans (Ext.trans hb (Ext.drewN _ _)) hb1 | replace hb := Ext.trans (Ext.trans hb (Ext.alloc _ _)) hb1 | have hb := hb1); clear hb1; obtain ⟨hc1, hf1⟩ := hb.old) | (go_at_call 16; refine (diff_any _ _ _).mono ?_; rintro e w1 ⟨rfl, hb1⟩; (first | replace hb := Ext.trans hb hb1 | replace hb := Ext.trans (Ext.trans hb (Ext.drewN _ _)) hb1 | replace hb := Ext.trans (Ext.trans hb (Ext.alloc _ _)) hb1 | have hb := hb1); clear hb1; obtain ⟨hc1, hf1⟩ := hb.old))
    go_ret2
    exact ⟨by rw [HR.out]; rfl, (by repeat (first | exact Ext.refl _ | assumption | exact Ext.alloc _ _ | refine Ext.trans ?_ (by assumption) | refine Ext.trans ?_ (Ext.alloc _ _) | refine Ext.trans ?_ (Ext.drewN _ _) | refine Ext.trans ?_ (Ext.drew _)))⟩
  · have HR := Lib.hid (unw_f (a := a) h)
    have HP : Hid (decide (isP p) = false) := by show decide (isP p) = false; exact decide_eq_false h
    clear h
    go_enter Try.func29, Try.ntmps29
    go_wp2_with (first | (go_at_call 34; refine (isPos_is _ _ _ HP.out).mono ?_; rintro e w1 ⟨rfl, hb1⟩; (first | replace hb := Ext.trans hb hb1 | replace hb := Ext.trans (Ext.trans hb (Ext.drewN _ _)) hb1 | replace hb := Ext.trans (Ext.trans hb (Ext.alloc _ _)) hb1 | have hb := hb1); clear hb1; obtain ⟨hc1, hf1⟩ := hb.old) | (go_at_call 16; refine (diff_any _ _ _).mono ?_; rintro e w1 ⟨rfl, hb1⟩; (first | replace hb := Ext.trans hb hb1 | replace hb := Ext.trans (Ext.trans hb (Ext.drewN _ _)) hb1 | replace hb := Ext.trans (Ext.trans hb (Ext.alloc _ _)) hb1 | have hb := hb1); clear hb1; obtain ⟨hc1, hf1⟩ := hb.old))
    go_ret2
    exact ⟨by rw [HR.out]; rfl, (by repeat (first | exact Ext.refl _ | assumption | exact Ext.alloc _ _ | refine Ext.trans ?_ (by assumption) | refine Ext.trans ?_ (Ext.alloc _ _) | refine Ext.trans ?_ (Ext.drewN _ _) | refine Ext.trans ?_ (Ext.drew _)))⟩

set_option maxHeartbeats 400000 in
theorem runwrap_any (p a : Int) (w : World) : Calls Try.prog 30 #[I p, I a] w fun e w' => e = .returned (ref2 (unw p a)) ∧ Ext w w' := by
  by_cases h : isP p
  · have HR := Lib.hid (unw_t (a := a) h)
    have hb : -72057594037927936 ≤ p ∧ p ≤ 72057594037927936 := h
    obtain ⟨l, u⟩ := hb
    clear h
    obtain ⟨b1, b2⟩ := dff_bd a p
    go_enter Try.func30, Try.ntmps30
    go_wp2_with (first | (go_at_call 17; refine (rdiff_any _ _ _).mono ?_; rintro e w1 ⟨rfl, hb1⟩; (first | replace hb := Ext.trans hb hb1 | replace hb := Ext.trans (Ext.trans hb (Ext.drewN _ _)) hb1 | replace hb := Ext.trans (Ext.trans hb (Ext.alloc _ _)) hb1 | have hb := hb1); clear hb1; obtain ⟨hc1, hf1⟩ := hb.old))
    go_ret2
    exact ⟨by rw [HR.out]; rfl, (by repeat (first | exact Ext.refl _ | assumption | exact Ext.alloc _ _ | refine Ext.trans ?_ (by assumption) | refine Ext.trans ?_ (Ext.alloc _ _) | refine Ext.trans ?_ (Ext.drewN _ _) | refine Ext.trans ?_ (Ext.drew _)))⟩
  · have HR := Lib.hid (unw_f (a := a) h)
    by_cases h1 : p < -72057594037927936
    · clear h
      go_enter Try.func30, Try.ntmps30
      go_wp2
      go_ret2
      exact ⟨by rw [HR.out]; rfl, (by repeat (first | exact Ext.refl _ | assumption | exact Ext.alloc _ _ | refine Ext.trans ?_ (by assumption) | refine Ext.trans ?_ (Ext.alloc _ _) | refine Ext.trans ?_ (Ext.drewN _ _) | refine Ext.trans ?_ (Ext.drew _)))⟩
    · have h2 : 72057594037927936 < p := by
        have h' : ¬ (-72057594037927936 ≤ p ∧ p ≤ 72057594037927936) := h
        omega
      clear h
      go_enter Try.func30, Try.ntmps30
      go_wp2
      go_ret2
      exact ⟨by rw [HR.out]; rfl, (by repeat (first | exact Ext.refl _ | assumption | exact Ext.alloc _ _ | refine Ext.trans ?_ (by assumption) | refine Ext.trans ?_ (Ext.alloc _ _) | refine Ext.trans ?_ (Ext.drewN _ _) | refine Ext.trans ?_ (Ext.drew _)))⟩

theorem pk_bd {p k : Int} (l : -72057594037927936 ≤ p) (u : p ≤ 72057594037927936) (h1 : 1 ≤ k) (h2 : k ≤ 64) : -4611686018427387904 ≤ p * k ∧ p * k ≤ 4611686018427387904 := by
  have a := Int.mul_le_mul_of_nonneg_right l (show 0 ≤ k by omega)
  have b := Int.mul_le_mul_of_nonneg_right u (show 0 ≤ k by omega)
  omega
theorem nk_bd {p k : Int} (l : 0 ≤ p) (u : p ≤ 65535) (h1 : 1 ≤ k) (h2 : k ≤ 64) : 0 ≤ p * k ∧ p * k ≤ 4194304 := by
  have a := Int.mul_le_mul_of_nonneg_right l (show 0 ≤ k by omega)
  have b := Int.mul_le_mul_of_nonneg_right u (show 0 ≤ k by omega)
  omega

set_option maxHeartbeats 400000 in
theorem electric_any (p k o : Int) (w : World) : Calls Try.prog 31 #[I p, I k, I o] w fun e w' => e = .returned (res2 (ele p k o)) ∧ Ext w w' := by
  by_cases h : isP p
  · have hb : -72057594037927936 ≤ p ∧ p ≤ 72057594037927936 := h
    have HP : Hid (decide (isP p) = true) := by show decide (isP p) = true; exact decide_eq_true h
    obtain ⟨l, u⟩ := hb
    by_cases h1 : k < 1
    · have HR := Lib.hid (ele_f (o := o) (show ¬ (isP p ∧ 1 ≤ k ∧ k ≤ 64) by omega))
      clear h
      go_enter Try.func31, Try.ntmps31
      go_wp2_with (first | (go_at_call 34; refine (isPos_is _ _ _ HP.out).mono ?_; rintro e w1 ⟨rfl, hb1⟩; (first | replace hb := Ext.trans hb hb1 | replace hb := Ext.trans (Ext.trans hb (Ext.drewN _ _)) hb1 | replace hb := Ext.trans (Ext.trans hb (Ext.alloc _ _)) hb1 | have hb := hb1); clear hb1; obtain ⟨hc1, hf1⟩ := hb.old))
      go_ret2
      exact ⟨by rw [HR.out]; rfl, (by repeat (first | exact Ext.refl _ | assumption | exact Ext.alloc _ _ | refine Ext.trans ?_ (by assumption) | refine Ext.trans ?_ (Ext.alloc _ _) | refine Ext.trans ?_ (Ext.drewN _ _) | refine Ext.trans ?_ (Ext.drew _)))⟩
    · by_cases h2 : 64 < k
      · have HR := Lib.hid (ele_f (o := o) (show ¬ (isP p ∧ 1 ≤ k ∧ k ≤ 64) by omega))
        clear h
        go_enter Try.func31, Try.ntmps31
        go_wp2_with (first | (go_at_call 34; refine (isPos_is _ _ _ HP.out).mono ?_; rintro e w1 ⟨rfl, hb1⟩; (first | replace hb := Ext.trans hb hb1 | replace hb := Ext.trans (Ext.trans hb (Ext.drewN _ _)) hb1 | replace hb := Ext.trans (Ext.trans hb (Ext.alloc _ _)) hb1 | have hb := hb1); clear hb1; obtain ⟨hc1, hf1⟩ := hb.old))
        go_ret2
        exact ⟨by rw [HR.out]; rfl, (by repeat (first | exact Ext.refl _ | assumption | exact Ext.alloc _ _ | refine Ext.trans ?_ (by assumption) | refine Ext.trans ?_ (Ext.alloc _ _) | refine Ext.trans ?_ (Ext.drewN _ _) | refine Ext.trans ?_ (Ext.drew _)))⟩
      · have HR := Lib.hid (ele_t (o := o) h (show 1 ≤ k by omega) (show k ≤ 64 by omega))
        have HW := Lib.hid (nrm_wrap (p * k + o))
        obtain ⟨q1, q2⟩ := pk_bd l u (show 1 ≤ k by omega) (show k ≤ 64 by omega)
        clear h
        go_enter Try.func31, Try.ntmps31
        go_wp2_with (first | (go_at_call 34; refine (isPos_is _ _ _ HP.out).mono ?_; rintro e w1 ⟨rfl, hb1⟩; (first | replace hb := Ext.trans hb hb1 | replace hb := Ext.trans (Ext.trans hb (Ext.drewN _ _)) hb1 | replace hb := Ext.trans (Ext.trans hb (Ext.alloc _ _)) hb1 | have hb := hb1); clear hb1; obtain ⟨hc1, hf1⟩ := hb.old) | (go_at_call 14; refine (norm_any _ _).mono ?_; rintro e w1 ⟨rfl, hb1⟩; (first | replace hb := Ext.trans hb hb1 | replace hb := Ext.trans (Ext.trans hb (Ext.drewN _ _)) hb1 | replace hb := Ext.trans (Ext.trans hb (Ext.alloc _ _)) hb1 | have hb := hb1); clear hb1; obtain ⟨hc1, hf1⟩ := hb.old))
        go_ret2
        exact ⟨by rw [HR.out, ← HW.out]; rfl, (by repeat (first | exact Ext.refl _ | assumption | exact Ext.alloc _ _ | refine Ext.trans ?_ (by assumption) | refine Ext.trans ?_ (Ext.alloc _ _) | refine Ext.trans ?_ (Ext.drewN _ _) | refine Ext.trans ?_ (Ext.drew _)))⟩
  · have HR := Lib.hid (ele_f (o := o) (show ¬ (isP p ∧ 1 ≤ k ∧ k ≤ 64) from fun hh => h hh.1))
    have HP : Hid (decide (isP p) = false) := by show decide (isP p) = false; exact decide_eq_false h
    clear h
    go_enter Try.func31, Try.ntmps31
    go_wp2_with (first | (go_at_call 34; refine (isPos_is _ _ _ HP.out).mono ?_; rintro e w1 ⟨rfl, hb1⟩; (first | replace hb := Ext.trans hb hb1 | replace hb := Ext.trans (Ext.trans hb (Ext.drewN _ _)) hb1 | replace hb := Ext.trans (Ext.trans hb (Ext.alloc _ _)) hb1 | have hb := hb1); clear hb1; obtain ⟨hc1, hf1⟩ := hb.old))
    go_ret2
    exact ⟨by rw [HR.out]; rfl, (by repeat (first | exact Ext.refl _ | assumption | exact Ext.alloc _ _ | refine Ext.trans ?_ (by assumption) | refine Ext.trans ?_ (Ext.alloc _ _) | refine Ext.trans ?_ (Ext.drewN _ _) | refine Ext.trans ?_ (Ext.drew _)))⟩

set_option maxHeartbeats 400000 in
theorem relectric_any (p k o : Int) (w : World) : Calls Try.prog 32 #[I p, I k, I o] w fun e w' => e = .returned (ref2 (ele p k o)) ∧ Ext w w' := by
  by_cases h : isP p
  · have hb : -72057594037927936 ≤ p ∧ p ≤ 72057594037927936 := h
    obtain ⟨l, u⟩ := hb
    by_cases h1 : k < 1
    · have HR := Lib.hid (ele_f (o := o) (show ¬ (isP p ∧ 1 ≤ k ∧ k ≤ 64) by omega))
      clear h
      go_enter Try.func32, Try.ntmps32
      go_wp2
      go_ret2
      exact ⟨by rw [HR.out]; rfl, (by repeat (first | exact Ext.refl _ | assumption | exact Ext.alloc _ _ | refine Ext.trans ?_ (by assumption) | refine Ext.trans ?_ (Ext.alloc _ _) | refine Ext.trans ?_ (Ext.drewN _ _) | refine Ext.trans ?_ (Ext.drew _)))⟩
    · by_cases h2 : 64 < k
      · have HR := Lib.hid (ele_f (o := o) (show ¬ (isP p ∧ 1 ≤ k ∧ k ≤ 64) by omega))
        clear h
        go_enter Try.func32, Try.ntmps32
        go_wp2
        go_ret2
        exact ⟨by rw [HR.out]; rfl, (by repeat (first | exact Ext.refl _ | assumption | exact Ext.alloc _ _ | refine Ext.trans ?_ (by assumption) | refine Ext.trans ?_ (Ext.alloc _ _) | refine Ext.trans ?_ (Ext.drewN _ _) | refine Ext.trans ?_ (Ext.drew _)))⟩
      · have HR := Lib.hid (ele_t (o := o) h (show 1 ≤ k by omega) (show k ≤ 64 by omega))
        have HW := Lib.hid (ele_ref p k o)
        obtain ⟨a1, a2⟩ := nrm_bd p
        obtain ⟨a3, a4⟩ := nrm_bd o
        obtain ⟨q1, q2⟩ := nk_bd a1 a2 (show 1 ≤ k by omega) (show k ≤ 64 by omega)
        clear h
        go_enter Try.func32, Try.ntmps32
        go_wp2_with (first | (go_at_call 15; refine (rnorm_any _ _).mono ?_; rintro e w1 ⟨rfl, hb1⟩; (first | replace hb := Ext.trans hb hb1 | replace hb := Ext.trans (Ext.trans hb (Ext.drewN _ _)) hb1 | replace hb := Ext.trans (Ext.trans hb (Ext.alloc _ _)) hb1 | have hb := hb1); clear hb1; obtain ⟨hc1, hf1⟩ := hb.old))
        go_ret2
        exact ⟨by rw [HR.out, ← HW.out]; rfl, (by repeat (first | exact Ext.refl _ | assumption | exact Ext.alloc _ _ | refine Ext.trans ?_ (by assumption) | refine Ext.trans ?_ (Ext.alloc _ _) | refine Ext.trans ?_ (Ext.drewN _ _) | refine Ext.trans ?_ (Ext.drew _)))⟩
  · have HR := Lib.hid (ele_f (o := o) (show ¬ (isP p ∧ 1 ≤ k ∧ k ≤ 64) from fun hh => h hh.1))
    by_cases h1 : p < -72057594037927936
    · clear h
      go_enter Try.func32, Try.ntmps32
      go_wp2
      go_ret2
      exact ⟨by rw [HR.out]; rfl, (by repeat (first | exact Ext.refl _ | assumption | exact Ext.alloc _ _ | refine Ext.trans ?_ (by assumption) | refine Ext.trans ?_ (Ext.alloc _ _) | refine Ext.trans ?_ (Ext.drewN _ _) | refine Ext.trans ?_ (Ext.drew _)))⟩
    · have h2 : 72057594037927936 < p := by
        have h' : ¬ (-72057594037927936 ≤ p ∧ p ≤ 72057594037927936) := h
        omega
      clear h
      go_enter Try.func32, Try.ntmps32
      go_wp2
      go_ret2
      exact ⟨by rw [HR.out]; rfl, (by repeat (first | exact Ext.refl _ | assumption | exact Ext.alloc _ _ | refine Ext.trans ?_ (by assumption) | refine Ext.trans ?_ (Ext.alloc _ _) | refine Ext.trans ?_ (Ext.drewN _ _) | refine Ext.trans ?_ (Ext.drew _)))⟩
end Go.Proofs.Ytfjkijpfkpcjdaa
