/- Quotients and conversions. -/
import Derived.Test.YtfllhbebackbdaaWordg
namespace Go.Proofs.Ytfllhbebackbdaa
open Go.RowKit

theorem divF_pair {b s x y n m : Int} (h : ¬ pairF b s x y = 0) : divF b s x y n m = (0, false, 3) := by
  unfold divF; rw [if_neg (fun hh => h hh.1)]
theorem divF_bad {b s x y n m : Int} (h : ¬ (0 ≤ n ∧ n ≤ 31 ∧ 0 ≤ m ∧ m ≤ 3)) : divF b s x y n m = (0, false, 3) := by
  unfold divF; rw [if_neg (fun hh => h hh.2)]
theorem divF_zero {b s x n m : Int} (h : pairF b s x 0 = 0) (h1 : 0 ≤ n) (h2 : n ≤ 31) (h3 : 0 ≤ m) (h4 : m ≤ 3) : divF b s x 0 n m = (0, false, 8) := by
  unfold divF; rw [if_pos ⟨h, h1, h2, h3, h4⟩, if_pos rfl]
theorem divF_ok {b s x y n m : Int} (h : pairF b s x y = 0) (h1 : 0 ≤ n) (h2 : n ≤ 31) (h3 : 0 ≤ m) (h4 : m ≤ 3) (hy : ¬ y = 0) : divF b s x y n m = (clipF b (quoF x y n m), cutF b (quoF x y n m), 0) := by
  unfold divF; rw [if_pos ⟨h, h1, h2, h3, h4⟩, if_neg hy]

set_option maxHeartbeats 400000 in
theorem divide_any (X y m : Int) (w : World) (hX1 : -4611686018427387904 ≤ X) (hX2 : X ≤ 4611686018427387904) (hy0 : ¬ y = 0) (hy1 : -2147483648 ≤ y) (hy2 : y ≤ 2147483647) (hm0 : 0 ≤ m) (hm3 : m ≤ 3) :
    Calls Try.prog 46 #[I X, I y, I m] w fun e w' => e = .returned (I (quoW X y m)) ∧ Ext w w' := by
  by_cases hn : y < 0
  · obtain ⟨d, hd⟩ : ∃ d, -y = d := ⟨_, rfl⟩
    obtain ⟨Z, hZ⟩ : ∃ Z, -X = Z := ⟨_, rfl⟩
    unfold quoW
    rw [show denF y = d by unfold denF; rw [if_pos hn, hd], if_pos hn, hZ]
    have hd1 : 1 ≤ d := by omega
    have hd2 : d ≤ 2147483648 := by omega
    have hZ1 : -4611686018427387904 ≤ Z := by omega
    have hZ2 : Z ≤ 4611686018427387904 := by omega
    clear hy0
    obtain ⟨e1, e2, e3, e4, e5⟩ := ediv_bd (X := Z) hd1 hZ1 hZ2
    obtain ⟨t1, t2⟩ := tdiv_facts (X := Z) hd1
    have hz : (d == 0) = false := by simp; omega
    clear e5
    by_cases hr : Z.tmod d < 0
    · obtain ⟨r1, r2⟩ := t1 hr
      clear t1 t2
      have b1 : -4611686018427387904 ≤ Z.tdiv d := by omega
      have b2 : Z.tdiv d ≤ 4611686018427387905 := by omega
      have b3 : -2147483648 ≤ Z.tmod d := by omega
      go_enter Try.func46, Try.ntmps46
      go_wp2_with fail
      go_quiet (fail)
      go_wp2_with (first | (go_at_call 53; refine (round_any _ _ _ _ _ e3 e4 (by omega) hm0 hm3 (by omega) (.inr (by omega))).mono ?_; rintro e w1 ⟨rfl, hb1⟩; (first | replace hb := Ext.trans hb hb1 | replace hb := Ext.trans (Ext.trans hb (Ext.drewN _ _)) hb1 | replace hb := Ext.trans (Ext.trans hb (Ext.alloc _ _)) hb1 | have hb := hb1); clear hb1; obtain ⟨hc1, hf1⟩ := hb.old))
      go_ret
      exact ⟨ret_int rfl, (by repeat (first | exact Ext.refl _ | assumption | exact Ext.alloc _ _ | refine Ext.trans ?_ (by assumption) | refine Ext.trans ?_ (Ext.alloc _ _) | refine Ext.trans ?_ (Ext.drewN _ _) | refine Ext.trans ?_ (Ext.drew _)))⟩
    · obtain ⟨r1, r2⟩ := t2 hr
      clear t1 t2
      go_enter Try.func46, Try.ntmps46
      go_wp2_with fail
      go_quiet (fail)
      go_wp2_with (first | (go_at_call 53; refine (round_any _ _ _ _ _ e3 e4 (by omega) hm0 hm3 (by omega) (.inr (by omega))).mono ?_; rintro e w1 ⟨rfl, hb1⟩; (first | replace hb := Ext.trans hb hb1 | replace hb := Ext.trans (Ext.trans hb (Ext.drewN _ _)) hb1 | replace hb := Ext.trans (Ext.trans hb (Ext.alloc _ _)) hb1 | have hb := hb1); clear hb1; obtain ⟨hc1, hf1⟩ := hb.old))
      go_ret
      exact ⟨ret_int rfl, (by repeat (first | exact Ext.refl _ | assumption | exact Ext.alloc _ _ | refine Ext.trans ?_ (by assumption) | refine Ext.trans ?_ (Ext.alloc _ _) | refine Ext.trans ?_ (Ext.drewN _ _) | refine Ext.trans ?_ (Ext.drew _)))⟩
  · obtain ⟨d, hd⟩ : ∃ d, y = d := ⟨_, rfl⟩
    obtain ⟨Z, hZ⟩ : ∃ Z, X = Z := ⟨_, rfl⟩
    subst hZ
    unfold quoW
    rw [show denF y = y by unfold denF; rw [if_neg hn], if_neg hn]
    subst hd
    have hd1 : 1 ≤ y := by omega
    have hZ1 := hX1
    have hZ2 := hX2
    clear hy0
    obtain ⟨e1, e2, e3, e4, e5⟩ := ediv_bd (X := X) hd1 hZ1 hZ2
    obtain ⟨t1, t2⟩ := tdiv_facts (X := X) hd1
    have hz : (y == 0) = false := by simp; omega
    clear e5
    by_cases hr : X.tmod y < 0
    · obtain ⟨r1, r2⟩ := t1 hr
      clear t1 t2
      have b1 : -4611686018427387904 ≤ X.tdiv y := by omega
      have b2 : X.tdiv y ≤ 4611686018427387905 := by omega
      have b3 : -2147483648 ≤ X.tmod y := by omega
      go_enter Try.func46, Try.ntmps46
      go_wp2_with fail
      go_quiet (fail)
      go_wp2_with (first | (go_at_call 53; refine (round_any _ _ _ _ _ e3 e4 (by omega) hm0 hm3 (by omega) (.inr (by omega))).mono ?_; rintro e w1 ⟨rfl, hb1⟩; (first | replace hb := Ext.trans hb hb1 | replace hb := Ext.trans (Ext.trans hb (Ext.drewN _ _)) hb1 | replace hb := Ext.trans (Ext.trans hb (Ext.alloc _ _)) hb1 | have hb := hb1); clear hb1; obtain ⟨hc1, hf1⟩ := hb.old))
      go_ret
      exact ⟨ret_int rfl, (by repeat (first | exact Ext.refl _ | assumption | exact Ext.alloc _ _ | refine Ext.trans ?_ (by assumption) | refine Ext.trans ?_ (Ext.alloc _ _) | refine Ext.trans ?_ (Ext.drewN _ _) | refine Ext.trans ?_ (Ext.drew _)))⟩
    · obtain ⟨r1, r2⟩ := t2 hr
      clear t1 t2
      go_enter Try.func46, Try.ntmps46
      go_wp2_with fail
      go_quiet (fail)
      go_wp2_with (first | (go_at_call 53; refine (round_any _ _ _ _ _ e3 e4 (by omega) hm0 hm3 (by omega) (.inr (by omega))).mono ?_; rintro e w1 ⟨rfl, hb1⟩; (first | replace hb := Ext.trans hb hb1 | replace hb := Ext.trans (Ext.trans hb (Ext.drewN _ _)) hb1 | replace hb := Ext.trans (Ext.trans hb (Ext.alloc _ _)) hb1 | have hb := hb1); clear hb1; obtain ⟨hc1, hf1⟩ := hb.old))
      go_ret
      exact ⟨ret_int rfl, (by repeat (first | exact Ext.refl _ | assumption | exact Ext.alloc _ _ | refine Ext.trans ?_ (by assumption) | refine Ext.trans ?_ (Ext.alloc _ _) | refine Ext.trans ?_ (Ext.drewN _ _) | refine Ext.trans ?_ (Ext.drew _)))⟩

set_option maxHeartbeats 400000 in
theorem div_any (b s x y n m : Int) (w : World) :
    Calls Try.prog 31 #[fmt b s, I x, I y, I n, I m] w fun e w' => e = .returned (res3 (divF b s x y n m)) ∧ Ext w w' := by
  by_cases hp : pairF b s x y = 0
  · obtain ⟨hv, hx, hy⟩ := pair_of hp
    obtain ⟨h1, h2, _, _⟩ := chk_of hv
    have bx := inB_bd h2 hx
    obtain ⟨y1, y2⟩ := inB_bd h2 hy
    by_cases hn : 0 ≤ n ∧ n ≤ 31 ∧ 0 ≤ m ∧ m ≤ 3
    · obtain ⟨n1, n2, m1, m2⟩ := hn
      have HM := Lib.hid (okM_t m1 m2)
      obtain ⟨s1, s2⟩ := shl_bd bx n2
      by_cases h0 : y = 0
      · subst h0
        have HR := Lib.hid (divF_zero (n := n) (m := m) hp n1 n2 m1 m2)
        have HP := Lib.hid hp; clear hp hv hx hy
        go_enter Try.func31, Try.ntmps31
        go_wp2_with (first
          | (go_at_call 43; refine (pair_nil _ _ _ _ _ HP.out).mono ?_; rintro e w1 ⟨rfl, hb1⟩; (first | replace hb := Ext.trans hb hb1 | replace hb := Ext.trans (Ext.trans hb (Ext.drewN _ _)) hb1 | replace hb := Ext.trans (Ext.trans hb (Ext.alloc _ _)) hb1 | have hb := hb1); clear hb1; obtain ⟨hc1, hf1⟩ := hb.old)
          | (go_at_call 39; refine (isMode_is _ _ _ HM.out).mono ?_; rintro e w1 ⟨rfl, hb1⟩; (first | replace hb := Ext.trans hb hb1 | replace hb := Ext.trans (Ext.trans hb (Ext.drewN _ _)) hb1 | replace hb := Ext.trans (Ext.trans hb (Ext.alloc _ _)) hb1 | have hb := hb1); clear hb1; obtain ⟨hc1, hf1⟩ := hb.old))
        go_ret3
        exact ⟨by rw [HR.out]; rfl, (by repeat (first | exact Ext.refl _ | assumption | exact Ext.alloc _ _ | refine Ext.trans ?_ (by assumption) | refine Ext.trans ?_ (Ext.alloc _ _) | refine Ext.trans ?_ (Ext.drewN _ _) | refine Ext.trans ?_ (Ext.drew _)))⟩
      · have HR := Lib.hid (divF_ok (n := n) (m := m) hp n1 n2 m1 m2 h0)
        have h0' : (y == 0) = false := by simpa using h0
        have HP := Lib.hid hp; clear hp hv hx hy
        have H0 := Lib.hid h0; clear h0
        go_enter Try.func31, Try.ntmps31
        go_wp2_with (first
          | (go_at_call 43; refine (pair_nil _ _ _ _ _ HP.out).mono ?_; rintro e w1 ⟨rfl, hb1⟩; (first | replace hb := Ext.trans hb hb1 | replace hb := Ext.trans (Ext.trans hb (Ext.drewN _ _)) hb1 | replace hb := Ext.trans (Ext.trans hb (Ext.alloc _ _)) hb1 | have hb := hb1); clear hb1; obtain ⟨hc1, hf1⟩ := hb.old)
          | (go_at_call 39; refine (isMode_is _ _ _ HM.out).mono ?_; rintro e w1 ⟨rfl, hb1⟩; (first | replace hb := Ext.trans hb hb1 | replace hb := Ext.trans (Ext.trans hb (Ext.drewN _ _)) hb1 | replace hb := Ext.trans (Ext.trans hb (Ext.alloc _ _)) hb1 | have hb := hb1); clear hb1; obtain ⟨hc1, hf1⟩ := hb.old))
        have hL := fun (x : Later _) => (Ext.trans hb x.ext).old.1
        refine wp_region_later (by kernel_rfl) (by kernel_rfl) ?_
        repeat (go_big_quiet_step ((first | (go_at_call 46; exact Calls.later (divide_any _ _ _ _ s1 s2 H0.out y1 y2 m1 m2)) | (go_at_call 38; exact Calls.later (saturate_any _ _ _ _ h1 h2)))))
        refine wpQuiet_nil ?_
        intro w2 hw2
        replace hb := Ext.trans hb (Later.of hw2)
        clear hw2 hL
        obtain ⟨hc, hf⟩ := hb.old
        go_wp2
        go_ret3
        exact ⟨by rw [HR.out]; rfl, (by repeat (first | exact Ext.refl _ | assumption | exact Ext.alloc _ _ | refine Ext.trans ?_ (by assumption) | refine Ext.trans ?_ (Ext.alloc _ _) | refine Ext.trans ?_ (Ext.drewN _ _) | refine Ext.trans ?_ (Ext.drew _)))⟩
    · have HR := Lib.hid (divF_bad (b := b) (s := s) (x := x) (y := y) hn)
      have HP := Lib.hid hp; clear hp hv hx hy
      by_cases hm : 0 ≤ m ∧ m ≤ 3
      · replace hn : n < 0 ∨ 31 < n := by omega
        have HM := Lib.hid (okM_t hm.1 hm.2)
        clear hm
        go_enter Try.func31, Try.ntmps31
        go_wp2_with (first
          | (go_at_call 43; refine (pair_nil _ _ _ _ _ HP.out).mono ?_; rintro e w1 ⟨rfl, hb1⟩; (first | replace hb := Ext.trans hb hb1 | replace hb := Ext.trans (Ext.trans hb (Ext.drewN _ _)) hb1 | replace hb := Ext.trans (Ext.trans hb (Ext.alloc _ _)) hb1 | have hb := hb1); clear hb1; obtain ⟨hc1, hf1⟩ := hb.old)
          | (go_at_call 39; refine (isMode_is _ _ _ HM.out).mono ?_; rintro e w1 ⟨rfl, hb1⟩; (first | replace hb := Ext.trans hb hb1 | replace hb := Ext.trans (Ext.trans hb (Ext.drewN _ _)) hb1 | replace hb := Ext.trans (Ext.trans hb (Ext.alloc _ _)) hb1 | have hb := hb1); clear hb1; obtain ⟨hc1, hf1⟩ := hb.old))
        all_goals (go_ret3; exact ⟨by rw [HR.out]; rfl, (by repeat (first | exact Ext.refl _ | assumption | exact Ext.alloc _ _ | refine Ext.trans ?_ (by assumption) | refine Ext.trans ?_ (Ext.alloc _ _) | refine Ext.trans ?_ (Ext.drewN _ _) | refine Ext.trans ?_ (Ext.drew _)))⟩)
      · have HM := Lib.hid (okM_f hm)
        clear hm hn
        go_enter Try.func31, Try.ntmps31
        go_wp2_with (first
          | (go_at_call 43; refine (pair_nil _ _ _ _ _ HP.out).mono ?_; rintro e w1 ⟨rfl, hb1⟩; (first | replace hb := Ext.trans hb hb1 | replace hb := Ext.trans (Ext.trans hb (Ext.drewN _ _)) hb1 | replace hb := Ext.trans (Ext.trans hb (Ext.alloc _ _)) hb1 | have hb := hb1); clear hb1; obtain ⟨hc1, hf1⟩ := hb.old)
          | (go_at_call 39; refine (isMode_is _ _ _ HM.out).mono ?_; rintro e w1 ⟨rfl, hb1⟩; (first | replace hb := Ext.trans hb hb1 | replace hb := Ext.trans (Ext.trans hb (Ext.drewN _ _)) hb1 | replace hb := Ext.trans (Ext.trans hb (Ext.alloc _ _)) hb1 | have hb := hb1); clear hb1; obtain ⟨hc1, hf1⟩ := hb.old))
        all_goals (go_ret3; exact ⟨by rw [HR.out]; rfl, (by repeat (first | exact Ext.refl _ | assumption | exact Ext.alloc _ _ | refine Ext.trans ?_ (by assumption) | refine Ext.trans ?_ (Ext.alloc _ _) | refine Ext.trans ?_ (Ext.drewN _ _) | refine Ext.trans ?_ (Ext.drew _)))⟩)
  · have HR := Lib.hid (divF_pair (n := n) (m := m) hp)
    have HP := Lib.hid hp; clear hp
    go_enter Try.func31, Try.ntmps31
    go_wp2_with (first
      | (go_at_call 43; refine (pair_err _ _ _ _ _ HP.out).mono ?_; rintro e w1 ⟨rfl, hb1⟩; (first | replace hb := Ext.trans hb hb1 | replace hb := Ext.trans (Ext.trans hb (Ext.drewN _ _)) hb1 | replace hb := Ext.trans (Ext.trans hb (Ext.alloc _ _)) hb1 | have hb := hb1); clear hb1; obtain ⟨hc1, hf1⟩ := hb.old))
    go_ret3
    exact ⟨by rw [HR.out]; rfl, (by repeat (first | exact Ext.refl _ | assumption | exact Ext.alloc _ _ | refine Ext.trans ?_ (by assumption) | refine Ext.trans ?_ (Ext.alloc _ _) | refine Ext.trans ?_ (Ext.drewN _ _) | refine Ext.trans ?_ (Ext.drew _)))⟩

theorem isF_pair {b s x y : Int} (h : pairF b s x y = 0) : isF b s x = true ∧ isF b s y = true := by
  obtain ⟨hv, hx, hy⟩ := pair_of h
  exact ⟨by rw [isF_ok hv, hx], by rw [isF_ok hv, hy]⟩

set_option maxRecDepth 100000 in
set_option maxHeartbeats 1000000 in
theorem rdiv_ok (b s x y n m : Int) (w : World) (hp : pairF b s x y = 0) (n1 : 0 ≤ n) (n2 : n ≤ 31) (m1 : 0 ≤ m) (m2 : m ≤ 3) (h0 : ¬ y = 0) :
    Calls Try.prog 32 #[fmt b s, I x, I y, I n, I m] w fun e w' => e = .returned (ref3 (divF b s x y n m)) ∧ Ext w w' := by
  obtain ⟨ix, iy⟩ := isF_pair hp
  have HR := Lib.hid (divF_ok (n := n) (m := m) hp n1 n2 m1 m2 h0)
  obtain ⟨hv, hx, hy⟩ := pair_of hp
  obtain ⟨h1, h2, _, _⟩ := chk_of hv
  have bx := inB_bd h2 hx
  obtain ⟨y1, y2⟩ := inB_bd h2 hy
  have HM := Lib.hid (okM_t m1 m2)
  obtain ⟨s1, s2⟩ := shl_bd bx n2
  have h0' : (y == 0) = false := by simpa using h0
  clear hp hv hx hy
  have HQ : Hid (quoF x y n m = quoW (x * 2 ^ n.toNat) y m) := rfl
  by_cases hn : y < 0
  · obtain ⟨d, hd⟩ : ∃ d, -y = d := ⟨_, rfl⟩
    obtain ⟨X, hX⟩ : ∃ X, x * 2 ^ n.toNat = X := ⟨_, rfl⟩
    obtain ⟨Z, hZ⟩ : ∃ Z, -X = Z := ⟨_, rfl⟩
    rw [hX] at s1 s2
    have HQ2 : Hid (quoF x y n m = rndQ m (Z / d) (Z % d) d) := by
      rw [HQ.out]; unfold quoW
      rw [show denF y = d by unfold denF; rw [if_pos hn, hd], if_pos hn, hX, hZ]; exact rfl
    have hd1 : 1 ≤ d := by omega
    have hd2 : d ≤ 2147483648 := by omega
    have hZ1 : -4611686018427387904 ≤ Z := by omega
    have hZ2 : Z ≤ 4611686018427387904 := by omega
    clear h0 HQ
    obtain ⟨e1, e2, e3, e4, e5⟩ := ediv_bd (X := Z) hd1 hZ1 hZ2
    obtain ⟨t1, t2⟩ := tdiv_facts (X := Z) hd1
    have hz : (d == 0) = false := by simp; omega
    have E5 := Lib.hid (show decide (Z < 0) = decide (Z / d < 0) by simp [e5]); clear e5
    by_cases hu : upB m (Z / d) (Z % d) d = true
    · have HU := Lib.hid (HQ2.out.trans (rndQ_up hu))
      by_cases hr : Z.tmod d < 0
      · obtain ⟨r1, r2⟩ := t1 hr
        clear t1 t2
        have b1 : -4611686018427387904 ≤ Z.tdiv d := by omega
        have b2 : Z.tdiv d ≤ 4611686018427387905 := by omega
        have b3 : -2147483648 ≤ Z.tmod d := by omega
        go_enter Try.func32, Try.ntmps32
        go_wp2_with (first
          | (go_at_call 44; refine (is_any _ _ _ _).mono ?_; rintro e w1 ⟨rfl, hb1⟩; (first | replace hb := Ext.trans hb hb1 | replace hb := Ext.trans (Ext.trans hb (Ext.drewN _ _)) hb1 | replace hb := Ext.trans (Ext.trans hb (Ext.alloc _ _)) hb1 | have hb := hb1); clear hb1; obtain ⟨hc1, hf1⟩ := hb.old)
          | (go_at_call 41; refine (mode_is _ _ _ HM.out).mono ?_; rintro e w1 ⟨rfl, hb1⟩; (first | replace hb := Ext.trans hb hb1 | replace hb := Ext.trans (Ext.trans hb (Ext.drewN _ _)) hb1 | replace hb := Ext.trans (Ext.trans hb (Ext.alloc _ _)) hb1 | have hb := hb1); clear hb1; obtain ⟨hc1, hf1⟩ := hb.old))
        go_quiet (fail)
        go_wp2_with (first
          | (go_at_call 47; refine (up_any _ _ _ _ _ _ e3 e4 (by omega) m1 m2 E5.out).mono ?_; rintro e w1 ⟨rfl, hb1⟩; (first | replace hb := Ext.trans hb hb1 | replace hb := Ext.trans (Ext.trans hb (Ext.drewN _ _)) hb1 | replace hb := Ext.trans (Ext.trans hb (Ext.alloc _ _)) hb1 | have hb := hb1); clear hb1; obtain ⟨hc1, hf1⟩ := hb.old)
          | (go_at_call 20; refine (rclip_any _ _ _ _ h1 h2).mono ?_; rintro e w1 ⟨rfl, hb1⟩; (first | replace hb := Ext.trans hb hb1 | replace hb := Ext.trans (Ext.trans hb (Ext.drewN _ _)) hb1 | replace hb := Ext.trans (Ext.trans hb (Ext.alloc _ _)) hb1 | have hb := hb1); clear hb1; obtain ⟨hc1, hf1⟩ := hb.old))
        go_ret3
        exact ⟨by rw [HR.out, HU.out]; rfl, (by repeat (first | exact Ext.refl _ | assumption | exact Ext.alloc _ _ | refine Ext.trans ?_ (by assumption) | refine Ext.trans ?_ (Ext.alloc _ _) | refine Ext.trans ?_ (Ext.drewN _ _) | refine Ext.trans ?_ (Ext.drew _)))⟩
      · obtain ⟨r1, r2⟩ := t2 hr
        clear t1 t2
        go_enter Try.func32, Try.ntmps32
        go_wp2_with (first
          | (go_at_call 44; refine (is_any _ _ _ _).mono ?_; rintro e w1 ⟨rfl, hb1⟩; (first | replace hb := Ext.trans hb hb1 | replace hb := Ext.trans (Ext.trans hb (Ext.drewN _ _)) hb1 | replace hb := Ext.trans (Ext.trans hb (Ext.alloc _ _)) hb1 | have hb := hb1); clear hb1; obtain ⟨hc1, hf1⟩ := hb.old)
          | (go_at_call 41; refine (mode_is _ _ _ HM.out).mono ?_; rintro e w1 ⟨rfl, hb1⟩; (first | replace hb := Ext.trans hb hb1 | replace hb := Ext.trans (Ext.trans hb (Ext.drewN _ _)) hb1 | replace hb := Ext.trans (Ext.trans hb (Ext.alloc _ _)) hb1 | have hb := hb1); clear hb1; obtain ⟨hc1, hf1⟩ := hb.old))
        go_quiet (fail)
        go_wp2_with (first
          | (go_at_call 47; refine (up_any _ _ _ _ _ _ e3 e4 (by omega) m1 m2 E5.out).mono ?_; rintro e w1 ⟨rfl, hb1⟩; (first | replace hb := Ext.trans hb hb1 | replace hb := Ext.trans (Ext.trans hb (Ext.drewN _ _)) hb1 | replace hb := Ext.trans (Ext.trans hb (Ext.alloc _ _)) hb1 | have hb := hb1); clear hb1; obtain ⟨hc1, hf1⟩ := hb.old)
          | (go_at_call 20; refine (rclip_any _ _ _ _ h1 h2).mono ?_; rintro e w1 ⟨rfl, hb1⟩; (first | replace hb := Ext.trans hb hb1 | replace hb := Ext.trans (Ext.trans hb (Ext.drewN _ _)) hb1 | replace hb := Ext.trans (Ext.trans hb (Ext.alloc _ _)) hb1 | have hb := hb1); clear hb1; obtain ⟨hc1, hf1⟩ := hb.old))
        go_ret3
        exact ⟨by rw [HR.out, HU.out]; rfl, (by repeat (first | exact Ext.refl _ | assumption | exact Ext.alloc _ _ | refine Ext.trans ?_ (by assumption) | refine Ext.trans ?_ (Ext.alloc _ _) | refine Ext.trans ?_ (Ext.drewN _ _) | refine Ext.trans ?_ (Ext.drew _)))⟩
    · replace hu : upB m (Z / d) (Z % d) d = false := by simpa using hu
      have HU := Lib.hid (HQ2.out.trans (rndQ_dn hu))
      by_cases hr : Z.tmod d < 0
      · obtain ⟨r1, r2⟩ := t1 hr
        clear t1 t2
        have b1 : -4611686018427387904 ≤ Z.tdiv d := by omega
        have b2 : Z.tdiv d ≤ 4611686018427387905 := by omega
        have b3 : -2147483648 ≤ Z.tmod d := by omega
        go_enter Try.func32, Try.ntmps32
        go_wp2_with (first
          | (go_at_call 44; refine (is_any _ _ _ _).mono ?_; rintro e w1 ⟨rfl, hb1⟩; (first | replace hb := Ext.trans hb hb1 | replace hb := Ext.trans (Ext.trans hb (Ext.drewN _ _)) hb1 | replace hb := Ext.trans (Ext.trans hb (Ext.alloc _ _)) hb1 | have hb := hb1); clear hb1; obtain ⟨hc1, hf1⟩ := hb.old)
          | (go_at_call 41; refine (mode_is _ _ _ HM.out).mono ?_; rintro e w1 ⟨rfl, hb1⟩; (first | replace hb := Ext.trans hb hb1 | replace hb := Ext.trans (Ext.trans hb (Ext.drewN _ _)) hb1 | replace hb := Ext.trans (Ext.trans hb (Ext.alloc _ _)) hb1 | have hb := hb1); clear hb1; obtain ⟨hc1, hf1⟩ := hb.old))
        go_quiet (fail)
        go_wp2_with (first
          | (go_at_call 47; refine (up_any _ _ _ _ _ _ e3 e4 (by omega) m1 m2 E5.out).mono ?_; rintro e w1 ⟨rfl, hb1⟩; (first | replace hb := Ext.trans hb hb1 | replace hb := Ext.trans (Ext.trans hb (Ext.drewN _ _)) hb1 | replace hb := Ext.trans (Ext.trans hb (Ext.alloc _ _)) hb1 | have hb := hb1); clear hb1; obtain ⟨hc1, hf1⟩ := hb.old)
          | (go_at_call 20; refine (rclip_any _ _ _ _ h1 h2).mono ?_; rintro e w1 ⟨rfl, hb1⟩; (first | replace hb := Ext.trans hb hb1 | replace hb := Ext.trans (Ext.trans hb (Ext.drewN _ _)) hb1 | replace hb := Ext.trans (Ext.trans hb (Ext.alloc _ _)) hb1 | have hb := hb1); clear hb1; obtain ⟨hc1, hf1⟩ := hb.old))
        go_ret3
        exact ⟨by rw [HR.out, HU.out]; rfl, (by repeat (first | exact Ext.refl _ | assumption | exact Ext.alloc _ _ | refine Ext.trans ?_ (by assumption) | refine Ext.trans ?_ (Ext.alloc _ _) | refine Ext.trans ?_ (Ext.drewN _ _) | refine Ext.trans ?_ (Ext.drew _)))⟩
      · obtain ⟨r1, r2⟩ := t2 hr
        clear t1 t2
        go_enter Try.func32, Try.ntmps32
        go_wp2_with (first
          | (go_at_call 44; refine (is_any _ _ _ _).mono ?_; rintro e w1 ⟨rfl, hb1⟩; (first | replace hb := Ext.trans hb hb1 | replace hb := Ext.trans (Ext.trans hb (Ext.drewN _ _)) hb1 | replace hb := Ext.trans (Ext.trans hb (Ext.alloc _ _)) hb1 | have hb := hb1); clear hb1; obtain ⟨hc1, hf1⟩ := hb.old)
          | (go_at_call 41; refine (mode_is _ _ _ HM.out).mono ?_; rintro e w1 ⟨rfl, hb1⟩; (first | replace hb := Ext.trans hb hb1 | replace hb := Ext.trans (Ext.trans hb (Ext.drewN _ _)) hb1 | replace hb := Ext.trans (Ext.trans hb (Ext.alloc _ _)) hb1 | have hb := hb1); clear hb1; obtain ⟨hc1, hf1⟩ := hb.old))
        go_quiet (fail)
        go_wp2_with (first
          | (go_at_call 47; refine (up_any _ _ _ _ _ _ e3 e4 (by omega) m1 m2 E5.out).mono ?_; rintro e w1 ⟨rfl, hb1⟩; (first | replace hb := Ext.trans hb hb1 | replace hb := Ext.trans (Ext.trans hb (Ext.drewN _ _)) hb1 | replace hb := Ext.trans (Ext.trans hb (Ext.alloc _ _)) hb1 | have hb := hb1); clear hb1; obtain ⟨hc1, hf1⟩ := hb.old)
          | (go_at_call 20; refine (rclip_any _ _ _ _ h1 h2).mono ?_; rintro e w1 ⟨rfl, hb1⟩; (first | replace hb := Ext.trans hb hb1 | replace hb := Ext.trans (Ext.trans hb (Ext.drewN _ _)) hb1 | replace hb := Ext.trans (Ext.trans hb (Ext.alloc _ _)) hb1 | have hb := hb1); clear hb1; obtain ⟨hc1, hf1⟩ := hb.old))
        go_ret3
        exact ⟨by rw [HR.out, HU.out]; rfl, (by repeat (first | exact Ext.refl _ | assumption | exact Ext.alloc _ _ | refine Ext.trans ?_ (by assumption) | refine Ext.trans ?_ (Ext.alloc _ _) | refine Ext.trans ?_ (Ext.drewN _ _) | refine Ext.trans ?_ (Ext.drew _)))⟩
  · obtain ⟨Z, hX⟩ : ∃ X, x * 2 ^ n.toNat = X := ⟨_, rfl⟩
    rw [hX] at s1 s2
    have HQ2 : Hid (quoF x y n m = rndQ m (Z / y) (Z % y) y) := by
      rw [HQ.out]; unfold quoW
      rw [show denF y = y by unfold denF; rw [if_neg hn], if_neg hn, hX]; exact rfl
    have hd1 : 1 ≤ y := by omega
    clear h0 HQ
    obtain ⟨e1, e2, e3, e4, e5⟩ := ediv_bd (X := Z) hd1 s1 s2
    obtain ⟨t1, t2⟩ := tdiv_facts (X := Z) hd1
    have E5 := Lib.hid (show decide (Z < 0) = decide (Z / y < 0) by simp [e5]); clear e5
    by_cases hu : upB m (Z / y) (Z % y) y = true
    · have HU := Lib.hid (HQ2.out.trans (rndQ_up hu))
      by_cases hr : Z.tmod y < 0
      · obtain ⟨r1, r2⟩ := t1 hr
        clear t1 t2
        have b1 : -4611686018427387904 ≤ Z.tdiv y := by omega
        have b2 : Z.tdiv y ≤ 4611686018427387905 := by omega
        have b3 : -2147483648 ≤ Z.tmod y := by omega
        go_enter Try.func32, Try.ntmps32
        go_wp2_with (first
          | (go_at_call 44; refine (is_any _ _ _ _).mono ?_; rintro e w1 ⟨rfl, hb1⟩; (first | replace hb := Ext.trans hb hb1 | replace hb := Ext.trans (Ext.trans hb (Ext.drewN _ _)) hb1 | replace hb := Ext.trans (Ext.trans hb (Ext.alloc _ _)) hb1 | have hb := hb1); clear hb1; obtain ⟨hc1, hf1⟩ := hb.old)
          | (go_at_call 41; refine (mode_is _ _ _ HM.out).mono ?_; rintro e w1 ⟨rfl, hb1⟩; (first | replace hb := Ext.trans hb hb1 | replace hb := Ext.trans (Ext.trans hb (Ext.drewN _ _)) hb1 | replace hb := Ext.trans (Ext.trans hb (Ext.alloc _ _)) hb1 | have hb := hb1); clear hb1; obtain ⟨hc1, hf1⟩ := hb.old))
        go_quiet (fail)
        go_wp2_with (first
          | (go_at_call 47; refine (up_any _ _ _ _ _ _ e3 e4 (by omega) m1 m2 E5.out).mono ?_; rintro e w1 ⟨rfl, hb1⟩; (first | replace hb := Ext.trans hb hb1 | replace hb := Ext.trans (Ext.trans hb (Ext.drewN _ _)) hb1 | replace hb := Ext.trans (Ext.trans hb (Ext.alloc _ _)) hb1 | have hb := hb1); clear hb1; obtain ⟨hc1, hf1⟩ := hb.old)
          | (go_at_call 20; refine (rclip_any _ _ _ _ h1 h2).mono ?_; rintro e w1 ⟨rfl, hb1⟩; (first | replace hb := Ext.trans hb hb1 | replace hb := Ext.trans (Ext.trans hb (Ext.drewN _ _)) hb1 | replace hb := Ext.trans (Ext.trans hb (Ext.alloc _ _)) hb1 | have hb := hb1); clear hb1; obtain ⟨hc1, hf1⟩ := hb.old))
        go_ret3
        exact ⟨by rw [HR.out, HU.out]; rfl, (by repeat (first | exact Ext.refl _ | assumption | exact Ext.alloc _ _ | refine Ext.trans ?_ (by assumption) | refine Ext.trans ?_ (Ext.alloc _ _) | refine Ext.trans ?_ (Ext.drewN _ _) | refine Ext.trans ?_ (Ext.drew _)))⟩
      · obtain ⟨r1, r2⟩ := t2 hr
        clear t1 t2
        go_enter Try.func32, Try.ntmps32
        go_wp2_with (first
          | (go_at_call 44; refine (is_any _ _ _ _).mono ?_; rintro e w1 ⟨rfl, hb1⟩; (first | replace hb := Ext.trans hb hb1 | replace hb := Ext.trans (Ext.trans hb (Ext.drewN _ _)) hb1 | replace hb := Ext.trans (Ext.trans hb (Ext.alloc _ _)) hb1 | have hb := hb1); clear hb1; obtain ⟨hc1, hf1⟩ := hb.old)
          | (go_at_call 41; refine (mode_is _ _ _ HM.out).mono ?_; rintro e w1 ⟨rfl, hb1⟩; (first | replace hb := Ext.trans hb hb1 | replace hb := Ext.trans (Ext.trans hb (Ext.drewN _ _)) hb1 | replace hb := Ext.trans (Ext.trans hb (Ext.alloc _ _)) hb1 | have hb := hb1); clear hb1; obtain ⟨hc1, hf1⟩ := hb.old))
        go_quiet (fail)
        go_wp2_with (first
          | (go_at_call 47; refine (up_any _ _ _ _ _ _ e3 e4 (by omega) m1 m2 E5.out).mono ?_; rintro e w1 ⟨rfl, hb1⟩; (first | replace hb := Ext.trans hb hb1 | replace hb := Ext.trans (Ext.trans hb (Ext.drewN _ _)) hb1 | replace hb := Ext.trans (Ext.trans hb (Ext.alloc _ _)) hb1 | have hb := hb1); clear hb1; obtain ⟨hc1, hf1⟩ := hb.old)
          | (go_at_call 20; refine (rclip_any _ _ _ _ h1 h2).mono ?_; rintro e w1 ⟨rfl, hb1⟩; (first | replace hb := Ext.trans hb hb1 | replace hb := Ext.trans (Ext.trans hb (Ext.drewN _ _)) hb1 | replace hb := Ext.trans (Ext.trans hb (Ext.alloc _ _)) hb1 | have hb := hb1); clear hb1; obtain ⟨hc1, hf1⟩ := hb.old))
        go_ret3
        exact ⟨by rw [HR.out, HU.out]; rfl, (by repeat (first | exact Ext.refl _ | assumption | exact Ext.alloc _ _ | refine Ext.trans ?_ (by assumption) | refine Ext.trans ?_ (Ext.alloc _ _) | refine Ext.trans ?_ (Ext.drewN _ _) | refine Ext.trans ?_ (Ext.drew _)))⟩
    · replace hu : upB m (Z / y) (Z % y) y = false := by simpa using hu
      have HU := Lib.hid (HQ2.out.trans (rndQ_dn hu))
      by_cases hr : Z.tmod y < 0
      · obtain ⟨r1, r2⟩ := t1 hr
        clear t1 t2
        have b1 : -4611686018427387904 ≤ Z.tdiv y := by omega
        have b2 : Z.tdiv y ≤ 4611686018427387905 := by omega
        have b3 : -2147483648 ≤ Z.tmod y := by omega
        go_enter Try.func32, Try.ntmps32
        go_wp2_with (first
          | (go_at_call 44; refine (is_any _ _ _ _).mono ?_; rintro e w1 ⟨rfl, hb1⟩; (first | replace hb := Ext.trans hb hb1 | replace hb := Ext.trans (Ext.trans hb (Ext.drewN _ _)) hb1 | replace hb := Ext.trans (Ext.trans hb (Ext.alloc _ _)) hb1 | have hb := hb1); clear hb1; obtain ⟨hc1, hf1⟩ := hb.old)
          | (go_at_call 41; refine (mode_is _ _ _ HM.out).mono ?_; rintro e w1 ⟨rfl, hb1⟩; (first | replace hb := Ext.trans hb hb1 | replace hb := Ext.trans (Ext.trans hb (Ext.drewN _ _)) hb1 | replace hb := Ext.trans (Ext.trans hb (Ext.alloc _ _)) hb1 | have hb := hb1); clear hb1; obtain ⟨hc1, hf1⟩ := hb.old))
        go_quiet (fail)
        go_wp2_with (first
          | (go_at_call 47; refine (up_any _ _ _ _ _ _ e3 e4 (by omega) m1 m2 E5.out).mono ?_; rintro e w1 ⟨rfl, hb1⟩; (first | replace hb := Ext.trans hb hb1 | replace hb := Ext.trans (Ext.trans hb (Ext.drewN _ _)) hb1 | replace hb := Ext.trans (Ext.trans hb (Ext.alloc _ _)) hb1 | have hb := hb1); clear hb1; obtain ⟨hc1, hf1⟩ := hb.old)
          | (go_at_call 20; refine (rclip_any _ _ _ _ h1 h2).mono ?_; rintro e w1 ⟨rfl, hb1⟩; (first | replace hb := Ext.trans hb hb1 | replace hb := Ext.trans (Ext.trans hb (Ext.drewN _ _)) hb1 | replace hb := Ext.trans (Ext.trans hb (Ext.alloc _ _)) hb1 | have hb := hb1); clear hb1; obtain ⟨hc1, hf1⟩ := hb.old))
        go_ret3
        exact ⟨by rw [HR.out, HU.out]; rfl, (by repeat (first | exact Ext.refl _ | assumption | exact Ext.alloc _ _ | refine Ext.trans ?_ (by assumption) | refine Ext.trans ?_ (Ext.alloc _ _) | refine Ext.trans ?_ (Ext.drewN _ _) | refine Ext.trans ?_ (Ext.drew _)))⟩
      · obtain ⟨r1, r2⟩ := t2 hr
        clear t1 t2
        go_enter Try.func32, Try.ntmps32
        go_wp2_with (first
          | (go_at_call 44; refine (is_any _ _ _ _).mono ?_; rintro e w1 ⟨rfl, hb1⟩; (first | replace hb := Ext.trans hb hb1 | replace hb := Ext.trans (Ext.trans hb (Ext.drewN _ _)) hb1 | replace hb := Ext.trans (Ext.trans hb (Ext.alloc _ _)) hb1 | have hb := hb1); clear hb1; obtain ⟨hc1, hf1⟩ := hb.old)
          | (go_at_call 41; refine (mode_is _ _ _ HM.out).mono ?_; rintro e w1 ⟨rfl, hb1⟩; (first | replace hb := Ext.trans hb hb1 | replace hb := Ext.trans (Ext.trans hb (Ext.drewN _ _)) hb1 | replace hb := Ext.trans (Ext.trans hb (Ext.alloc _ _)) hb1 | have hb := hb1); clear hb1; obtain ⟨hc1, hf1⟩ := hb.old))
        go_quiet (fail)
        go_wp2_with (first
          | (go_at_call 47; refine (up_any _ _ _ _ _ _ e3 e4 (by omega) m1 m2 E5.out).mono ?_; rintro e w1 ⟨rfl, hb1⟩; (first | replace hb := Ext.trans hb hb1 | replace hb := Ext.trans (Ext.trans hb (Ext.drewN _ _)) hb1 | replace hb := Ext.trans (Ext.trans hb (Ext.alloc _ _)) hb1 | have hb := hb1); clear hb1; obtain ⟨hc1, hf1⟩ := hb.old)
          | (go_at_call 20; refine (rclip_any _ _ _ _ h1 h2).mono ?_; rintro e w1 ⟨rfl, hb1⟩; (first | replace hb := Ext.trans hb hb1 | replace hb := Ext.trans (Ext.trans hb (Ext.drewN _ _)) hb1 | replace hb := Ext.trans (Ext.trans hb (Ext.alloc _ _)) hb1 | have hb := hb1); clear hb1; obtain ⟨hc1, hf1⟩ := hb.old))
        go_ret3
        exact ⟨by rw [HR.out, HU.out]; rfl, (by repeat (first | exact Ext.refl _ | assumption | exact Ext.alloc _ _ | refine Ext.trans ?_ (by assumption) | refine Ext.trans ?_ (Ext.alloc _ _) | refine Ext.trans ?_ (Ext.drewN _ _) | refine Ext.trans ?_ (Ext.drew _)))⟩

set_option maxRecDepth 100000 in
set_option maxHeartbeats 1000000 in
theorem rdiv_zero (b s x n m : Int) (w : World) (hp : pairF b s x 0 = 0) (n1 : 0 ≤ n) (n2 : n ≤ 31) (m1 : 0 ≤ m) (m2 : m ≤ 3) :
    Calls Try.prog 32 #[fmt b s, I x, I 0, I n, I m] w fun e w' => e = .returned (ref3 (divF b s x 0 n m)) ∧ Ext w w' := by
  obtain ⟨ix, iy⟩ := isF_pair hp
  have HR := Lib.hid (divF_zero (n := n) (m := m) hp n1 n2 m1 m2)
  have HM := Lib.hid (okM_t m1 m2)
  clear hp
  go_enter Try.func32, Try.ntmps32
  go_wp2_with (first
    | (go_at_call 44; refine (is_any _ _ _ _).mono ?_; rintro e w1 ⟨rfl, hb1⟩; (first | replace hb := Ext.trans hb hb1 | replace hb := Ext.trans (Ext.trans hb (Ext.drewN _ _)) hb1 | replace hb := Ext.trans (Ext.trans hb (Ext.alloc _ _)) hb1 | have hb := hb1); clear hb1; obtain ⟨hc1, hf1⟩ := hb.old)
    | (go_at_call 41; refine (mode_is _ _ _ HM.out).mono ?_; rintro e w1 ⟨rfl, hb1⟩; (first | replace hb := Ext.trans hb hb1 | replace hb := Ext.trans (Ext.trans hb (Ext.drewN _ _)) hb1 | replace hb := Ext.trans (Ext.trans hb (Ext.alloc _ _)) hb1 | have hb := hb1); clear hb1; obtain ⟨hc1, hf1⟩ := hb.old))
  go_ret3
  exact ⟨by rw [HR.out]; rfl, (by repeat (first | exact Ext.refl _ | assumption | exact Ext.alloc _ _ | refine Ext.trans ?_ (by assumption) | refine Ext.trans ?_ (Ext.alloc _ _) | refine Ext.trans ?_ (Ext.drewN _ _) | refine Ext.trans ?_ (Ext.drew _)))⟩

set_option maxRecDepth 100000 in
set_option maxHeartbeats 1000000 in
theorem rdiv_bad (b s x y n m : Int) (w : World) (hp : pairF b s x y = 0) (hn : ¬ (0 ≤ n ∧ n ≤ 31 ∧ 0 ≤ m ∧ m ≤ 3)) :
    Calls Try.prog 32 #[fmt b s, I x, I y, I n, I m] w fun e w' => e = .returned (ref3 (divF b s x y n m)) ∧ Ext w w' := by
  obtain ⟨ix, iy⟩ := isF_pair hp
  have HR := Lib.hid (divF_bad (b := b) (s := s) (x := x) (y := y) hn)
  clear hp
  by_cases hm : 0 ≤ m ∧ m ≤ 3
  · have HM := Lib.hid (okM_t hm.1 hm.2)
    obtain hn | ⟨hn, hn'⟩ : n < 0 ∨ (0 ≤ n ∧ 31 < n) := by omega
    · clear hm
      go_enter Try.func32, Try.ntmps32
      go_wp2_with (first
        | (go_at_call 44; refine (is_any _ _ _ _).mono ?_; rintro e w1 ⟨rfl, hb1⟩; (first | replace hb := Ext.trans hb hb1 | replace hb := Ext.trans (Ext.trans hb (Ext.drewN _ _)) hb1 | replace hb := Ext.trans (Ext.trans hb (Ext.alloc _ _)) hb1 | have hb := hb1); clear hb1; obtain ⟨hc1, hf1⟩ := hb.old)
        | (go_at_call 41; refine (mode_is _ _ _ HM.out).mono ?_; rintro e w1 ⟨rfl, hb1⟩; (first | replace hb := Ext.trans hb hb1 | replace hb := Ext.trans (Ext.trans hb (Ext.drewN _ _)) hb1 | replace hb := Ext.trans (Ext.trans hb (Ext.alloc _ _)) hb1 | have hb := hb1); clear hb1; obtain ⟨hc1, hf1⟩ := hb.old))
      all_goals (go_ret3; exact ⟨by rw [HR.out]; rfl, (by repeat (first | exact Ext.refl _ | assumption | exact Ext.alloc _ _ | refine Ext.trans ?_ (by assumption) | refine Ext.trans ?_ (Ext.alloc _ _) | refine Ext.trans ?_ (Ext.drewN _ _) | refine Ext.trans ?_ (Ext.drew _)))⟩)
    · clear hm
      go_enter Try.func32, Try.ntmps32
      go_wp2_with (first
        | (go_at_call 44; refine (is_any _ _ _ _).mono ?_; rintro e w1 ⟨rfl, hb1⟩; (first | replace hb := Ext.trans hb hb1 | replace hb := Ext.trans (Ext.trans hb (Ext.drewN _ _)) hb1 | replace hb := Ext.trans (Ext.trans hb (Ext.alloc _ _)) hb1 | have hb := hb1); clear hb1; obtain ⟨hc1, hf1⟩ := hb.old)
        | (go_at_call 41; refine (mode_is _ _ _ HM.out).mono ?_; rintro e w1 ⟨rfl, hb1⟩; (first | replace hb := Ext.trans hb hb1 | replace hb := Ext.trans (Ext.trans hb (Ext.drewN _ _)) hb1 | replace hb := Ext.trans (Ext.trans hb (Ext.alloc _ _)) hb1 | have hb := hb1); clear hb1; obtain ⟨hc1, hf1⟩ := hb.old))
      all_goals (go_ret3; exact ⟨by rw [HR.out]; rfl, (by repeat (first | exact Ext.refl _ | assumption | exact Ext.alloc _ _ | refine Ext.trans ?_ (by assumption) | refine Ext.trans ?_ (Ext.alloc _ _) | refine Ext.trans ?_ (Ext.drewN _ _) | refine Ext.trans ?_ (Ext.drew _)))⟩)
  · have HM := Lib.hid (okM_f hm)
    clear hm hn
    go_enter Try.func32, Try.ntmps32
    go_wp2_with (first
      | (go_at_call 44; refine (is_any _ _ _ _).mono ?_; rintro e w1 ⟨rfl, hb1⟩; (first | replace hb := Ext.trans hb hb1 | replace hb := Ext.trans (Ext.trans hb (Ext.drewN _ _)) hb1 | replace hb := Ext.trans (Ext.trans hb (Ext.alloc _ _)) hb1 | have hb := hb1); clear hb1; obtain ⟨hc1, hf1⟩ := hb.old)
      | (go_at_call 41; refine (mode_is _ _ _ HM.out).mono ?_; rintro e w1 ⟨rfl, hb1⟩; (first | replace hb := Ext.trans hb hb1 | replace hb := Ext.trans (Ext.trans hb (Ext.drewN _ _)) hb1 | replace hb := Ext.trans (Ext.trans hb (Ext.alloc _ _)) hb1 | have hb := hb1); clear hb1; obtain ⟨hc1, hf1⟩ := hb.old))
    all_goals (go_ret3; exact ⟨by rw [HR.out]; rfl, (by repeat (first | exact Ext.refl _ | assumption | exact Ext.alloc _ _ | refine Ext.trans ?_ (by assumption) | refine Ext.trans ?_ (Ext.alloc _ _) | refine Ext.trans ?_ (Ext.drewN _ _) | refine Ext.trans ?_ (Ext.drew _)))⟩)

set_option maxRecDepth 100000 in
set_option maxHeartbeats 1000000 in
theorem rdiv_pair (b s x y n m : Int) (w : World) (hp : ¬ pairF b s x y = 0) :
    Calls Try.prog 32 #[fmt b s, I x, I y, I n, I m] w fun e w' => e = .returned (ref3 (divF b s x y n m)) ∧ Ext w w' := by
  have HR := Lib.hid (divF_pair (n := n) (m := m) hp)
  by_cases ix : isF b s x = true
  · have iy := isF_not hp ix
    clear hp
    go_enter Try.func32, Try.ntmps32
    go_wp2_with (first
      | (go_at_call 44; refine (is_any _ _ _ _).mono ?_; rintro e w1 ⟨rfl, hb1⟩; (first | replace hb := Ext.trans hb hb1 | replace hb := Ext.trans (Ext.trans hb (Ext.drewN _ _)) hb1 | replace hb := Ext.trans (Ext.trans hb (Ext.alloc _ _)) hb1 | have hb := hb1); clear hb1; obtain ⟨hc1, hf1⟩ := hb.old))
    go_ret3
    exact ⟨by rw [HR.out]; rfl, (by repeat (first | exact Ext.refl _ | assumption | exact Ext.alloc _ _ | refine Ext.trans ?_ (by assumption) | refine Ext.trans ?_ (Ext.alloc _ _) | refine Ext.trans ?_ (Ext.drewN _ _) | refine Ext.trans ?_ (Ext.drew _)))⟩
  · clear hp
    replace ix : isF b s x = false := by simpa using ix
    go_enter Try.func32, Try.ntmps32
    go_wp2_with (first
      | (go_at_call 44; refine (is_any _ _ _ _).mono ?_; rintro e w1 ⟨rfl, hb1⟩; (first | replace hb := Ext.trans hb hb1 | replace hb := Ext.trans (Ext.trans hb (Ext.drewN _ _)) hb1 | replace hb := Ext.trans (Ext.trans hb (Ext.alloc _ _)) hb1 | have hb := hb1); clear hb1; obtain ⟨hc1, hf1⟩ := hb.old))
    go_ret3
    exact ⟨by rw [HR.out]; rfl, (by repeat (first | exact Ext.refl _ | assumption | exact Ext.alloc _ _ | refine Ext.trans ?_ (by assumption) | refine Ext.trans ?_ (Ext.alloc _ _) | refine Ext.trans ?_ (Ext.drewN _ _) | refine Ext.trans ?_ (Ext.drew _)))⟩

theorem rdiv_any (b s x y n m : Int) (w : World) :
    Calls Try.prog 32 #[fmt b s, I x, I y, I n, I m] w fun e w' => e = .returned (ref3 (divF b s x y n m)) ∧ Ext w w' := by
  by_cases hp : pairF b s x y = 0
  · by_cases hn : 0 ≤ n ∧ n ≤ 31 ∧ 0 ≤ m ∧ m ≤ 3
    · obtain ⟨n1, n2, m1, m2⟩ := hn
      by_cases h0 : y = 0
      · subst h0; exact rdiv_zero b s x n m w hp n1 n2 m1 m2
      · exact rdiv_ok b s x y n m w hp n1 n2 m1 m2 h0
    · exact rdiv_bad b s x y n m w hp hn
  · exact rdiv_pair b s x y n m w hp

end Go.Proofs.Ytfllhbebackbdaa
