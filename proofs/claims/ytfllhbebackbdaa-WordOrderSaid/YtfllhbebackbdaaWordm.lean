/- Monotony. -/
import Derived.Test.YtfllhbebackbdaaWordl
namespace Go.Proofs.Ytfllhbebackbdaa
open Go.RowKit

theorem clipF_mono {b x y : Int} (h : x ≤ y) : clipF b x ≤ clipF b y := by
  have := lohi b
  unfold clipF; split <;> split <;> (try split) <;> (try split) <;> omega
theorem clpN_mono {x y lo hi : Int} (hl : lo ≤ hi) (h : x ≤ y) : clpN x lo hi ≤ clpN y lo hi := by
  unfold clpN; split <;> split <;> (try split) <;> (try split) <;> omega
theorem rnd_mono {x y n m : Int} (hm0 : 0 ≤ m) (hm : m ≤ 3) (h : x ≤ y) : rnd x n m ≤ rnd y n m := by
  have p1 := pow_pos n.toNat
  have hq : x / 2 ^ n.toNat ≤ y / 2 ^ n.toNat := Int.ediv_le_ediv (by omega) h
  by_cases he : x / 2 ^ n.toNat = y / 2 ^ n.toNat
  · have hx := Int.mul_ediv_add_emod x (2 ^ n.toNat)
    have hy := Int.mul_ediv_add_emod y (2 ^ n.toNat)
    have hr : x % 2 ^ n.toNat ≤ y % 2 ^ n.toNat := by rw [he] at hx; omega
    unfold rnd
    rw [he]
    generalize x % 2 ^ n.toNat = r at *
    generalize y % 2 ^ n.toNat = r' at *
    generalize y / 2 ^ n.toNat = q at *
    generalize (2 : Int) ^ n.toNat = d at *
    cases hu : upB m q r d with
    | false => rw [rndQ_dn hu]; unfold rndQ; split <;> omega
    | true =>
      have hu' : upB m q r' d = true := by
        obtain rfl | rfl | rfl | rfl : m = 0 ∨ m = 1 ∨ m = 2 ∨ m = 3 := by omega
        · simp [upB] at hu
        · simp [upB] at hu ⊢; omega
        · simp [upB] at hu ⊢; omega
        · simp [upB] at hu ⊢
          by_cases e : r = r'
          · subst e; exact hu
          · left; omega
      rw [rndQ_up hu, rndQ_up hu']; omega
  · have h1 : rnd x n m ≤ x / 2 ^ n.toNat + 1 := by rcases rnd_split x n m with ⟨_, e, _⟩ | ⟨_, e, _⟩ <;> omega
    have h2 := rnd_ge y n m
    omega

set_option maxRecDepth 100000 in
set_option maxHeartbeats 4000000 in
theorem mono_bad (b s x0 x1 x2 n m : Int) (w : World) (hv : ¬ chkF b s = 0) :
    Calls Try.prog 10 #[fmt b s, .agg #[I x0, I x1, I x2], .agg #[I n, I m]] w fun e w' => e = .returned (.bool true) ∧ Ext w w' := by
  have HV := Lib.hid hv; clear hv
  go_enter Try.func10, Try.ntmps10
  go_wp2_with (first
    | (go_at_call 14; refine (awake_any _).mono ?_; rintro e w1 ⟨rfl, hb1⟩; (first | replace hb := Ext.trans hb hb1 | replace hb := Ext.trans (Ext.trans hb (Ext.drewN _ _)) hb1 | replace hb := Ext.trans (Ext.trans hb (Ext.alloc _ _)) hb1 | have hb := hb1); clear hb1; obtain ⟨hc1, hf1⟩ := hb.old)
    | (go_at_call 19; refine (check_bad _ _ _ HV.out).mono ?_; rintro e w1 ⟨rfl, hb1⟩; (first | replace hb := Ext.trans hb hb1 | replace hb := Ext.trans (Ext.trans hb (Ext.drewN _ _)) hb1 | replace hb := Ext.trans (Ext.trans hb (Ext.alloc _ _)) hb1 | have hb := hb1); clear hb1; obtain ⟨hc1, hf1⟩ := hb.old))
  go_ret
  exact ⟨rfl, (by repeat (first | exact Ext.refl _ | assumption | exact Ext.alloc _ _ | refine Ext.trans ?_ (by assumption) | refine Ext.trans ?_ (Ext.alloc _ _) | refine Ext.trans ?_ (Ext.drewN _ _) | refine Ext.trans ?_ (Ext.drew _)))⟩

theorem bounds_ok (b s : Int) (w : World) (h : chkF b s = 0) :
    Calls Try.prog 16 #[fmt b s] w fun e w' => e = .returned (.tuple #[I (loW b), I (hiW b), .nilIface]) ∧ Ext w w' :=
  (bounds_any b s w).mono fun _ _ ⟨he, hw⟩ => ⟨by rw [he]; unfold bounds3; rw [if_pos h]; rfl, hw⟩

set_option maxRecDepth 100000 in
set_option maxHeartbeats 4000000 in
theorem mono_lt (b s x0 x1 x2 n m : Int) (w : World) (hv : chkF b s = 0) (hx : x0 < x1) :
    Calls Try.prog 10 #[fmt b s, .agg #[I x0, I x1, I x2], .agg #[I n, I m]] w fun e w' => e = .returned (.bool true) ∧ Ext w w' := by
  obtain ⟨h1, h2, _, _⟩ := chk_of hv
  have hl := Lib.hid (lohi b)
  have h4 : errv 0 = .nilIface := rfl
  obtain ⟨A, hA⟩ : ∃ A, clpN x0 (loW b) (hiW b) = A := ⟨_, rfl⟩
  obtain ⟨B, hB⟩ : ∃ A, clpN x1 (loW b) (hiW b) = A := ⟨_, rfl⟩
  obtain ⟨C, hC⟩ : ∃ A, clpN x2 (loW b) (hiW b) = A := ⟨_, rfl⟩
  obtain ⟨N, hN⟩ : ∃ A, clpN n 0 62 = A := ⟨_, rfl⟩
  obtain ⟨M, hM⟩ : ∃ A, clpN m 0 3 = A := ⟨_, rfl⟩
  obtain ⟨D, hD1, hD2, hD3⟩ : ∃ D, 0 ≤ D ∧ (0 ≤ C → D = C) ∧ (C < 0 → D = 0) := by
    by_cases h : 0 ≤ C
    · exact ⟨C, h, fun _ => rfl, fun h' => by omega⟩
    · exact ⟨0, by decide, fun h' => absurd h' h, fun _ => rfl⟩
  have bA := clpN_bd (n := x0) hl.out
  have bB := clpN_bd (n := x1) hl.out
  have bC := clpN_bd (n := x2) hl.out
  have bN := clpN_bd (n := n) (show (0 : Int) ≤ 62 by decide)
  have bM := clpN_bd (n := m) (show (0 : Int) ≤ 3 by decide)
  have hAB := clpN_mono (x := x0) (y := x1) (lo := loW b) (hi := hiW b) hl.out (by omega)
  rw [hA] at bA
  rw [hB] at bB
  rw [hC] at bC
  rw [hN] at bN
  rw [hM] at bM
  rw [hA, hB] at hAB
  have lo0 : loW b ≤ 0 ∧ 0 ≤ hiW b := by have := pow_pos (b.toNat - 1); unfold loW hiW; omega
  have iA := inB_iff.2 bA
  have iB := inB_iff.2 bB
  have iC := inB_iff.2 bC
  have iD : inB b D = true := inB_iff.2 (by by_cases h : 0 ≤ C <;> omega)
  have s1 : addF b s A C (A + C) = (clipF b (A + C), cutF b (A + C), 0) := add3_ok (pair_ok hv iA iC)
  have s2 : addF b s B C (B + C) = (clipF b (B + C), cutF b (B + C), 0) := add3_ok (pair_ok hv iB iC)
  have s3 : addF b s C A (C + A) = (clipF b (A + C), cutF b (A + C), 0) := by rw [Int.add_comm C A]; exact add3_ok (pair_ok hv iC iA)
  have t1 : mulF b s A D N M = (clipF b (rnd (A * D) N M), cutF b (rnd (A * D) N M), 0) := mulF_ok (pair_ok hv iA iD) rfl bN.1 bN.2 bM.1 bM.2
  have t2 : mulF b s B D N M = (clipF b (rnd (B * D) N M), cutF b (rnd (B * D) N M), 0) := mulF_ok (pair_ok hv iB iD) rfl bN.1 bN.2 bM.1 bM.2
  have t3 : mulF b s D A N M = (clipF b (rnd (A * D) N M), cutF b (rnd (A * D) N M), 0) := by rw [Int.mul_comm A D]; exact mulF_ok (pair_ok hv iD iA) rfl bN.1 bN.2 bM.1 bM.2
  have m1 : clipF b (A + C) ≤ clipF b (B + C) := clipF_mono (by omega)
  have m2 : clipF b (rnd (A * D) N M) ≤ clipF b (rnd (B * D) N M) := clipF_mono (rnd_mono bM.1 bM.2 (Int.mul_le_mul_of_nonneg_right hAB hD1))
  have HV := Lib.hid hv
  clear hv iA iB iC iD bA bB bN bM lo0 hAB
  by_cases hC0 : 0 ≤ C
  · have e := hD2 hC0
    subst e
    clear hD1 hD2 hD3
    go_enter Try.func10, Try.ntmps10
    go_wp2_with (first
      | (go_at_call 14; refine (awake_any _).mono ?_; rintro e w1 ⟨rfl, hb1⟩; (first | replace hb := Ext.trans hb hb1 | replace hb := Ext.trans (Ext.trans hb (Ext.drewN _ _)) hb1 | replace hb := Ext.trans (Ext.trans hb (Ext.alloc _ _)) hb1 | have hb := hb1); clear hb1; obtain ⟨hc1, hf1⟩ := hb.old)
      | (go_at_call 19; refine (check_ok _ _ _ HV.out).mono ?_; rintro e w1 ⟨rfl, hb1⟩; (first | replace hb := Ext.trans hb hb1 | replace hb := Ext.trans (Ext.trans hb (Ext.drewN _ _)) hb1 | replace hb := Ext.trans (Ext.trans hb (Ext.alloc _ _)) hb1 | have hb := hb1); clear hb1; obtain ⟨hc1, hf1⟩ := hb.old)
      | (go_at_call 16; refine (bounds_ok _ _ _ HV.out).mono ?_; rintro e w1 ⟨rfl, hb1⟩; (first | replace hb := Ext.trans hb hb1 | replace hb := Ext.trans (Ext.trans hb (Ext.drewN _ _)) hb1 | replace hb := Ext.trans (Ext.trans hb (Ext.alloc _ _)) hb1 | have hb := hb1); clear hb1; obtain ⟨hc1, hf1⟩ := hb.old))
    have hL := fun (x : Later _) => (Ext.trans hb x.ext).old.1
    refine wp_region_later (by kernel_rfl) (by kernel_rfl) ?_
    repeat (go_big_quiet_step (((go_at_call 35; exact Calls.later (bclip_any _ _ _ _ hl.out)))))
    refine wpQuiet_nil ?_
    intro w2 hw2
    replace hb := Ext.trans hb (Later.of hw2)
    clear hw2 hL
    obtain ⟨hc, hf⟩ := hb.old
    go_wp2_with fail
    have hL := fun (x : Later _) => (Ext.trans hb x.ext).old.1
    refine wp_region_later (by kernel_rfl) (by kernel_rfl) ?_
    repeat (go_big_quiet_step (((go_at_call 35; exact Calls.later (bclip_any _ _ _ _ (by decide))))))
    refine wpQuiet_nil ?_
    intro w2 hw2
    replace hb := Ext.trans hb (Later.of hw2)
    clear hw2 hL
    obtain ⟨hc, hf⟩ := hb.old
    go_wp2_with (first
      | (go_at_call 25; refine (add_any _ _ _ _ _).mono ?_; rintro e w1 ⟨rfl, hb1⟩; (first | replace hb := Ext.trans hb hb1 | replace hb := Ext.trans (Ext.trans hb (Ext.drewN _ _)) hb1 | replace hb := Ext.trans (Ext.trans hb (Ext.alloc _ _)) hb1 | have hb := hb1); clear hb1; obtain ⟨hc1, hf1⟩ := hb.old)
      | (go_at_call 29; refine (mul_any _ _ _ _ _ _ _).mono ?_; rintro e w1 ⟨rfl, hb1⟩; (first | replace hb := Ext.trans hb hb1 | replace hb := Ext.trans (Ext.trans hb (Ext.drewN _ _)) hb1 | replace hb := Ext.trans (Ext.trans hb (Ext.alloc _ _)) hb1 | have hb := hb1); clear hb1; obtain ⟨hc1, hf1⟩ := hb.old))
    go_ret
    exact ⟨by simp, (by repeat (first | exact Ext.refl _ | assumption | exact Ext.alloc _ _ | refine Ext.trans ?_ (by assumption) | refine Ext.trans ?_ (Ext.alloc _ _) | refine Ext.trans ?_ (Ext.drewN _ _) | refine Ext.trans ?_ (Ext.drew _)))⟩
  · have e := hD3 (by omega)
    subst e
    clear hD1 hD2 hD3
    go_enter Try.func10, Try.ntmps10
    go_wp2_with (first
      | (go_at_call 14; refine (awake_any _).mono ?_; rintro e w1 ⟨rfl, hb1⟩; (first | replace hb := Ext.trans hb hb1 | replace hb := Ext.trans (Ext.trans hb (Ext.drewN _ _)) hb1 | replace hb := Ext.trans (Ext.trans hb (Ext.alloc _ _)) hb1 | have hb := hb1); clear hb1; obtain ⟨hc1, hf1⟩ := hb.old)
      | (go_at_call 19; refine (check_ok _ _ _ HV.out).mono ?_; rintro e w1 ⟨rfl, hb1⟩; (first | replace hb := Ext.trans hb hb1 | replace hb := Ext.trans (Ext.trans hb (Ext.drewN _ _)) hb1 | replace hb := Ext.trans (Ext.trans hb (Ext.alloc _ _)) hb1 | have hb := hb1); clear hb1; obtain ⟨hc1, hf1⟩ := hb.old)
      | (go_at_call 16; refine (bounds_ok _ _ _ HV.out).mono ?_; rintro e w1 ⟨rfl, hb1⟩; (first | replace hb := Ext.trans hb hb1 | replace hb := Ext.trans (Ext.trans hb (Ext.drewN _ _)) hb1 | replace hb := Ext.trans (Ext.trans hb (Ext.alloc _ _)) hb1 | have hb := hb1); clear hb1; obtain ⟨hc1, hf1⟩ := hb.old))
    have hL := fun (x : Later _) => (Ext.trans hb x.ext).old.1
    refine wp_region_later (by kernel_rfl) (by kernel_rfl) ?_
    repeat (go_big_quiet_step (((go_at_call 35; exact Calls.later (bclip_any _ _ _ _ hl.out)))))
    refine wpQuiet_nil ?_
    intro w2 hw2
    replace hb := Ext.trans hb (Later.of hw2)
    clear hw2 hL
    obtain ⟨hc, hf⟩ := hb.old
    go_wp2_with fail
    have hL := fun (x : Later _) => (Ext.trans hb x.ext).old.1
    refine wp_region_later (by kernel_rfl) (by kernel_rfl) ?_
    repeat (go_big_quiet_step (((go_at_call 35; exact Calls.later (bclip_any _ _ _ _ (by decide))))))
    refine wpQuiet_nil ?_
    intro w2 hw2
    replace hb := Ext.trans hb (Later.of hw2)
    clear hw2 hL
    obtain ⟨hc, hf⟩ := hb.old
    go_wp2_with (first
      | (go_at_call 25; refine (add_any _ _ _ _ _).mono ?_; rintro e w1 ⟨rfl, hb1⟩; (first | replace hb := Ext.trans hb hb1 | replace hb := Ext.trans (Ext.trans hb (Ext.drewN _ _)) hb1 | replace hb := Ext.trans (Ext.trans hb (Ext.alloc _ _)) hb1 | have hb := hb1); clear hb1; obtain ⟨hc1, hf1⟩ := hb.old)
      | (go_at_call 29; refine (mul_any _ _ _ _ _ _ _).mono ?_; rintro e w1 ⟨rfl, hb1⟩; (first | replace hb := Ext.trans hb hb1 | replace hb := Ext.trans (Ext.trans hb (Ext.drewN _ _)) hb1 | replace hb := Ext.trans (Ext.trans hb (Ext.alloc _ _)) hb1 | have hb := hb1); clear hb1; obtain ⟨hc1, hf1⟩ := hb.old))
    go_ret
    exact ⟨by simp, (by repeat (first | exact Ext.refl _ | assumption | exact Ext.alloc _ _ | refine Ext.trans ?_ (by assumption) | refine Ext.trans ?_ (Ext.alloc _ _) | refine Ext.trans ?_ (Ext.drewN _ _) | refine Ext.trans ?_ (Ext.drew _)))⟩

set_option maxRecDepth 100000 in
set_option maxHeartbeats 4000000 in
theorem mono_gt (b s x0 x1 x2 n m : Int) (w : World) (hv : chkF b s = 0) (hx : x1 < x0) :
    Calls Try.prog 10 #[fmt b s, .agg #[I x0, I x1, I x2], .agg #[I n, I m]] w fun e w' => e = .returned (.bool true) ∧ Ext w w' := by
  obtain ⟨h1, h2, _, _⟩ := chk_of hv
  have hl := Lib.hid (lohi b)
  have h4 : errv 0 = .nilIface := rfl
  obtain ⟨A, hA⟩ : ∃ A, clpN x1 (loW b) (hiW b) = A := ⟨_, rfl⟩
  obtain ⟨B, hB⟩ : ∃ A, clpN x0 (loW b) (hiW b) = A := ⟨_, rfl⟩
  obtain ⟨C, hC⟩ : ∃ A, clpN x2 (loW b) (hiW b) = A := ⟨_, rfl⟩
  obtain ⟨N, hN⟩ : ∃ A, clpN n 0 62 = A := ⟨_, rfl⟩
  obtain ⟨M, hM⟩ : ∃ A, clpN m 0 3 = A := ⟨_, rfl⟩
  obtain ⟨D, hD1, hD2, hD3⟩ : ∃ D, 0 ≤ D ∧ (0 ≤ C → D = C) ∧ (C < 0 → D = 0) := by
    by_cases h : 0 ≤ C
    · exact ⟨C, h, fun _ => rfl, fun h' => by omega⟩
    · exact ⟨0, by decide, fun h' => absurd h' h, fun _ => rfl⟩
  have bA := clpN_bd (n := x1) hl.out
  have bB := clpN_bd (n := x0) hl.out
  have bC := clpN_bd (n := x2) hl.out
  have bN := clpN_bd (n := n) (show (0 : Int) ≤ 62 by decide)
  have bM := clpN_bd (n := m) (show (0 : Int) ≤ 3 by decide)
  have hAB := clpN_mono (x := x1) (y := x0) (lo := loW b) (hi := hiW b) hl.out (by omega)
  rw [hA] at bA
  rw [hB] at bB
  rw [hC] at bC
  rw [hN] at bN
  rw [hM] at bM
  rw [hA, hB] at hAB
  have lo0 : loW b ≤ 0 ∧ 0 ≤ hiW b := by have := pow_pos (b.toNat - 1); unfold loW hiW; omega
  have iA := inB_iff.2 bA
  have iB := inB_iff.2 bB
  have iC := inB_iff.2 bC
  have iD : inB b D = true := inB_iff.2 (by by_cases h : 0 ≤ C <;> omega)
  have s1 : addF b s A C (A + C) = (clipF b (A + C), cutF b (A + C), 0) := add3_ok (pair_ok hv iA iC)
  have s2 : addF b s B C (B + C) = (clipF b (B + C), cutF b (B + C), 0) := add3_ok (pair_ok hv iB iC)
  have s3 : addF b s C A (C + A) = (clipF b (A + C), cutF b (A + C), 0) := by rw [Int.add_comm C A]; exact add3_ok (pair_ok hv iC iA)
  have t1 : mulF b s A D N M = (clipF b (rnd (A * D) N M), cutF b (rnd (A * D) N M), 0) := mulF_ok (pair_ok hv iA iD) rfl bN.1 bN.2 bM.1 bM.2
  have t2 : mulF b s B D N M = (clipF b (rnd (B * D) N M), cutF b (rnd (B * D) N M), 0) := mulF_ok (pair_ok hv iB iD) rfl bN.1 bN.2 bM.1 bM.2
  have t3 : mulF b s D A N M = (clipF b (rnd (A * D) N M), cutF b (rnd (A * D) N M), 0) := by rw [Int.mul_comm A D]; exact mulF_ok (pair_ok hv iD iA) rfl bN.1 bN.2 bM.1 bM.2
  have m1 : clipF b (A + C) ≤ clipF b (B + C) := clipF_mono (by omega)
  have m2 : clipF b (rnd (A * D) N M) ≤ clipF b (rnd (B * D) N M) := clipF_mono (rnd_mono bM.1 bM.2 (Int.mul_le_mul_of_nonneg_right hAB hD1))
  have HV := Lib.hid hv
  clear hv iA iB iC iD bA bB bN bM lo0 hAB
  by_cases hC0 : 0 ≤ C
  · have e := hD2 hC0
    subst e
    clear hD1 hD2 hD3
    go_enter Try.func10, Try.ntmps10
    go_wp2_with (first
      | (go_at_call 14; refine (awake_any _).mono ?_; rintro e w1 ⟨rfl, hb1⟩; (first | replace hb := Ext.trans hb hb1 | replace hb := Ext.trans (Ext.trans hb (Ext.drewN _ _)) hb1 | replace hb := Ext.trans (Ext.trans hb (Ext.alloc _ _)) hb1 | have hb := hb1); clear hb1; obtain ⟨hc1, hf1⟩ := hb.old)
      | (go_at_call 19; refine (check_ok _ _ _ HV.out).mono ?_; rintro e w1 ⟨rfl, hb1⟩; (first | replace hb := Ext.trans hb hb1 | replace hb := Ext.trans (Ext.trans hb (Ext.drewN _ _)) hb1 | replace hb := Ext.trans (Ext.trans hb (Ext.alloc _ _)) hb1 | have hb := hb1); clear hb1; obtain ⟨hc1, hf1⟩ := hb.old)
      | (go_at_call 16; refine (bounds_ok _ _ _ HV.out).mono ?_; rintro e w1 ⟨rfl, hb1⟩; (first | replace hb := Ext.trans hb hb1 | replace hb := Ext.trans (Ext.trans hb (Ext.drewN _ _)) hb1 | replace hb := Ext.trans (Ext.trans hb (Ext.alloc _ _)) hb1 | have hb := hb1); clear hb1; obtain ⟨hc1, hf1⟩ := hb.old))
    have hL := fun (x : Later _) => (Ext.trans hb x.ext).old.1
    refine wp_region_later (by kernel_rfl) (by kernel_rfl) ?_
    repeat (go_big_quiet_step (((go_at_call 35; exact Calls.later (bclip_any _ _ _ _ hl.out)))))
    refine wpQuiet_nil ?_
    intro w2 hw2
    replace hb := Ext.trans hb (Later.of hw2)
    clear hw2 hL
    obtain ⟨hc, hf⟩ := hb.old
    go_wp2_with fail
    have hL := fun (x : Later _) => (Ext.trans hb x.ext).old.1
    refine wp_region_later (by kernel_rfl) (by kernel_rfl) ?_
    repeat (go_big_quiet_step (((go_at_call 35; exact Calls.later (bclip_any _ _ _ _ (by decide))))))
    refine wpQuiet_nil ?_
    intro w2 hw2
    replace hb := Ext.trans hb (Later.of hw2)
    clear hw2 hL
    obtain ⟨hc, hf⟩ := hb.old
    go_wp2_with (first
      | (go_at_call 25; refine (add_any _ _ _ _ _).mono ?_; rintro e w1 ⟨rfl, hb1⟩; (first | replace hb := Ext.trans hb hb1 | replace hb := Ext.trans (Ext.trans hb (Ext.drewN _ _)) hb1 | replace hb := Ext.trans (Ext.trans hb (Ext.alloc _ _)) hb1 | have hb := hb1); clear hb1; obtain ⟨hc1, hf1⟩ := hb.old)
      | (go_at_call 29; refine (mul_any _ _ _ _ _ _ _).mono ?_; rintro e w1 ⟨rfl, hb1⟩; (first | replace hb := Ext.trans hb hb1 | replace hb := Ext.trans (Ext.trans hb (Ext.drewN _ _)) hb1 | replace hb := Ext.trans (Ext.trans hb (Ext.alloc _ _)) hb1 | have hb := hb1); clear hb1; obtain ⟨hc1, hf1⟩ := hb.old))
    go_ret
    exact ⟨by simp, (by repeat (first | exact Ext.refl _ | assumption | exact Ext.alloc _ _ | refine Ext.trans ?_ (by assumption) | refine Ext.trans ?_ (Ext.alloc _ _) | refine Ext.trans ?_ (Ext.drewN _ _) | refine Ext.trans ?_ (Ext.drew _)))⟩
  · have e := hD3 (by omega)
    subst e
    clear hD1 hD2 hD3
    go_enter Try.func10, Try.ntmps10
    go_wp2_with (first
      | (go_at_call 14; refine (awake_any _).mono ?_; rintro e w1 ⟨rfl, hb1⟩; (first | replace hb := Ext.trans hb hb1 | replace hb := Ext.trans (Ext.trans hb (Ext.drewN _ _)) hb1 | replace hb := Ext.trans (Ext.trans hb (Ext.alloc _ _)) hb1 | have hb := hb1); clear hb1; obtain ⟨hc1, hf1⟩ := hb.old)
      | (go_at_call 19; refine (check_ok _ _ _ HV.out).mono ?_; rintro e w1 ⟨rfl, hb1⟩; (first | replace hb := Ext.trans hb hb1 | replace hb := Ext.trans (Ext.trans hb (Ext.drewN _ _)) hb1 | replace hb := Ext.trans (Ext.trans hb (Ext.alloc _ _)) hb1 | have hb := hb1); clear hb1; obtain ⟨hc1, hf1⟩ := hb.old)
      | (go_at_call 16; refine (bounds_ok _ _ _ HV.out).mono ?_; rintro e w1 ⟨rfl, hb1⟩; (first | replace hb := Ext.trans hb hb1 | replace hb := Ext.trans (Ext.trans hb (Ext.drewN _ _)) hb1 | replace hb := Ext.trans (Ext.trans hb (Ext.alloc _ _)) hb1 | have hb := hb1); clear hb1; obtain ⟨hc1, hf1⟩ := hb.old))
    have hL := fun (x : Later _) => (Ext.trans hb x.ext).old.1
    refine wp_region_later (by kernel_rfl) (by kernel_rfl) ?_
    repeat (go_big_quiet_step (((go_at_call 35; exact Calls.later (bclip_any _ _ _ _ hl.out)))))
    refine wpQuiet_nil ?_
    intro w2 hw2
    replace hb := Ext.trans hb (Later.of hw2)
    clear hw2 hL
    obtain ⟨hc, hf⟩ := hb.old
    go_wp2_with fail
    have hL := fun (x : Later _) => (Ext.trans hb x.ext).old.1
    refine wp_region_later (by kernel_rfl) (by kernel_rfl) ?_
    repeat (go_big_quiet_step (((go_at_call 35; exact Calls.later (bclip_any _ _ _ _ (by decide))))))
    refine wpQuiet_nil ?_
    intro w2 hw2
    replace hb := Ext.trans hb (Later.of hw2)
    clear hw2 hL
    obtain ⟨hc, hf⟩ := hb.old
    go_wp2_with (first
      | (go_at_call 25; refine (add_any _ _ _ _ _).mono ?_; rintro e w1 ⟨rfl, hb1⟩; (first | replace hb := Ext.trans hb hb1 | replace hb := Ext.trans (Ext.trans hb (Ext.drewN _ _)) hb1 | replace hb := Ext.trans (Ext.trans hb (Ext.alloc _ _)) hb1 | have hb := hb1); clear hb1; obtain ⟨hc1, hf1⟩ := hb.old)
      | (go_at_call 29; refine (mul_any _ _ _ _ _ _ _).mono ?_; rintro e w1 ⟨rfl, hb1⟩; (first | replace hb := Ext.trans hb hb1 | replace hb := Ext.trans (Ext.trans hb (Ext.drewN _ _)) hb1 | replace hb := Ext.trans (Ext.trans hb (Ext.alloc _ _)) hb1 | have hb := hb1); clear hb1; obtain ⟨hc1, hf1⟩ := hb.old))
    go_ret
    exact ⟨by simp, (by repeat (first | exact Ext.refl _ | assumption | exact Ext.alloc _ _ | refine Ext.trans ?_ (by assumption) | refine Ext.trans ?_ (Ext.alloc _ _) | refine Ext.trans ?_ (Ext.drewN _ _) | refine Ext.trans ?_ (Ext.drew _)))⟩

set_option maxRecDepth 100000 in
set_option maxHeartbeats 4000000 in
theorem mono_eq (b s x0 x2 n m : Int) (w : World) (hv : chkF b s = 0) :
    Calls Try.prog 10 #[fmt b s, .agg #[I x0, I x0, I x2], .agg #[I n, I m]] w fun e w' => e = .returned (.bool true) ∧ Ext w w' := by
  obtain ⟨h1, h2, _, _⟩ := chk_of hv
  have hl := Lib.hid (lohi b)
  have h4 : errv 0 = .nilIface := rfl
  obtain ⟨A, hA⟩ : ∃ A, clpN x0 (loW b) (hiW b) = A := ⟨_, rfl⟩
  obtain ⟨C, hC⟩ : ∃ A, clpN x2 (loW b) (hiW b) = A := ⟨_, rfl⟩
  obtain ⟨N, hN⟩ : ∃ A, clpN n 0 62 = A := ⟨_, rfl⟩
  obtain ⟨M, hM⟩ : ∃ A, clpN m 0 3 = A := ⟨_, rfl⟩
  obtain ⟨D, hD1, hD2, hD3⟩ : ∃ D, 0 ≤ D ∧ (0 ≤ C → D = C) ∧ (C < 0 → D = 0) := by
    by_cases h : 0 ≤ C
    · exact ⟨C, h, fun _ => rfl, fun h' => by omega⟩
    · exact ⟨0, by decide, fun h' => absurd h' h, fun _ => rfl⟩
  have bA := clpN_bd (n := x0) hl.out
  have bC := clpN_bd (n := x2) hl.out
  have bN := clpN_bd (n := n) (show (0 : Int) ≤ 62 by decide)
  have bM := clpN_bd (n := m) (show (0 : Int) ≤ 3 by decide)
  have hAB := clpN_mono (x := x0) (y := x0) (lo := loW b) (hi := hiW b) hl.out (by omega)
  rw [hA] at bA
  rw [hC] at bC
  rw [hN] at bN
  rw [hM] at bM
  rw [hA] at hAB
  have lo0 : loW b ≤ 0 ∧ 0 ≤ hiW b := by have := pow_pos (b.toNat - 1); unfold loW hiW; omega
  have iA := inB_iff.2 bA
  have iC := inB_iff.2 bC
  have iD : inB b D = true := inB_iff.2 (by by_cases h : 0 ≤ C <;> omega)
  have s1 : addF b s A C (A + C) = (clipF b (A + C), cutF b (A + C), 0) := add3_ok (pair_ok hv iA iC)
  have s3 : addF b s C A (C + A) = (clipF b (A + C), cutF b (A + C), 0) := by rw [Int.add_comm C A]; exact add3_ok (pair_ok hv iC iA)
  have t1 : mulF b s A D N M = (clipF b (rnd (A * D) N M), cutF b (rnd (A * D) N M), 0) := mulF_ok (pair_ok hv iA iD) rfl bN.1 bN.2 bM.1 bM.2
  have t3 : mulF b s D A N M = (clipF b (rnd (A * D) N M), cutF b (rnd (A * D) N M), 0) := by rw [Int.mul_comm A D]; exact mulF_ok (pair_ok hv iD iA) rfl bN.1 bN.2 bM.1 bM.2
  have HV := Lib.hid hv
  clear hv iA iC iD bA bN bM lo0 hAB
  by_cases hC0 : 0 ≤ C
  · have e := hD2 hC0
    subst e
    clear hD1 hD2 hD3
    go_enter Try.func10, Try.ntmps10
    go_wp2_with (first
      | (go_at_call 14; refine (awake_any _).mono ?_; rintro e w1 ⟨rfl, hb1⟩; (first | replace hb := Ext.trans hb hb1 | replace hb := Ext.trans (Ext.trans hb (Ext.drewN _ _)) hb1 | replace hb := Ext.trans (Ext.trans hb (Ext.alloc _ _)) hb1 | have hb := hb1); clear hb1; obtain ⟨hc1, hf1⟩ := hb.old)
      | (go_at_call 19; refine (check_ok _ _ _ HV.out).mono ?_; rintro e w1 ⟨rfl, hb1⟩; (first | replace hb := Ext.trans hb hb1 | replace hb := Ext.trans (Ext.trans hb (Ext.drewN _ _)) hb1 | replace hb := Ext.trans (Ext.trans hb (Ext.alloc _ _)) hb1 | have hb := hb1); clear hb1; obtain ⟨hc1, hf1⟩ := hb.old)
      | (go_at_call 16; refine (bounds_ok _ _ _ HV.out).mono ?_; rintro e w1 ⟨rfl, hb1⟩; (first | replace hb := Ext.trans hb hb1 | replace hb := Ext.trans (Ext.trans hb (Ext.drewN _ _)) hb1 | replace hb := Ext.trans (Ext.trans hb (Ext.alloc _ _)) hb1 | have hb := hb1); clear hb1; obtain ⟨hc1, hf1⟩ := hb.old))
    have hL := fun (x : Later _) => (Ext.trans hb x.ext).old.1
    refine wp_region_later (by kernel_rfl) (by kernel_rfl) ?_
    repeat (go_big_quiet_step (((go_at_call 35; exact Calls.later (bclip_any _ _ _ _ hl.out)))))
    refine wpQuiet_nil ?_
    intro w2 hw2
    replace hb := Ext.trans hb (Later.of hw2)
    clear hw2 hL
    obtain ⟨hc, hf⟩ := hb.old
    go_wp2_with fail
    have hL := fun (x : Later _) => (Ext.trans hb x.ext).old.1
    refine wp_region_later (by kernel_rfl) (by kernel_rfl) ?_
    repeat (go_big_quiet_step (((go_at_call 35; exact Calls.later (bclip_any _ _ _ _ (by decide))))))
    refine wpQuiet_nil ?_
    intro w2 hw2
    replace hb := Ext.trans hb (Later.of hw2)
    clear hw2 hL
    obtain ⟨hc, hf⟩ := hb.old
    go_wp2_with (first
      | (go_at_call 25; refine (add_any _ _ _ _ _).mono ?_; rintro e w1 ⟨rfl, hb1⟩; (first | replace hb := Ext.trans hb hb1 | replace hb := Ext.trans (Ext.trans hb (Ext.drewN _ _)) hb1 | replace hb := Ext.trans (Ext.trans hb (Ext.alloc _ _)) hb1 | have hb := hb1); clear hb1; obtain ⟨hc1, hf1⟩ := hb.old)
      | (go_at_call 29; refine (mul_any _ _ _ _ _ _ _).mono ?_; rintro e w1 ⟨rfl, hb1⟩; (first | replace hb := Ext.trans hb hb1 | replace hb := Ext.trans (Ext.trans hb (Ext.drewN _ _)) hb1 | replace hb := Ext.trans (Ext.trans hb (Ext.alloc _ _)) hb1 | have hb := hb1); clear hb1; obtain ⟨hc1, hf1⟩ := hb.old))
    go_ret
    exact ⟨by simp, (by repeat (first | exact Ext.refl _ | assumption | exact Ext.alloc _ _ | refine Ext.trans ?_ (by assumption) | refine Ext.trans ?_ (Ext.alloc _ _) | refine Ext.trans ?_ (Ext.drewN _ _) | refine Ext.trans ?_ (Ext.drew _)))⟩
  · have e := hD3 (by omega)
    subst e
    clear hD1 hD2 hD3
    go_enter Try.func10, Try.ntmps10
    go_wp2_with (first
      | (go_at_call 14; refine (awake_any _).mono ?_; rintro e w1 ⟨rfl, hb1⟩; (first | replace hb := Ext.trans hb hb1 | replace hb := Ext.trans (Ext.trans hb (Ext.drewN _ _)) hb1 | replace hb := Ext.trans (Ext.trans hb (Ext.alloc _ _)) hb1 | have hb := hb1); clear hb1; obtain ⟨hc1, hf1⟩ := hb.old)
      | (go_at_call 19; refine (check_ok _ _ _ HV.out).mono ?_; rintro e w1 ⟨rfl, hb1⟩; (first | replace hb := Ext.trans hb hb1 | replace hb := Ext.trans (Ext.trans hb (Ext.drewN _ _)) hb1 | replace hb := Ext.trans (Ext.trans hb (Ext.alloc _ _)) hb1 | have hb := hb1); clear hb1; obtain ⟨hc1, hf1⟩ := hb.old)
      | (go_at_call 16; refine (bounds_ok _ _ _ HV.out).mono ?_; rintro e w1 ⟨rfl, hb1⟩; (first | replace hb := Ext.trans hb hb1 | replace hb := Ext.trans (Ext.trans hb (Ext.drewN _ _)) hb1 | replace hb := Ext.trans (Ext.trans hb (Ext.alloc _ _)) hb1 | have hb := hb1); clear hb1; obtain ⟨hc1, hf1⟩ := hb.old))
    have hL := fun (x : Later _) => (Ext.trans hb x.ext).old.1
    refine wp_region_later (by kernel_rfl) (by kernel_rfl) ?_
    repeat (go_big_quiet_step (((go_at_call 35; exact Calls.later (bclip_any _ _ _ _ hl.out)))))
    refine wpQuiet_nil ?_
    intro w2 hw2
    replace hb := Ext.trans hb (Later.of hw2)
    clear hw2 hL
    obtain ⟨hc, hf⟩ := hb.old
    go_wp2_with fail
    have hL := fun (x : Later _) => (Ext.trans hb x.ext).old.1
    refine wp_region_later (by kernel_rfl) (by kernel_rfl) ?_
    repeat (go_big_quiet_step (((go_at_call 35; exact Calls.later (bclip_any _ _ _ _ (by decide))))))
    refine wpQuiet_nil ?_
    intro w2 hw2
    replace hb := Ext.trans hb (Later.of hw2)
    clear hw2 hL
    obtain ⟨hc, hf⟩ := hb.old
    go_wp2_with (first
      | (go_at_call 25; refine (add_any _ _ _ _ _).mono ?_; rintro e w1 ⟨rfl, hb1⟩; (first | replace hb := Ext.trans hb hb1 | replace hb := Ext.trans (Ext.trans hb (Ext.drewN _ _)) hb1 | replace hb := Ext.trans (Ext.trans hb (Ext.alloc _ _)) hb1 | have hb := hb1); clear hb1; obtain ⟨hc1, hf1⟩ := hb.old)
      | (go_at_call 29; refine (mul_any _ _ _ _ _ _ _).mono ?_; rintro e w1 ⟨rfl, hb1⟩; (first | replace hb := Ext.trans hb hb1 | replace hb := Ext.trans (Ext.trans hb (Ext.drewN _ _)) hb1 | replace hb := Ext.trans (Ext.trans hb (Ext.alloc _ _)) hb1 | have hb := hb1); clear hb1; obtain ⟨hc1, hf1⟩ := hb.old))
    go_ret
    exact ⟨by simp, (by repeat (first | exact Ext.refl _ | assumption | exact Ext.alloc _ _ | refine Ext.trans ?_ (by assumption) | refine Ext.trans ?_ (Ext.alloc _ _) | refine Ext.trans ?_ (Ext.drewN _ _) | refine Ext.trans ?_ (Ext.drew _)))⟩

theorem mono_any (b s x0 x1 x2 n m : Int) (w : World) :
    Calls Try.prog 10 #[fmt b s, .agg #[I x0, I x1, I x2], .agg #[I n, I m]] w fun e w' => e = .returned (.bool true) ∧ Ext w w' := by
  by_cases hv : chkF b s = 0
  · obtain h | h | h : x0 < x1 ∨ x1 < x0 ∨ x0 = x1 := by omega
    · exact mono_lt b s x0 x1 x2 n m w hv h
    · exact mono_gt b s x0 x1 x2 n m w hv h
    · subst h; exact mono_eq b s x0 x2 n m w hv
  · exact mono_bad b s x0 x1 x2 n m w hv

end Go.Proofs.Ytfllhbebackbdaa
