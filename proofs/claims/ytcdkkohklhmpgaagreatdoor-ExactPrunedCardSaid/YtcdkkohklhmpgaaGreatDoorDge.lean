/- Diagrams: checkBlock by the code. -/
import Derived.Test.YtcdkkohklhmpgaaGreatDoorDgcd
namespace Go.Proofs.YtcdkkohklhmpgaaGreatDoor
open Go.RowKit

/-- The boxes of a diagram and of a block. -/
structure BxB (w W : World) (D : Dia) (p : Pl) (b : Blk) (A : Option Addr) (c : Nat) : Prop where
  ext : Ext w W
  d0 : ∀ w', Ext W w' → w'.cell? ⟨w.heap.size, 0, none⟩ = some (.slice p.AI D.ni p.cI) ∧ w'.cell? ⟨w.heap.size, 1, none⟩ = some (.slice p.AB D.nb p.cB) ∧ w'.cell? ⟨w.heap.size, 2, none⟩ = some (.slice p.AO D.no p.cO)
  b0 : ∀ w', Ext W w' → w'.cell? ⟨w.heap.size + 1, 0, none⟩ = some (I b.k) ∧ w'.cell? ⟨w.heap.size + 1, 1, none⟩ = some (.slice A b.n c) ∧ w'.cell? ⟨w.heap.size + 1, 2, none⟩ = some (I b.vn) ∧ w'.cell? ⟨w.heap.size + 1, 3, none⟩ = some (I b.ve) ∧
    w'.cell? ⟨w.heap.size + 1, 4, none⟩ = some (I b.un) ∧ w'.cell? ⟨w.heap.size + 1, 5, none⟩ = some (I b.ue)
theorem bxB (w : World) (D : Dia) (p : Pl) (b : Blk) (A : Option Addr) (c : Nat) (t t' : TypeId) :
    BxB w ((w.alloc (.cells #[.slice p.AI D.ni p.cI, .slice p.AB D.nb p.cB, .slice p.AO D.no p.cO] t)).alloc (.cells #[I b.k, .slice A b.n c, I b.vn, I b.ve, I b.un, I b.ue] t')) D p b A c where
  ext := (Ext.alloc _ _).trans (Ext.alloc _ _)
  d0 := fun w' e => by
    have h : w.heap.size < ((w.alloc (.cells #[.slice p.AI D.ni p.cI, .slice p.AB D.nb p.cB, .slice p.AO D.no p.cO] t)).alloc (.cells #[I b.k, .slice A b.n c, I b.vn, I b.ve, I b.un, I b.ue] t')).heap.size := by simp; omega
    exact ⟨(e.old.1 _ _ h).trans (by go_simp), (e.old.1 _ _ h).trans (by go_simp), (e.old.1 _ _ h).trans (by go_simp)⟩
  b0 := fun w' e => by
    have h : w.heap.size + 1 < ((w.alloc (.cells #[.slice p.AI D.ni p.cI, .slice p.AB D.nb p.cB, .slice p.AO D.no p.cO] t)).alloc (.cells #[I b.k, .slice A b.n c, I b.vn, I b.ve, I b.un, I b.ue] t')).heap.size := by simp
    exact ⟨(e.old.1 _ _ h).trans (by go_simp), (e.old.1 _ _ h).trans (by go_simp), (e.old.1 _ _ h).trans (by go_simp), (e.old.1 _ _ h).trans (by go_simp), (e.old.1 _ _ h).trans (by go_simp), (e.old.1 _ _ h).trans (by go_simp)⟩

/-- What is wrong with a block's arguments: 0 or 10. -/
theorem idx_10 {n : Nat} {c : Int} {f : Nat → Int} (h : fstE n (fun i => inE c (f i)) ≠ 0) : fstE n (fun i => inE c (f i)) = 10 := by
  induction n with
  | zero => exact absurd rfl h
  | succ n ih =>
    unfold fstE at h ⊢
    by_cases e : fstE n (fun i => inE c (f i)) = 0
    · rw [if_pos e] at h ⊢
      simp only [] at h ⊢
      unfold inE at h ⊢
      split at h
      · exact absurd rfl h
      · rename_i q; rw [if_neg q]
    · rw [if_neg e]; exact ih e
theorem arity_b (k : Int) : 0 ≤ arity k ∧ arity k ≤ 2 := by unfold arity; split <;> (try split) <;> omega

section
variable {w : World} {D : Dia} {p : Pl} {b : Blk} {A : Option Addr} {c : Nat}

set_option maxRecDepth 100000 in
set_option maxHeartbeats 1000000 in
theorem block_type (h : b.k < 0 ∨ 11 < b.k) : Calls Tryz.prog 94 #[dgv D p, bkv b.k A b.n c b.vn b.ve b.un b.ue] w fun e w' => e = .returned (.iface 61 (I 7)) ∧ Ext w w' := by
  rcases h with h | h
  · go_enter Tryz.func94, Tryz.ntmps94
    go_wp2
    go_ret
    exact ⟨rfl, (by repeat (first | exact Ext.refl _ | assumption | exact Ext.alloc _ _ | refine Ext.trans ?_ (by assumption) | refine Ext.trans ?_ (Ext.alloc _ _) | refine Ext.trans ?_ (Ext.drewN _ _) | refine Ext.trans ?_ (Ext.drew _)))⟩
  · have h0 : ¬ b.k < 0 := by omega
    go_enter Tryz.func94, Tryz.ntmps94
    go_wp2
    go_ret
    exact ⟨rfl, (by repeat (first | exact Ext.refl _ | assumption | exact Ext.alloc _ _ | refine Ext.trans ?_ (by assumption) | refine Ext.trans ?_ (Ext.alloc _ _) | refine Ext.trans ?_ (Ext.drewN _ _) | refine Ext.trans ?_ (Ext.drew _)))⟩
set_option maxRecDepth 100000 in
set_option maxHeartbeats 1000000 in
theorem block_shape (h0 : 0 ≤ b.k) (h1 : b.k ≤ 11) (h2 : (b.n : Int) ≠ arity b.k) :
    Calls Tryz.prog 94 #[dgv D p, bkv b.k A b.n c b.vn b.ve b.un b.ue] w fun e w' => e = .returned (.iface 61 (I 11)) ∧ Ext w w' := by
  have g0 : ¬ b.k < 0 := by omega
  have g1 : ¬ 11 < b.k := by omega
  have HA := Lib.hid (arguments_any b.k)
  have hb2 := arity_b b.k
  generalize arity b.k = r at *
  have h2' : ((b.n : Int) == r) = false := by simpa using h2
  have HB := Lib.hid (bxB w D p b A c 48 100)
  have hb : Ext w _ := HB.out.ext
  obtain ⟨k0, k1, k2, k3, k4, k5⟩ := HB.out.b0 _ (Ext.refl _)
  clear h0 h1
  go_enter Tryz.func94, Tryz.ntmps94
  go_upto_region 3 with (fail)
  have hK := fun (x : Later _) => HB.out.b0 x.to x.ext
  refine wp_region_later (by kernel_rfl) (by kernel_rfl) ?_
  repeat (go_big_quiet_step ((go_at_call 160; exact Calls.later (HA.out _))))
  refine wpQuiet_nil ?_
  intro w2 hw2
  have hx := Later.of hw2
  clear hw2 hK
  go_wp2_with fail
  go_ret
  exact ⟨rfl, hb.trans hx⟩
set_option maxRecDepth 100000 in
set_option maxHeartbeats 1000000 in
theorem block_idx (ra : Ri w A b.n b.a) (hm : b.n ≤ maxLen) (h0 : 0 ≤ b.k) (h1 : b.k ≤ 11) (h2 : (b.n : Int) = arity b.k) (hi : fstE b.n (fun i => inE (cntB D b) (b.a i)) ≠ 0) :
    Calls Tryz.prog 94 #[dgv D p, bkv b.k A b.n c b.vn b.ve b.un b.ue] w fun e w' => e = .returned (.iface 61 (I 10)) ∧ Ext w w' := by
  have g0 : ¬ b.k < 0 := by omega
  have g1 : ¬ 11 < b.k := by omega
  have HA := Lib.hid (arguments_any b.k)
  rw [← h2] at HA
  have HX : Hid (∀ w', Ext w w' → Calls Tryz.prog 95 #[.slice A b.n c, I (cntB D b)] w' fun e w'' => e = .returned (.bool (fstE b.n (fun i => inE (cntB D b) (b.a i)) == 0)) ∧ Ext w' w'') := fun w' e => areIndices_any (cntB D b) (ra.ext e) hm
  rw [show (fstE b.n (fun i => inE (cntB D b) (b.a i)) == 0) = false by simpa using hi] at HX
  clear ra hm h2
  have HB := Lib.hid (bxB w D p b A c 48 100)
  have hb : Ext w _ := HB.out.ext
  obtain ⟨k0, k1, k2, k3, k4, k5⟩ := HB.out.b0 _ (Ext.refl _)
  by_cases hk : b.k = 0
  all_goals
    unfold cntB at HX
    (first | rw [if_pos hk] at HX | rw [if_neg hk] at HX)
    (first | (have hk' : (b.k == 0) = true := beq_iff_eq.2 hk) | (have hk' : (b.k == 0) = false := by simpa using hk))
    clear hk h0 h1 hi
    go_enter Tryz.func94, Tryz.ntmps94
    go_upto_region 3 with (fail)
    have hK := fun (x : Later _) => HB.out.b0 x.to x.ext
    refine wp_region_later (by kernel_rfl) (by kernel_rfl) ?_
    repeat (go_big_quiet_step ((go_at_call 160; exact Calls.later (HA.out _))))
    refine wpQuiet_nil ?_
    intro w2 hw2
    have hx := Later.of hw2
    clear hw2 hK
    obtain ⟨d0, d1, d2⟩ := HB.out.d0 _ hx
    obtain ⟨m0, m1, m2, m3, m4, m5⟩ := HB.out.b0 _ hx
    replace hb := hb.trans hx
    go_wp2_with (go_at_call 95; (with_reducible refine (HX.out _ hb).mono ?_); rintro e w3 ⟨rfl, hb3⟩)
    go_ret
    exact ⟨rfl, hb.trans hb3⟩

set_option maxRecDepth 100000 in
set_option maxHeartbeats 1000000 in
theorem block_val (ra : Ri w A b.n b.a) (hm : b.n ≤ maxLen) (h0 : 0 ≤ b.k) (h1 : b.k ≤ 11) (h2 : (b.n : Int) = arity b.k) (hi : fstE b.n (fun i => inE (cntB D b) (b.a i)) = 0) (hv : scE (usesV b.k) b.vn b.ve ≠ 0) :
    Calls Tryz.prog 94 #[dgv D p, bkv b.k A b.n c b.vn b.ve b.un b.ue] w fun e w' => e = .returned (.iface 61 (I (scE (usesV b.k) b.vn b.ve))) ∧ Ext w w' := by
  have g0 : ¬ b.k < 0 := by omega
  have g1 : ¬ 11 < b.k := by omega
  have HA := Lib.hid (arguments_any b.k)
  rw [← h2] at HA
  have HX : Hid (∀ w', Ext w w' → Calls Tryz.prog 95 #[.slice A b.n c, I (cntB D b)] w' fun e w'' => e = .returned (.bool (fstE b.n (fun i => inE (cntB D b) (b.a i)) == 0)) ∧ Ext w' w'') := fun w' e => areIndices_any (cntB D b) (ra.ext e) hm
  rw [show (fstE b.n (fun i => inE (cntB D b) (b.a i)) == 0) = true by simpa using hi] at HX
  clear ra hm h2
  have HB := Lib.hid (bxB w D p b A c 48 100)
  have hb : Ext w _ := HB.out.ext
  obtain ⟨k0, k1, k2, k3, k4, k5⟩ := HB.out.b0 _ (Ext.refl _)
  have HV := Lib.hid (checkScalar_any (usesV b.k) b.vn b.ve)
  rw [errv_n hv] at HV
  generalize scE (usesV b.k) b.vn b.ve = ev at *
  by_cases hk : b.k = 0
  all_goals
    unfold cntB at HX
    (first | rw [if_pos hk] at HX | rw [if_neg hk] at HX)
    (first | (have hk' : (b.k == 0) = true := beq_iff_eq.2 hk) | (have hk' : (b.k == 0) = false := by simpa using hk))
    clear hk h0 h1 hi hv
    go_enter Tryz.func94, Tryz.ntmps94
    go_upto_region 3 with (fail)
    have hK := fun (x : Later _) => HB.out.b0 x.to x.ext
    refine wp_region_later (by kernel_rfl) (by kernel_rfl) ?_
    repeat (go_big_quiet_step ((go_at_call 160; exact Calls.later (HA.out _))))
    refine wpQuiet_nil ?_
    intro w2 hw2
    have hx := Later.of hw2
    clear hw2 hK
    obtain ⟨d0, d1, d2⟩ := HB.out.d0 _ hx
    obtain ⟨m0, m1, m2, m3, m4, m5⟩ := HB.out.b0 _ hx
    replace hb := hb.trans hx
    go_upto_region 10 with (go_at_call 95; (with_reducible refine (HX.out _ hb).mono ?_); rintro e w3 ⟨rfl, hb3⟩)
    have hx3 := hx.trans hb3
    replace hb := hb.trans hb3
    clear m0 m1 m2 m3 m4 m5 d0 d1 d2
    have hK := fun (x : Later _) => HB.out.b0 x.to (hx3.trans x.ext)
    refine wp_region_later (by kernel_rfl) (by kernel_rfl) ?_
    repeat (go_big_quiet_step (first | (go_at_call 162; exact Calls.later (usesValue_any _ _)) | (go_at_call 161; exact Calls.later (HV.out _))))
    refine wpQuiet_nil ?_
    intro w4 hw4
    have hx4 := Later.of hw4
    clear hw4 hK
    replace hx3 := hx3.trans hx4
    replace hb := hb.trans hx4
    clear hx4
    go_wp2_with fail
    go_ret
    exact ⟨rfl, hb⟩

set_option maxRecDepth 100000 in
set_option maxHeartbeats 1000000 in
theorem block_upp (ra : Ri w A b.n b.a) (hm : b.n ≤ maxLen) (h0 : 0 ≤ b.k) (h1 : b.k ≤ 11) (h2 : (b.n : Int) = arity b.k) (hi : fstE b.n (fun i => inE (cntB D b) (b.a i)) = 0) (hv : scE (usesV b.k) b.vn b.ve = 0) (hu : scE (b.k == 11) b.un b.ue ≠ 0) :
    Calls Tryz.prog 94 #[dgv D p, bkv b.k A b.n c b.vn b.ve b.un b.ue] w fun e w' => e = .returned (.iface 61 (I (scE (b.k == 11) b.un b.ue))) ∧ Ext w w' := by
  have g0 : ¬ b.k < 0 := by omega
  have g1 : ¬ 11 < b.k := by omega
  have HA := Lib.hid (arguments_any b.k)
  rw [← h2] at HA
  have HX : Hid (∀ w', Ext w w' → Calls Tryz.prog 95 #[.slice A b.n c, I (cntB D b)] w' fun e w'' => e = .returned (.bool (fstE b.n (fun i => inE (cntB D b) (b.a i)) == 0)) ∧ Ext w' w'') := fun w' e => areIndices_any (cntB D b) (ra.ext e) hm
  rw [show (fstE b.n (fun i => inE (cntB D b) (b.a i)) == 0) = true by simpa using hi] at HX
  clear ra hm h2
  have HB := Lib.hid (bxB w D p b A c 48 100)
  have hb : Ext w _ := HB.out.ext
  obtain ⟨k0, k1, k2, k3, k4, k5⟩ := HB.out.b0 _ (Ext.refl _)
  have HV := Lib.hid (checkScalar_any (usesV b.k) b.vn b.ve)
  rw [hv, errv_z] at HV
  have HU := Lib.hid (checkScalar_any (b.k == 11) b.un b.ue)
  rw [errv_n hu] at HU
  generalize scE (b.k == 11) b.un b.ue = eu at *
  by_cases hk : b.k = 0
  all_goals
    unfold cntB at HX
    (first | rw [if_pos hk] at HX | rw [if_neg hk] at HX)
    (first | (have hk' : (b.k == 0) = true := beq_iff_eq.2 hk) | (have hk' : (b.k == 0) = false := by simpa using hk))
    clear hk h0 h1 hi hv hu
    go_enter Tryz.func94, Tryz.ntmps94
    go_upto_region 3 with (fail)
    have hK := fun (x : Later _) => HB.out.b0 x.to x.ext
    refine wp_region_later (by kernel_rfl) (by kernel_rfl) ?_
    repeat (go_big_quiet_step ((go_at_call 160; exact Calls.later (HA.out _))))
    refine wpQuiet_nil ?_
    intro w2 hw2
    have hx := Later.of hw2
    clear hw2 hK
    obtain ⟨d0, d1, d2⟩ := HB.out.d0 _ hx
    obtain ⟨m0, m1, m2, m3, m4, m5⟩ := HB.out.b0 _ hx
    replace hb := hb.trans hx
    go_upto_region 10 with (go_at_call 95; (with_reducible refine (HX.out _ hb).mono ?_); rintro e w3 ⟨rfl, hb3⟩)
    have hx3 := hx.trans hb3
    replace hb := hb.trans hb3
    clear m0 m1 m2 m3 m4 m5 d0 d1 d2
    have hK := fun (x : Later _) => HB.out.b0 x.to (hx3.trans x.ext)
    refine wp_region_later (by kernel_rfl) (by kernel_rfl) ?_
    repeat (go_big_quiet_step (first | (go_at_call 162; exact Calls.later (usesValue_any _ _)) | (go_at_call 161; exact Calls.later (HV.out _))))
    refine wpQuiet_nil ?_
    intro w4 hw4
    have hx4 := Later.of hw4
    clear hw4 hK
    replace hx3 := hx3.trans hx4
    replace hb := hb.trans hx4
    clear hx4
    go_upto_region 13 with fail
    have hK := fun (x : Later _) => HB.out.b0 x.to (hx3.trans x.ext)
    refine wp_region_later (by kernel_rfl) (by kernel_rfl) ?_
    repeat (go_big_quiet_step (first | (go_at_call 163; exact Calls.later (usesUpper_any _ _)) | (go_at_call 161; exact Calls.later (HU.out _))))
    refine wpQuiet_nil ?_
    intro w5 hw5
    have hx5 := Later.of hw5
    clear hw5 hK
    replace hx3 := hx3.trans hx5
    replace hb := hb.trans hx5
    clear hx5
    go_wp2_with fail
    go_ret
    exact ⟨rfl, hb⟩

set_option maxRecDepth 100000 in
set_option maxHeartbeats 1000000 in
theorem block_off (ra : Ri w A b.n b.a) (hm : b.n ≤ maxLen) (h0 : 0 ≤ b.k) (h1 : b.k ≤ 11) (h2 : (b.n : Int) = arity b.k) (hi : fstE b.n (fun i => inE (cntB D b) (b.a i)) = 0) (hv : scE (usesV b.k) b.vn b.ve = 0) (hu : scE (b.k == 11) b.un b.ue = 0) (hk11 : b.k ≠ 11) :
    Calls Tryz.prog 94 #[dgv D p, bkv b.k A b.n c b.vn b.ve b.un b.ue] w fun e w' => e = .returned .nilIface ∧ Ext w w' := by
  have g0 : ¬ b.k < 0 := by omega
  have g1 : ¬ 11 < b.k := by omega
  have HA := Lib.hid (arguments_any b.k)
  rw [← h2] at HA
  have HX : Hid (∀ w', Ext w w' → Calls Tryz.prog 95 #[.slice A b.n c, I (cntB D b)] w' fun e w'' => e = .returned (.bool (fstE b.n (fun i => inE (cntB D b) (b.a i)) == 0)) ∧ Ext w' w'') := fun w' e => areIndices_any (cntB D b) (ra.ext e) hm
  rw [show (fstE b.n (fun i => inE (cntB D b) (b.a i)) == 0) = true by simpa using hi] at HX
  clear ra hm h2
  have HB := Lib.hid (bxB w D p b A c 48 100)
  have hb : Ext w _ := HB.out.ext
  obtain ⟨k0, k1, k2, k3, k4, k5⟩ := HB.out.b0 _ (Ext.refl _)
  have HV := Lib.hid (checkScalar_any (usesV b.k) b.vn b.ve)
  rw [hv, errv_z] at HV
  have HU := Lib.hid (checkScalar_any (b.k == 11) b.un b.ue)
  rw [hu, errv_z] at HU
  have H11 := Lib.hid (usesUpper_any b.k)
  rw [show (b.k == 11) = false by simpa using hk11] at H11
  clear hk11
  by_cases hk : b.k = 0
  all_goals
    unfold cntB at HX
    (first | rw [if_pos hk] at HX | rw [if_neg hk] at HX)
    (first | (have hk' : (b.k == 0) = true := beq_iff_eq.2 hk) | (have hk' : (b.k == 0) = false := by simpa using hk))
    clear hk h0 h1 hi hv hu
    go_enter Tryz.func94, Tryz.ntmps94
    go_upto_region 3 with (fail)
    have hK := fun (x : Later _) => HB.out.b0 x.to x.ext
    refine wp_region_later (by kernel_rfl) (by kernel_rfl) ?_
    repeat (go_big_quiet_step ((go_at_call 160; exact Calls.later (HA.out _))))
    refine wpQuiet_nil ?_
    intro w2 hw2
    have hx := Later.of hw2
    clear hw2 hK
    obtain ⟨d0, d1, d2⟩ := HB.out.d0 _ hx
    obtain ⟨m0, m1, m2, m3, m4, m5⟩ := HB.out.b0 _ hx
    replace hb := hb.trans hx
    go_upto_region 10 with (go_at_call 95; (with_reducible refine (HX.out _ hb).mono ?_); rintro e w3 ⟨rfl, hb3⟩)
    have hx3 := hx.trans hb3
    replace hb := hb.trans hb3
    clear m0 m1 m2 m3 m4 m5 d0 d1 d2
    have hK := fun (x : Later _) => HB.out.b0 x.to (hx3.trans x.ext)
    refine wp_region_later (by kernel_rfl) (by kernel_rfl) ?_
    repeat (go_big_quiet_step (first | (go_at_call 162; exact Calls.later (usesValue_any _ _)) | (go_at_call 161; exact Calls.later (HV.out _))))
    refine wpQuiet_nil ?_
    intro w4 hw4
    have hx4 := Later.of hw4
    clear hw4 hK
    replace hx3 := hx3.trans hx4
    replace hb := hb.trans hx4
    clear hx4
    go_upto_region 13 with fail
    have hK := fun (x : Later _) => HB.out.b0 x.to (hx3.trans x.ext)
    refine wp_region_later (by kernel_rfl) (by kernel_rfl) ?_
    repeat (go_big_quiet_step (first | (go_at_call 163; exact Calls.later (usesUpper_any _ _)) | (go_at_call 161; exact Calls.later (HU.out _))))
    refine wpQuiet_nil ?_
    intro w5 hw5
    have hx5 := Later.of hw5
    clear hw5 hK
    replace hx3 := hx3.trans hx5
    replace hb := hb.trans hx5
    clear hx5
    go_upto_region 16 with fail
    have hK := fun (x : Later _) => HB.out.b0 x.to (hx3.trans x.ext)
    refine wp_region_later (by kernel_rfl) (by kernel_rfl) ?_
    repeat (go_big_quiet_step ((go_at_call 163; exact Calls.later (H11.out _))))
    refine wpQuiet_nil ?_
    intro w6 hw6
    have hx6 := Later.of hw6
    clear hw6 hK
    replace hb := hb.trans hx6
    go_wp2_with fail
    go_ret
    exact ⟨rfl, hb⟩

theorem gt_cmp {n e m f : Int} (h1 : -62 ≤ e) (h2 : e ≤ 30) (h3 : -62 ≤ f) (h4 : f ≤ 30) {r : Bool} (h : gtS n e m f = r) : decide (0 < cmpD (nmS n e) (nmS m f)) = r := (cmp_gtS h1 h2 h3 h4).trans h
set_option maxRecDepth 100000 in
set_option maxHeartbeats 1000000 in
theorem block_clip (r : Bool) (hT : Tabs w) (ra : Ri w A b.n b.a) (hm : b.n ≤ maxLen) (h2 : (b.n : Int) = arity b.k) (hi : fstE b.n (fun i => inE (cntB D b) (b.a i)) = 0) (hv : scE (usesV b.k) b.vn b.ve = 0) (hu : scE (b.k == 11) b.un b.ue = 0) (hk : b.k = 11) (hg : gtS b.vn b.ve b.un b.ue = r) :
    Calls Tryz.prog 94 #[dgv D p, bkv b.k A b.n c b.vn b.ve b.un b.ue] w fun e w' => e = .returned (if r = true then .iface 61 (I 26) else .nilIface) ∧ Ext w w' := by
  have HT := Lib.hid hT; clear hT
  have g0 : ¬ b.k < 0 := by omega
  have g1 : ¬ 11 < b.k := by omega
  have HA := Lib.hid (arguments_any b.k)
  rw [← h2] at HA
  have HX : Hid (∀ w', Ext w w' → Calls Tryz.prog 95 #[.slice A b.n c, I (cntB D b)] w' fun e w'' => e = .returned (.bool (fstE b.n (fun i => inE (cntB D b) (b.a i)) == 0)) ∧ Ext w' w'') := fun w' e => areIndices_any (cntB D b) (ra.ext e) hm
  rw [show (fstE b.n (fun i => inE (cntB D b) (b.a i)) == 0) = true by simpa using hi, show cntB D b = D.nb by unfold cntB; rw [if_neg (by omega)]] at HX
  clear ra hm h2 hi
  have HB := Lib.hid (bxB w D p b A c 48 100)
  have hb : Ext w _ := HB.out.ext
  obtain ⟨k0, k1, k2, k3, k4, k5⟩ := HB.out.b0 _ (Ext.refl _)
  have HV := Lib.hid (checkScalar_any (usesV b.k) b.vn b.ve)
  rw [hv, errv_z] at HV
  have HU := Lib.hid (checkScalar_any (b.k == 11) b.un b.ue)
  rw [hu, errv_z] at HU
  have H11 := Lib.hid (usesUpper_any b.k)
  rw [show (b.k == 11) = true by simpa using hk] at H11 hu
  rw [show usesV b.k = true by rw [hk]; rfl] at hv
  obtain ⟨v1, v2, v3, v4⟩ := scE_t hv
  obtain ⟨u1, u2, u3, u4⟩ := scE_t hu
  have NV : Hid (∀ w', Ext w w' → Calls Tryz.prog 164 #[.agg #[I b.vn, I b.ve]] w' (NmR (nmS b.vn b.ve) w')) := fun w' e => number_any _ _ w' (HT.out.ext e) v1 v2 v3 v4
  have NU : Hid (∀ w', Ext w w' → Calls Tryz.prog 164 #[.agg #[I b.un, I b.ue]] w' (NmR (nmS b.un b.ue) w')) := fun w' e => number_any _ _ w' (HT.out.ext e) u1 u2 u3 u4
  have hc := gt_cmp v3 v4 u3 u4 hg
  have hk' : (b.k == 0) = false := by simp; omega
  clear hk hv hu v1 v2 v3 v4 u1 u2 u3 u4 hg
  generalize nmS b.vn b.ve = dV at *
  generalize nmS b.un b.ue = dU at *
  have HC := Lib.hid hc; clear hc
  have WR : ∀ (x y z : World), Ext x y → Ext y z → Ext x z := fun _ _ _ => Ext.trans
  have WR' := Lib.hid WR; clear WR
  go_enter Tryz.func94, Tryz.ntmps94
  go_upto_region 3 with (fail)
  have hK := fun (x : Later _) => HB.out.b0 x.to x.ext
  refine wp_region_later (by kernel_rfl) (by kernel_rfl) ?_
  repeat (go_big_quiet_step ((go_at_call 160; exact Calls.later (HA.out _))))
  refine wpQuiet_nil ?_
  intro w2 hw2
  have hx := Later.of hw2
  clear hw2 hK
  obtain ⟨d0, d1, d2⟩ := HB.out.d0 _ hx
  obtain ⟨m0, m1, m2, m3, m4, m5⟩ := HB.out.b0 _ hx
  replace hb := hb.trans hx
  go_upto_region 10 with (go_at_call 95; (with_reducible refine (HX.out _ hb).mono ?_); rintro e w3 ⟨rfl, hb3⟩)
  have hx3 := hx.trans hb3
  replace hb := hb.trans hb3
  clear m0 m1 m2 m3 m4 m5 d0 d1 d2
  have hK := fun (x : Later _) => HB.out.b0 x.to (hx3.trans x.ext)
  refine wp_region_later (by kernel_rfl) (by kernel_rfl) ?_
  repeat (go_big_quiet_step (first | (go_at_call 162; exact Calls.later (usesValue_any _ _)) | (go_at_call 161; exact Calls.later (HV.out _))))
  refine wpQuiet_nil ?_
  intro w4 hw4
  have hx4 := Later.of hw4
  clear hw4 hK
  replace hx3 := hx3.trans hx4
  replace hb := hb.trans hx4
  clear hx4
  go_upto_region 13 with fail
  have hK := fun (x : Later _) => HB.out.b0 x.to (hx3.trans x.ext)
  refine wp_region_later (by kernel_rfl) (by kernel_rfl) ?_
  repeat (go_big_quiet_step (first | (go_at_call 163; exact Calls.later (usesUpper_any _ _)) | (go_at_call 161; exact Calls.later (HU.out _))))
  refine wpQuiet_nil ?_
  intro w5 hw5
  have hx5 := Later.of hw5
  clear hw5 hK
  replace hx3 := hx3.trans hx5
  replace hb := hb.trans hx5
  clear hx5
  go_upto_region 16 with fail
  have HS : Hid (∀ w', Ext w5 w' → w'.cell? ⟨w.heap.size + 1, 0, none⟩ = some (I b.k) ∧ w'.cell? ⟨w.heap.size + 1, 1, none⟩ = some (.slice A b.n c) ∧ w'.cell? ⟨w.heap.size + 1, 2, none⟩ = some (I b.vn) ∧ w'.cell? ⟨w.heap.size + 1, 3, none⟩ = some (I b.ve) ∧
    w'.cell? ⟨w.heap.size + 1, 4, none⟩ = some (I b.un) ∧ w'.cell? ⟨w.heap.size + 1, 5, none⟩ = some (I b.ue)) := fun w' e => HB.out.b0 w' (hx3.trans e)
  have HX3 := Lib.hid hb
  clear k0 k1 k2 k3 k4 k5 hb hx hx3 hb3 HB HA HX HV HU
  obtain ⟨k0, k1, k2, k3, k4, k5⟩ := HS.out _ (Ext.refl _)
  go_region_held3 (fun w' => w'.cell? ⟨w.heap.size + 1, 0, none⟩ = some (I b.k) ∧ w'.cell? ⟨w.heap.size + 1, 1, none⟩ = some (.slice A b.n c) ∧ w'.cell? ⟨w.heap.size + 1, 2, none⟩ = some (I b.vn) ∧ w'.cell? ⟨w.heap.size + 1, 3, none⟩ = some (I b.ve) ∧
    w'.cell? ⟨w.heap.size + 1, 4, none⟩ = some (I b.un) ∧ w'.cell? ⟨w.heap.size + 1, 5, none⟩ = some (I b.ue)) (first | with_reducible assumption | exact HS.out _ (by (with_reducible (repeat (first | exact Ext.refl _ | assumption | (refine Ext.toSet ?_ (by omega)) | refine Ext.toAlloc ?_ | refine Ext.toDrew ?_ | refine Ext.toDrewN ?_ | refine Ext.trans ?_ (by assumption)))); (first | done | fail "no")))
    (first
      | (go_at_call 163; refine (H11.out _).mono ?_; rintro ea wa ⟨rfl, hxa⟩; obtain ⟨a0, a1, a2, a3, a4, a5⟩ := HS.out wa (by (with_reducible (repeat (first | exact Ext.refl _ | assumption | (refine Ext.toSet ?_ (by omega)) | refine Ext.toAlloc ?_ | refine Ext.toDrew ?_ | refine Ext.toDrewN ?_ | refine Ext.trans ?_ (by assumption)))); (first | done | fail "no")))
      | (go_at_call 164; (with_reducible refine (NV.out _ (HX3.out.trans (by (with_reducible (repeat (first | exact Ext.refl _ | assumption | (refine Ext.toSet ?_ (by omega)) | refine Ext.toAlloc ?_ | refine Ext.toDrew ?_ | refine Ext.toDrewN ?_ | refine Ext.trans ?_ (by assumption)))); (first | done | fail "no")))).mono ?_); rintro ev wv ⟨Av, cv, rfl, dyv, hxv⟩; obtain ⟨y0, y1, y2, y3, y4, y5⟩ := HS.out wv (by (with_reducible (repeat (first | exact Ext.refl _ | assumption | (refine Ext.toSet ?_ (by omega)) | refine Ext.toAlloc ?_ | refine Ext.toDrew ?_ | refine Ext.toDrewN ?_ | refine Ext.trans ?_ (by assumption)))); (first | done | fail "no")); have DV' := Lib.hid dyv; clear dyv)
      | (go_at_call 164; (with_reducible refine (NU.out _ (HX3.out.trans (by (with_reducible (repeat (first | exact Ext.refl _ | assumption | (refine Ext.toSet ?_ (by omega)) | refine Ext.toAlloc ?_ | refine Ext.toDrew ?_ | refine Ext.toDrewN ?_ | refine Ext.trans ?_ (by assumption)))); (first | done | fail "no")))).mono ?_); rintro eu wu ⟨Au, cu, rfl, dyu, hxu⟩; obtain ⟨z0, z1, z2, z3, z4, z5⟩ := HS.out wu (by (with_reducible (repeat (first | exact Ext.refl _ | assumption | (refine Ext.toSet ?_ (by omega)) | refine Ext.toAlloc ?_ | refine Ext.toDrew ?_ | refine Ext.toDrewN ?_ | refine Ext.trans ?_ (by assumption)))); (first | done | fail "no")); have DU' := Lib.hid dyu; clear dyu)
      | (go_at_call 31; refine (cmp_any (DV'.out.ext (by (with_reducible (repeat (first | exact Ext.refl _ | assumption | (refine Ext.toSet ?_ (by omega)) | refine Ext.toAlloc ?_ | refine Ext.toDrew ?_ | refine Ext.toDrewN ?_ | refine Ext.trans ?_ (by assumption)))); (first | done | fail "no"))) (DU'.out.ext (by (with_reducible (repeat (first | exact Ext.refl _ | assumption | (refine Ext.toSet ?_ (by omega)) | refine Ext.toAlloc ?_ | refine Ext.toDrew ?_ | refine Ext.toDrewN ?_ | refine Ext.trans ?_ (by assumption)))); (first | done | fail "no")))).mono ?_; rintro ec wc ⟨rfl, hxc⟩; obtain ⟨c0, c1, c2, c3, c4, c5⟩ := HS.out wc (by (with_reducible (repeat (first | exact Ext.refl _ | assumption | (refine Ext.toSet ?_ (by omega)) | refine Ext.toAlloc ?_ | refine Ext.toDrew ?_ | refine Ext.toDrewN ?_ | refine Ext.trans ?_ (by assumption)))); (first | done | fail "no"))))
  all_goals
    have HC2 := HC.out
    cases r with
    | true =>
      have hq : 0 < cmpD dV dU := of_decide_eq_true HC2
      clear HC2 HC
      go_wp2_with fail
      go_ret
      exact ⟨rfl, HX3.out.trans (by (with_reducible (repeat (first | exact Ext.refl _ | assumption | (refine Ext.toSet ?_ (by omega)) | refine Ext.toAlloc ?_ | refine Ext.toDrew ?_ | refine Ext.toDrewN ?_ | refine Ext.trans ?_ (by assumption)))); (first | done | fail "no"))⟩
    | false =>
      have hq : ¬ 0 < cmpD dV dU := of_decide_eq_false HC2
      clear HC2 HC
      go_wp2_with fail
      go_ret
      exact ⟨rfl, HX3.out.trans (by (with_reducible (repeat (first | exact Ext.refl _ | assumption | (refine Ext.toSet ?_ (by omega)) | refine Ext.toAlloc ?_ | refine Ext.toDrew ?_ | refine Ext.toDrewN ?_ | refine Ext.trans ?_ (by assumption)))); (first | done | fail "no"))⟩
theorem checkBlock_any (hT : Tabs w) (ra : Ri w A b.n b.a) (hm : b.n ≤ maxLen) :
    Calls Tryz.prog 94 #[dgv D p, bkv b.k A b.n c b.vn b.ve b.un b.ue] w fun e w' => e = .returned (errv (blkE D b)) ∧ Ext w w' := by
  unfold blkE
  by_cases h1 : b.k < 0 ∨ 11 < b.k
  · rw [if_pos h1]; exact block_type h1
  rw [if_neg h1]
  by_cases h2 : (b.n : Int) ≠ arity b.k
  · rw [if_pos h2]; exact block_shape (by omega) (by omega) h2
  rw [if_neg h2]
  have h2' : (b.n : Int) = arity b.k := by omega
  by_cases h3 : fstE b.n (fun i => inE (cntB D b) (b.a i)) ≠ 0
  · rw [if_pos h3, idx_10 h3]; exact block_idx ra hm (by omega) (by omega) h2' h3
  rw [if_neg h3]
  by_cases h4 : scE (usesV b.k) b.vn b.ve ≠ 0
  · rw [if_pos h4, errv_n h4]; exact block_val ra hm (by omega) (by omega) h2' (by omega) h4
  rw [if_neg h4]
  by_cases h5 : scE (b.k == 11) b.un b.ue ≠ 0
  · rw [if_pos h5, errv_n h5]; exact block_upp ra hm (by omega) (by omega) h2' (by omega) (by omega) h5
  rw [if_neg h5]
  by_cases h6 : b.k = 11
  · have := block_clip (D := D) (p := p) (c := c) (gtS b.vn b.ve b.un b.ue) hT ra hm h2' (by omega) (by omega) (by omega) h6 rfl
    refine this.mono fun e w' h => ⟨?_, h.2⟩
    rw [h.1]
    by_cases q : gtS b.vn b.ve b.un b.ue = true
    · rw [if_pos q, if_pos ⟨h6, q⟩]; rfl
    · rw [if_neg q, if_neg fun x => q x.2]; rfl
  · rw [if_neg fun x => h6 x.1]; exact block_off ra hm (by omega) (by omega) h2' (by omega) (by omega) (by omega) h6
end
end Go.Proofs.YtcdkkohklhmpgaaGreatDoor
