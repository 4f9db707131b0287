/- Diagrams: checkBlock by the code. -/
import Derived.Test.YtkocmdpfknoiaaaGreatDoorDgcd
import Derived.Shelf.Abstract
import Derived.Deep.OwnRows
namespace Go.Proofs.YtkocmdpfknoiaaaGreatDoor

/-! ### Dge -/
section
open Go.RowKit

/-- The boxes of a diagram and of a block. -/
structure BxB (w W : World) (D : Dia) (p : Pl) (b : Blk) (A : Option Addr) (c : Nat) : Prop where
  ext : Ext w W
  d0 : ∀ w', Ext W w' → w'.cell? ⟨w.heap.size, 0, none⟩ = some (.slice p.AI D.ni p.cI) ∧ w'.cell? ⟨w.heap.size, 1, none⟩ = some (.slice p.AB D.nb p.cB) ∧ w'.cell? ⟨w.heap.size, 2, none⟩ = some (.slice p.AO D.no p.cO)
  b0 : ∀ w', Ext W w' → w'.cell? ⟨w.heap.size + 1, 0, none⟩ = some (I b.k) ∧ w'.cell? ⟨w.heap.size + 1, 1, none⟩ = some (.slice A b.n c) ∧ w'.cell? ⟨w.heap.size + 1, 2, none⟩ = some (I b.vn) ∧ w'.cell? ⟨w.heap.size + 1, 3, none⟩ = some (I b.ve) ∧
    w'.cell? ⟨w.heap.size + 1, 4, none⟩ = some (I b.un) ∧ w'.cell? ⟨w.heap.size + 1, 5, none⟩ = some (I b.ue)
theorem bxB (w : World) (D : Dia) (p : Pl) (b : Blk) (A : Option Addr) (c : Nat) (t t' : TypeId) :
    BxB w ((w.alloc (.cells #[.slice p.AI D.ni p.cI, .slice p.AB D.nb p.cB, .slice p.AO D.no p.cO] t)).alloc (.cells #[I b.k, .slice A b.n c, I b.vn, I b.ve, I b.un, I b.ue] t')) D p b A c where
  ext := (Ext.alloc _ _).trans (Ext.alloc _ _)
  d0 := fun w' e => by
    have h : w.heap.size < ((w.alloc (.cells #[.slice p.AI D.ni p.cI, .slice p.AB D.nb p.cB, .slice p.AO D.no p.cO] t)).alloc (.cells #[I b.k, .slice A b.n c, I b.vn, I b.ve, I b.un, I b.ue] t')).heap.size := by simp; omega
    exact ⟨(e.old.1 _ _ h).trans (by go_simp), (e.old.1 _ _ h).trans (by go_simp), (e.old.1 _ _ h).trans (by go_simp)⟩
  b0 := fun w' e => by
    have h : w.heap.size + 1 < ((w.alloc (.cells #[.slice p.AI D.ni p.cI, .slice p.AB D.nb p.cB, .slice p.AO D.no p.cO] t)).alloc (.cells #[I b.k, .slice A b.n c, I b.vn, I b.ve, I b.un, I b.ue] t')).heap.size := by simp
    exact ⟨(e.old.1 _ _ h).trans (by go_simp), (e.old.1 _ _ h).trans (by go_simp), (e.old.1 _ _ h).trans (by go_simp), (e.old.1 _ _ h).trans (by go_simp), (e.old.1 _ _ h).trans (by go_simp), (e.old.1 _ _ h).trans (by go_simp)⟩

/-- What is wrong with a block's arguments: 0 or 10. -/
theorem idx_10 {n : Nat} {c : Int} {f : Nat → Int} (h : fstE n (fun i => inE c (f i)) ≠ 0) : fstE n (fun i => inE c (f i)) = 10 := by
  induction n with
  | zero => exact absurd rfl h
  | succ n ih =>
    unfold fstE at h ⊢
    by_cases e : fstE n (fun i => inE c (f i)) = 0
    · rw [if_pos e] at h ⊢
      simp only [] at h ⊢
      unfold inE at h ⊢
      split at h
      · exact absurd rfl h
      · rename_i q; rw [if_neg q]
    · rw [if_neg e]; exact ih e
theorem arity_b (k : Int) : 0 ≤ arity k ∧ arity k ≤ 2 := by unfold arity; split <;> (try split) <;> omega

section
variable {w : World} {D : Dia} {p : Pl} {b : Blk} {A : Option Addr} {c : Nat}

set_option maxRecDepth 100000 in
set_option maxHeartbeats 1000000 in
theorem block_type (h : b.k < 0 ∨ 11 < b.k) : Calls Tryz.prog 52 #[dgv D p, bkv b.k A b.n c b.vn b.ve b.un b.ue] w fun e w' => e = .returned (.iface 94 (I 7)) ∧ Ext w w' := by
  rcases h with h | h
  · go_enter Tryz.func52, Tryz.ntmps52
    go_wp2
    go_ret
    exact ⟨rfl, (by repeat (first | exact Ext.refl _ | assumption | exact Ext.alloc _ _ | refine Ext.trans ?_ (by assumption) | refine Ext.trans ?_ (Ext.alloc _ _) | refine Ext.trans ?_ (Ext.drewN _ _) | refine Ext.trans ?_ (Ext.drew _)))⟩
  · have h0 : ¬ b.k < 0 := by omega
    go_enter Tryz.func52, Tryz.ntmps52
    go_wp2
    go_ret
    exact ⟨rfl, (by repeat (first | exact Ext.refl _ | assumption | exact Ext.alloc _ _ | refine Ext.trans ?_ (by assumption) | refine Ext.trans ?_ (Ext.alloc _ _) | refine Ext.trans ?_ (Ext.drewN _ _) | refine Ext.trans ?_ (Ext.drew _)))⟩
set_option maxRecDepth 100000 in
set_option maxHeartbeats 1000000 in
theorem block_shape (h0 : 0 ≤ b.k) (h1 : b.k ≤ 11) (h2 : (b.n : Int) ≠ arity b.k) :
    Calls Tryz.prog 52 #[dgv D p, bkv b.k A b.n c b.vn b.ve b.un b.ue] w fun e w' => e = .returned (.iface 94 (I 11)) ∧ Ext w w' := by
  have g0 : ¬ b.k < 0 := by omega
  have g1 : ¬ 11 < b.k := by omega
  have HA := Lib.hid (arguments_any b.k)
  have hb2 := arity_b b.k
  generalize arity b.k = r at *
  have h2' : ((b.n : Int) == r) = false := by simpa using h2
  have HB := Lib.hid (bxB w D p b A c 26 51)
  have hb : Ext w _ := HB.out.ext
  obtain ⟨k0, k1, k2, k3, k4, k5⟩ := HB.out.b0 _ (Ext.refl _)
  clear h0 h1
  go_enter Tryz.func52, Tryz.ntmps52
  go_upto_region 3 with (fail)
  have hK := fun (x : Later _) => HB.out.b0 x.to x.ext
  refine wp_region_later (by kernel_rfl) (by kernel_rfl) ?_
  repeat (go_big_quiet_step ((go_at_call 102; exact Calls.later (HA.out _))))
  refine wpQuiet_nil ?_
  intro w2 hw2
  have hx := Later.of hw2
  clear hw2 hK
  go_wp2_with fail
  go_ret
  exact ⟨rfl, hb.trans hx⟩
set_option maxRecDepth 100000 in
set_option maxHeartbeats 1000000 in
theorem block_idx (ra : Ri w A b.n b.a) (hm : b.n ≤ maxLen) (h0 : 0 ≤ b.k) (h1 : b.k ≤ 11) (h2 : (b.n : Int) = arity b.k) (hi : fstE b.n (fun i => inE (cntB D b) (b.a i)) ≠ 0) :
    Calls Tryz.prog 52 #[dgv D p, bkv b.k A b.n c b.vn b.ve b.un b.ue] w fun e w' => e = .returned (.iface 94 (I 10)) ∧ Ext w w' := by
  have g0 : ¬ b.k < 0 := by omega
  have g1 : ¬ 11 < b.k := by omega
  have HA := Lib.hid (arguments_any b.k)
  rw [← h2] at HA
  have HX : Hid (∀ w', Ext w w' → Calls Tryz.prog 53 #[.slice A b.n c, I (cntB D b)] w' fun e w'' => e = .returned (.bool (fstE b.n (fun i => inE (cntB D b) (b.a i)) == 0)) ∧ Ext w' w'') := fun w' e => areIndices_any (cntB D b) (ra.ext e) hm
  rw [show (fstE b.n (fun i => inE (cntB D b) (b.a i)) == 0) = false by simpa using hi] at HX
  clear ra hm h2
  have HB := Lib.hid (bxB w D p b A c 26 51)
  have hb : Ext w _ := HB.out.ext
  obtain ⟨k0, k1, k2, k3, k4, k5⟩ := HB.out.b0 _ (Ext.refl _)
  by_cases hk : b.k = 0
  all_goals
    unfold cntB at HX
    (first | rw [if_pos hk] at HX | rw [if_neg hk] at HX)
    (first | (have hk' : (b.k == 0) = true := beq_iff_eq.2 hk) | (have hk' : (b.k == 0) = false := by simpa using hk))
    clear hk h0 h1 hi
    go_enter Tryz.func52, Tryz.ntmps52
    go_upto_region 3 with (fail)
    have hK := fun (x : Later _) => HB.out.b0 x.to x.ext
    refine wp_region_later (by kernel_rfl) (by kernel_rfl) ?_
    repeat (go_big_quiet_step ((go_at_call 102; exact Calls.later (HA.out _))))
    refine wpQuiet_nil ?_
    intro w2 hw2
    have hx := Later.of hw2
    clear hw2 hK
    obtain ⟨d0, d1, d2⟩ := HB.out.d0 _ hx
    obtain ⟨m0, m1, m2, m3, m4, m5⟩ := HB.out.b0 _ hx
    replace hb := hb.trans hx
    go_wp2_with (go_at_call 53; (with_reducible refine (HX.out _ hb).mono ?_); rintro e w3 ⟨rfl, hb3⟩)
    go_ret
    exact ⟨rfl, hb.trans hb3⟩

set_option maxRecDepth 100000 in
set_option maxHeartbeats 1000000 in
theorem block_val (ra : Ri w A b.n b.a) (hm : b.n ≤ maxLen) (h0 : 0 ≤ b.k) (h1 : b.k ≤ 11) (h2 : (b.n : Int) = arity b.k) (hi : fstE b.n (fun i => inE (cntB D b) (b.a i)) = 0) (hv : scE (usesV b.k) b.vn b.ve ≠ 0) :
    Calls Tryz.prog 52 #[dgv D p, bkv b.k A b.n c b.vn b.ve b.un b.ue] w fun e w' => e = .returned (.iface 94 (I (scE (usesV b.k) b.vn b.ve))) ∧ Ext w w' := by
  have g0 : ¬ b.k < 0 := by omega
  have g1 : ¬ 11 < b.k := by omega
  have HA := Lib.hid (arguments_any b.k)
  rw [← h2] at HA
  have HX : Hid (∀ w', Ext w w' → Calls Tryz.prog 53 #[.slice A b.n c, I (cntB D b)] w' fun e w'' => e = .returned (.bool (fstE b.n (fun i => inE (cntB D b) (b.a i)) == 0)) ∧ Ext w' w'') := fun w' e => areIndices_any (cntB D b) (ra.ext e) hm
  rw [show (fstE b.n (fun i => inE (cntB D b) (b.a i)) == 0) = true by simpa using hi] at HX
  clear ra hm h2
  have HB := Lib.hid (bxB w D p b A c 26 51)
  have hb : Ext w _ := HB.out.ext
  obtain ⟨k0, k1, k2, k3, k4, k5⟩ := HB.out.b0 _ (Ext.refl _)
  have HV := Lib.hid (checkScalar_any (usesV b.k) b.vn b.ve)
  rw [errv_n hv] at HV
  generalize scE (usesV b.k) b.vn b.ve = ev at *
  by_cases hk : b.k = 0
  all_goals
    unfold cntB at HX
    (first | rw [if_pos hk] at HX | rw [if_neg hk] at HX)
    (first | (have hk' : (b.k == 0) = true := beq_iff_eq.2 hk) | (have hk' : (b.k == 0) = false := by simpa using hk))
    clear hk h0 h1 hi hv
    go_enter Tryz.func52, Tryz.ntmps52
    go_upto_region 3 with (fail)
    have hK := fun (x : Later _) => HB.out.b0 x.to x.ext
    refine wp_region_later (by kernel_rfl) (by kernel_rfl) ?_
    repeat (go_big_quiet_step ((go_at_call 102; exact Calls.later (HA.out _))))
    refine wpQuiet_nil ?_
    intro w2 hw2
    have hx := Later.of hw2
    clear hw2 hK
    obtain ⟨d0, d1, d2⟩ := HB.out.d0 _ hx
    obtain ⟨m0, m1, m2, m3, m4, m5⟩ := HB.out.b0 _ hx
    replace hb := hb.trans hx
    go_upto_region 10 with (go_at_call 53; (with_reducible refine (HX.out _ hb).mono ?_); rintro e w3 ⟨rfl, hb3⟩)
    have hx3 := hx.trans hb3
    replace hb := hb.trans hb3
    clear m0 m1 m2 m3 m4 m5 d0 d1 d2
    have hK := fun (x : Later _) => HB.out.b0 x.to (hx3.trans x.ext)
    refine wp_region_later (by kernel_rfl) (by kernel_rfl) ?_
    repeat (go_big_quiet_step (first | (go_at_call 104; exact Calls.later (usesValue_any _ _)) | (go_at_call 103; exact Calls.later (HV.out _))))
    refine wpQuiet_nil ?_
    intro w4 hw4
    have hx4 := Later.of hw4
    clear hw4 hK
    replace hx3 := hx3.trans hx4
    replace hb := hb.trans hx4
    clear hx4
    go_wp2_with fail
    go_ret
    exact ⟨rfl, hb⟩

set_option maxRecDepth 100000 in
set_option maxHeartbeats 1000000 in
theorem block_upp (ra : Ri w A b.n b.a) (hm : b.n ≤ maxLen) (h0 : 0 ≤ b.k) (h1 : b.k ≤ 11) (h2 : (b.n : Int) = arity b.k) (hi : fstE b.n (fun i => inE (cntB D b) (b.a i)) = 0) (hv : scE (usesV b.k) b.vn b.ve = 0) (hu : scE (b.k == 11) b.un b.ue ≠ 0) :
    Calls Tryz.prog 52 #[dgv D p, bkv b.k A b.n c b.vn b.ve b.un b.ue] w fun e w' => e = .returned (.iface 94 (I (scE (b.k == 11) b.un b.ue))) ∧ Ext w w' := by
  have g0 : ¬ b.k < 0 := by omega
  have g1 : ¬ 11 < b.k := by omega
  have HA := Lib.hid (arguments_any b.k)
  rw [← h2] at HA
  have HX : Hid (∀ w', Ext w w' → Calls Tryz.prog 53 #[.slice A b.n c, I (cntB D b)] w' fun e w'' => e = .returned (.bool (fstE b.n (fun i => inE (cntB D b) (b.a i)) == 0)) ∧ Ext w' w'') := fun w' e => areIndices_any (cntB D b) (ra.ext e) hm
  rw [show (fstE b.n (fun i => inE (cntB D b) (b.a i)) == 0) = true by simpa using hi] at HX
  clear ra hm h2
  have HB := Lib.hid (bxB w D p b A c 26 51)
  have hb : Ext w _ := HB.out.ext
  obtain ⟨k0, k1, k2, k3, k4, k5⟩ := HB.out.b0 _ (Ext.refl _)
  have HV := Lib.hid (checkScalar_any (usesV b.k) b.vn b.ve)
  rw [hv, errv_z] at HV
  have HU := Lib.hid (checkScalar_any (b.k == 11) b.un b.ue)
  rw [errv_n hu] at HU
  generalize scE (b.k == 11) b.un b.ue = eu at *
  by_cases hk : b.k = 0
  all_goals
    unfold cntB at HX
    (first | rw [if_pos hk] at HX | rw [if_neg hk] at HX)
    (first | (have hk' : (b.k == 0) = true := beq_iff_eq.2 hk) | (have hk' : (b.k == 0) = false := by simpa using hk))
    clear hk h0 h1 hi hv hu
    go_enter Tryz.func52, Tryz.ntmps52
    go_upto_region 3 with (fail)
    have hK := fun (x : Later _) => HB.out.b0 x.to x.ext
    refine wp_region_later (by kernel_rfl) (by kernel_rfl) ?_
    repeat (go_big_quiet_step ((go_at_call 102; exact Calls.later (HA.out _))))
    refine wpQuiet_nil ?_
    intro w2 hw2
    have hx := Later.of hw2
    clear hw2 hK
    obtain ⟨d0, d1, d2⟩ := HB.out.d0 _ hx
    obtain ⟨m0, m1, m2, m3, m4, m5⟩ := HB.out.b0 _ hx
    replace hb := hb.trans hx
    go_upto_region 10 with (go_at_call 53; (with_reducible refine (HX.out _ hb).mono ?_); rintro e w3 ⟨rfl, hb3⟩)
    have hx3 := hx.trans hb3
    replace hb := hb.trans hb3
    clear m0 m1 m2 m3 m4 m5 d0 d1 d2
    have hK := fun (x : Later _) => HB.out.b0 x.to (hx3.trans x.ext)
    refine wp_region_later (by kernel_rfl) (by kernel_rfl) ?_
    repeat (go_big_quiet_step (first | (go_at_call 104; exact Calls.later (usesValue_any _ _)) | (go_at_call 103; exact Calls.later (HV.out _))))
    refine wpQuiet_nil ?_
    intro w4 hw4
    have hx4 := Later.of hw4
    clear hw4 hK
    replace hx3 := hx3.trans hx4
    replace hb := hb.trans hx4
    clear hx4
    go_upto_region 13 with fail
    have hK := fun (x : Later _) => HB.out.b0 x.to (hx3.trans x.ext)
    refine wp_region_later (by kernel_rfl) (by kernel_rfl) ?_
    repeat (go_big_quiet_step (first | (go_at_call 105; exact Calls.later (usesUpper_any _ _)) | (go_at_call 103; exact Calls.later (HU.out _))))
    refine wpQuiet_nil ?_
    intro w5 hw5
    have hx5 := Later.of hw5
    clear hw5 hK
    replace hx3 := hx3.trans hx5
    replace hb := hb.trans hx5
    clear hx5
    go_wp2_with fail
    go_ret
    exact ⟨rfl, hb⟩

set_option maxRecDepth 100000 in
set_option maxHeartbeats 1000000 in
theorem block_off (ra : Ri w A b.n b.a) (hm : b.n ≤ maxLen) (h0 : 0 ≤ b.k) (h1 : b.k ≤ 11) (h2 : (b.n : Int) = arity b.k) (hi : fstE b.n (fun i => inE (cntB D b) (b.a i)) = 0) (hv : scE (usesV b.k) b.vn b.ve = 0) (hu : scE (b.k == 11) b.un b.ue = 0) (hk11 : b.k ≠ 11) :
    Calls Tryz.prog 52 #[dgv D p, bkv b.k A b.n c b.vn b.ve b.un b.ue] w fun e w' => e = .returned .nilIface ∧ Ext w w' := by
  have g0 : ¬ b.k < 0 := by omega
  have g1 : ¬ 11 < b.k := by omega
  have HA := Lib.hid (arguments_any b.k)
  rw [← h2] at HA
  have HX : Hid (∀ w', Ext w w' → Calls Tryz.prog 53 #[.slice A b.n c, I (cntB D b)] w' fun e w'' => e = .returned (.bool (fstE b.n (fun i => inE (cntB D b) (b.a i)) == 0)) ∧ Ext w' w'') := fun w' e => areIndices_any (cntB D b) (ra.ext e) hm
  rw [show (fstE b.n (fun i => inE (cntB D b) (b.a i)) == 0) = true by simpa using hi] at HX
  clear ra hm h2
  have HB := Lib.hid (bxB w D p b A c 26 51)
  have hb : Ext w _ := HB.out.ext
  obtain ⟨k0, k1, k2, k3, k4, k5⟩ := HB.out.b0 _ (Ext.refl _)
  have HV := Lib.hid (checkScalar_any (usesV b.k) b.vn b.ve)
  rw [hv, errv_z] at HV
  have HU := Lib.hid (checkScalar_any (b.k == 11) b.un b.ue)
  rw [hu, errv_z] at HU
  have H11 := Lib.hid (usesUpper_any b.k)
  rw [show (b.k == 11) = false by simpa using hk11] at H11
  clear hk11
  by_cases hk : b.k = 0
  all_goals
    unfold cntB at HX
    (first | rw [if_pos hk] at HX | rw [if_neg hk] at HX)
    (first | (have hk' : (b.k == 0) = true := beq_iff_eq.2 hk) | (have hk' : (b.k == 0) = false := by simpa using hk))
    clear hk h0 h1 hi hv hu
    go_enter Tryz.func52, Tryz.ntmps52
    go_upto_region 3 with (fail)
    have hK := fun (x : Later _) => HB.out.b0 x.to x.ext
    refine wp_region_later (by kernel_rfl) (by kernel_rfl) ?_
    repeat (go_big_quiet_step ((go_at_call 102; exact Calls.later (HA.out _))))
    refine wpQuiet_nil ?_
    intro w2 hw2
    have hx := Later.of hw2
    clear hw2 hK
    obtain ⟨d0, d1, d2⟩ := HB.out.d0 _ hx
    obtain ⟨m0, m1, m2, m3, m4, m5⟩ := HB.out.b0 _ hx
    replace hb := hb.trans hx
    go_upto_region 10 with (go_at_call 53; (with_reducible refine (HX.out _ hb).mono ?_); rintro e w3 ⟨rfl, hb3⟩)
    have hx3 := hx.trans hb3
    replace hb := hb.trans hb3
    clear m0 m1 m2 m3 m4 m5 d0 d1 d2
    have hK := fun (x : Later _) => HB.out.b0 x.to (hx3.trans x.ext)
    refine wp_region_later (by kernel_rfl) (by kernel_rfl) ?_
    repeat (go_big_quiet_step (first | (go_at_call 104; exact Calls.later (usesValue_any _ _)) | (go_at_call 103; exact Calls.later (HV.out _))))
    refine wpQuiet_nil ?_
    intro w4 hw4
    have hx4 := Later.of hw4
    clear hw4 hK
    replace hx3 := hx3.trans hx4
    replace hb := hb.trans hx4
    clear hx4
    go_upto_region 13 with fail
    have hK := fun (x : Later _) => HB.out.b0 x.to (hx3.trans x.ext)
    refine wp_region_later (by kernel_rfl) (by kernel_rfl) ?_
    repeat (go_big_quiet_step (first | (go_at_call 105; exact Calls.later (usesUpper_any _ _)) | (go_at_call 103; exact Calls.later (HU.out _))))
    refine wpQuiet_nil ?_
    intro w5 hw5
    have hx5 := Later.of hw5
    clear hw5 hK
    replace hx3 := hx3.trans hx5
    replace hb := hb.trans hx5
    clear hx5
    go_upto_region 16 with fail
    have hK := fun (x : Later _) => HB.out.b0 x.to (hx3.trans x.ext)
    refine wp_region_later (by kernel_rfl) (by kernel_rfl) ?_
    repeat (go_big_quiet_step ((go_at_call 105; exact Calls.later (H11.out _))))
    refine wpQuiet_nil ?_
    intro w6 hw6
    have hx6 := Later.of hw6
    clear hw6 hK
    replace hb := hb.trans hx6
    go_wp2_with fail
    go_ret
    exact ⟨rfl, hb⟩

theorem gt_cmp {n e m f : Int} (h1 : -62 ≤ e) (h2 : e ≤ 30) (h3 : -62 ≤ f) (h4 : f ≤ 30) {r : Bool} (h : gtS n e m f = r) : decide (0 < cmpD (nmS n e) (nmS m f)) = r := (cmp_gtS h1 h2 h3 h4).trans h
set_option maxRecDepth 100000 in
set_option maxHeartbeats 1000000 in
theorem block_clip (r : Bool) (hT : Tabs w) (ra : Ri w A b.n b.a) (hm : b.n ≤ maxLen) (h2 : (b.n : Int) = arity b.k) (hi : fstE b.n (fun i => inE (cntB D b) (b.a i)) = 0) (hv : scE (usesV b.k) b.vn b.ve = 0) (hu : scE (b.k == 11) b.un b.ue = 0) (hk : b.k = 11) (hg : gtS b.vn b.ve b.un b.ue = r) :
    Calls Tryz.prog 52 #[dgv D p, bkv b.k A b.n c b.vn b.ve b.un b.ue] w fun e w' => e = .returned (if r = true then .iface 94 (I 26) else .nilIface) ∧ Ext w w' := by
  have HT := Lib.hid hT; clear hT
  have g0 : ¬ b.k < 0 := by omega
  have g1 : ¬ 11 < b.k := by omega
  have HA := Lib.hid (arguments_any b.k)
  rw [← h2] at HA
  have HX : Hid (∀ w', Ext w w' → Calls Tryz.prog 53 #[.slice A b.n c, I (cntB D b)] w' fun e w'' => e = .returned (.bool (fstE b.n (fun i => inE (cntB D b) (b.a i)) == 0)) ∧ Ext w' w'') := fun w' e => areIndices_any (cntB D b) (ra.ext e) hm
  rw [show (fstE b.n (fun i => inE (cntB D b) (b.a i)) == 0) = true by simpa using hi, show cntB D b = D.nb by unfold cntB; rw [if_neg (by omega)]] at HX
  clear ra hm h2 hi
  have HB := Lib.hid (bxB w D p b A c 26 51)
  have hb : Ext w _ := HB.out.ext
  obtain ⟨k0, k1, k2, k3, k4, k5⟩ := HB.out.b0 _ (Ext.refl _)
  have HV := Lib.hid (checkScalar_any (usesV b.k) b.vn b.ve)
  rw [hv, errv_z] at HV
  have HU := Lib.hid (checkScalar_any (b.k == 11) b.un b.ue)
  rw [hu, errv_z] at HU
  have H11 := Lib.hid (usesUpper_any b.k)
  rw [show (b.k == 11) = true by simpa using hk] at H11 hu
  rw [show usesV b.k = true by rw [hk]; rfl] at hv
  obtain ⟨v1, v2, v3, v4⟩ := scE_t hv
  obtain ⟨u1, u2, u3, u4⟩ := scE_t hu
  have NV : Hid (∀ w', Ext w w' → Calls Tryz.prog 106 #[.agg #[I b.vn, I b.ve]] w' (NmR (nmS b.vn b.ve) w')) := fun w' e => number_any _ _ w' (HT.out.ext e) v1 v2 v3 v4
  have NU : Hid (∀ w', Ext w w' → Calls Tryz.prog 106 #[.agg #[I b.un, I b.ue]] w' (NmR (nmS b.un b.ue) w')) := fun w' e => number_any _ _ w' (HT.out.ext e) u1 u2 u3 u4
  have hc := gt_cmp v3 v4 u3 u4 hg
  have hk' : (b.k == 0) = false := by simp; omega
  clear hk hv hu v1 v2 v3 v4 u1 u2 u3 u4 hg
  generalize nmS b.vn b.ve = dV at *
  generalize nmS b.un b.ue = dU at *
  have HC := Lib.hid hc; clear hc
  have WR : ∀ (x y z : World), Ext x y → Ext y z → Ext x z := fun _ _ _ => Ext.trans
  have WR' := Lib.hid WR; clear WR
  go_enter Tryz.func52, Tryz.ntmps52
  go_upto_region 3 with (fail)
  have hK := fun (x : Later _) => HB.out.b0 x.to x.ext
  refine wp_region_later (by kernel_rfl) (by kernel_rfl) ?_
  repeat (go_big_quiet_step ((go_at_call 102; exact Calls.later (HA.out _))))
  refine wpQuiet_nil ?_
  intro w2 hw2
  have hx := Later.of hw2
  clear hw2 hK
  obtain ⟨d0, d1, d2⟩ := HB.out.d0 _ hx
  obtain ⟨m0, m1, m2, m3, m4, m5⟩ := HB.out.b0 _ hx
  replace hb := hb.trans hx
  go_upto_region 10 with (go_at_call 53; (with_reducible refine (HX.out _ hb).mono ?_); rintro e w3 ⟨rfl, hb3⟩)
  have hx3 := hx.trans hb3
  replace hb := hb.trans hb3
  clear m0 m1 m2 m3 m4 m5 d0 d1 d2
  have hK := fun (x : Later _) => HB.out.b0 x.to (hx3.trans x.ext)
  refine wp_region_later (by kernel_rfl) (by kernel_rfl) ?_
  repeat (go_big_quiet_step (first | (go_at_call 104; exact Calls.later (usesValue_any _ _)) | (go_at_call 103; exact Calls.later (HV.out _))))
  refine wpQuiet_nil ?_
  intro w4 hw4
  have hx4 := Later.of hw4
  clear hw4 hK
  replace hx3 := hx3.trans hx4
  replace hb := hb.trans hx4
  clear hx4
  go_upto_region 13 with fail
  have hK := fun (x : Later _) => HB.out.b0 x.to (hx3.trans x.ext)
  refine wp_region_later (by kernel_rfl) (by kernel_rfl) ?_
  repeat (go_big_quiet_step (first | (go_at_call 105; exact Calls.later (usesUpper_any _ _)) | (go_at_call 103; exact Calls.later (HU.out _))))
  refine wpQuiet_nil ?_
  intro w5 hw5
  have hx5 := Later.of hw5
  clear hw5 hK
  replace hx3 := hx3.trans hx5
  replace hb := hb.trans hx5
  clear hx5
  go_upto_region 16 with fail
  have HS : Hid (∀ w', Ext w5 w' → w'.cell? ⟨w.heap.size + 1, 0, none⟩ = some (I b.k) ∧ w'.cell? ⟨w.heap.size + 1, 1, none⟩ = some (.slice A b.n c) ∧ w'.cell? ⟨w.heap.size + 1, 2, none⟩ = some (I b.vn) ∧ w'.cell? ⟨w.heap.size + 1, 3, none⟩ = some (I b.ve) ∧
    w'.cell? ⟨w.heap.size + 1, 4, none⟩ = some (I b.un) ∧ w'.cell? ⟨w.heap.size + 1, 5, none⟩ = some (I b.ue)) := fun w' e => HB.out.b0 w' (hx3.trans e)
  have HX3 := Lib.hid hb
  clear k0 k1 k2 k3 k4 k5 hb hx hx3 hb3 HB HA HX HV HU
  obtain ⟨k0, k1, k2, k3, k4, k5⟩ := HS.out _ (Ext.refl _)
  go_region_held3 (fun w' => w'.cell? ⟨w.heap.size + 1, 0, none⟩ = some (I b.k) ∧ w'.cell? ⟨w.heap.size + 1, 1, none⟩ = some (.slice A b.n c) ∧ w'.cell? ⟨w.heap.size + 1, 2, none⟩ = some (I b.vn) ∧ w'.cell? ⟨w.heap.size + 1, 3, none⟩ = some (I b.ve) ∧
    w'.cell? ⟨w.heap.size + 1, 4, none⟩ = some (I b.un) ∧ w'.cell? ⟨w.heap.size + 1, 5, none⟩ = some (I b.ue)) (first | with_reducible assumption | exact HS.out _ (by (with_reducible (repeat (first | exact Ext.refl _ | assumption | (refine Ext.toSet ?_ (by omega)) | refine Ext.toAlloc ?_ | refine Ext.toDrew ?_ | refine Ext.toDrewN ?_ | refine Ext.trans ?_ (by assumption)))); (first | done | fail "no")))
    (first
      | (go_at_call 105; refine (H11.out _).mono ?_; rintro ea wa ⟨rfl, hxa⟩; obtain ⟨a0, a1, a2, a3, a4, a5⟩ := HS.out wa (by (with_reducible (repeat (first | exact Ext.refl _ | assumption | (refine Ext.toSet ?_ (by omega)) | refine Ext.toAlloc ?_ | refine Ext.toDrew ?_ | refine Ext.toDrewN ?_ | refine Ext.trans ?_ (by assumption)))); (first | done | fail "no")))
      | (go_at_call 106; (with_reducible refine (NV.out _ (HX3.out.trans (by (with_reducible (repeat (first | exact Ext.refl _ | assumption | (refine Ext.toSet ?_ (by omega)) | refine Ext.toAlloc ?_ | refine Ext.toDrew ?_ | refine Ext.toDrewN ?_ | refine Ext.trans ?_ (by assumption)))); (first | done | fail "no")))).mono ?_); rintro ev wv ⟨Av, cv, rfl, dyv, hxv⟩; obtain ⟨y0, y1, y2, y3, y4, y5⟩ := HS.out wv (by (with_reducible (repeat (first | exact Ext.refl _ | assumption | (refine Ext.toSet ?_ (by omega)) | refine Ext.toAlloc ?_ | refine Ext.toDrew ?_ | refine Ext.toDrewN ?_ | refine Ext.trans ?_ (by assumption)))); (first | done | fail "no")); have DV' := Lib.hid dyv; clear dyv)
      | (go_at_call 106; (with_reducible refine (NU.out _ (HX3.out.trans (by (with_reducible (repeat (first | exact Ext.refl _ | assumption | (refine Ext.toSet ?_ (by omega)) | refine Ext.toAlloc ?_ | refine Ext.toDrew ?_ | refine Ext.toDrewN ?_ | refine Ext.trans ?_ (by assumption)))); (first | done | fail "no")))).mono ?_); rintro eu wu ⟨Au, cu, rfl, dyu, hxu⟩; obtain ⟨z0, z1, z2, z3, z4, z5⟩ := HS.out wu (by (with_reducible (repeat (first | exact Ext.refl _ | assumption | (refine Ext.toSet ?_ (by omega)) | refine Ext.toAlloc ?_ | refine Ext.toDrew ?_ | refine Ext.toDrewN ?_ | refine Ext.trans ?_ (by assumption)))); (first | done | fail "no")); have DU' := Lib.hid dyu; clear dyu)
      | (go_at_call 22; refine (cmp_any (DV'.out.ext (by (with_reducible (repeat (first | exact Ext.refl _ | assumption | (refine Ext.toSet ?_ (by omega)) | refine Ext.toAlloc ?_ | refine Ext.toDrew ?_ | refine Ext.toDrewN ?_ | refine Ext.trans ?_ (by assumption)))); (first | done | fail "no"))) (DU'.out.ext (by (with_reducible (repeat (first | exact Ext.refl _ | assumption | (refine Ext.toSet ?_ (by omega)) | refine Ext.toAlloc ?_ | refine Ext.toDrew ?_ | refine Ext.toDrewN ?_ | refine Ext.trans ?_ (by assumption)))); (first | done | fail "no")))).mono ?_; rintro ec wc ⟨rfl, hxc⟩; obtain ⟨c0, c1, c2, c3, c4, c5⟩ := HS.out wc (by (with_reducible (repeat (first | exact Ext.refl _ | assumption | (refine Ext.toSet ?_ (by omega)) | refine Ext.toAlloc ?_ | refine Ext.toDrew ?_ | refine Ext.toDrewN ?_ | refine Ext.trans ?_ (by assumption)))); (first | done | fail "no"))))
  all_goals
    have HC2 := HC.out
    cases r with
    | true =>
      have hq : 0 < cmpD dV dU := of_decide_eq_true HC2
      clear HC2 HC
      go_wp2_with fail
      go_ret
      exact ⟨rfl, HX3.out.trans (by (with_reducible (repeat (first | exact Ext.refl _ | assumption | (refine Ext.toSet ?_ (by omega)) | refine Ext.toAlloc ?_ | refine Ext.toDrew ?_ | refine Ext.toDrewN ?_ | refine Ext.trans ?_ (by assumption)))); (first | done | fail "no"))⟩
    | false =>
      have hq : ¬ 0 < cmpD dV dU := of_decide_eq_false HC2
      clear HC2 HC
      go_wp2_with fail
      go_ret
      exact ⟨rfl, HX3.out.trans (by (with_reducible (repeat (first | exact Ext.refl _ | assumption | (refine Ext.toSet ?_ (by omega)) | refine Ext.toAlloc ?_ | refine Ext.toDrew ?_ | refine Ext.toDrewN ?_ | refine Ext.trans ?_ (by assumption)))); (first | done | fail "no"))⟩
theorem checkBlock_any (hT : Tabs w) (ra : Ri w A b.n b.a) (hm : b.n ≤ maxLen) :
    Calls Tryz.prog 52 #[dgv D p, bkv b.k A b.n c b.vn b.ve b.un b.ue] w fun e w' => e = .returned (errv (blkE D b)) ∧ Ext w w' := by
  unfold blkE
  by_cases h1 : b.k < 0 ∨ 11 < b.k
  · rw [if_pos h1]; exact block_type h1
  rw [if_neg h1]
  by_cases h2 : (b.n : Int) ≠ arity b.k
  · rw [if_pos h2]; exact block_shape (by omega) (by omega) h2
  rw [if_neg h2]
  have h2' : (b.n : Int) = arity b.k := by omega
  by_cases h3 : fstE b.n (fun i => inE (cntB D b) (b.a i)) ≠ 0
  · rw [if_pos h3, idx_10 h3]; exact block_idx ra hm (by omega) (by omega) h2' h3
  rw [if_neg h3]
  by_cases h4 : scE (usesV b.k) b.vn b.ve ≠ 0
  · rw [if_pos h4, errv_n h4]; exact block_val ra hm (by omega) (by omega) h2' (by omega) h4
  rw [if_neg h4]
  by_cases h5 : scE (b.k == 11) b.un b.ue ≠ 0
  · rw [if_pos h5, errv_n h5]; exact block_upp ra hm (by omega) (by omega) h2' (by omega) (by omega) h5
  rw [if_neg h5]
  by_cases h6 : b.k = 11
  · have := block_clip (D := D) (p := p) (c := c) (gtS b.vn b.ve b.un b.ue) hT ra hm h2' (by omega) (by omega) (by omega) h6 rfl
    refine this.mono fun e w' h => ⟨?_, h.2⟩
    rw [h.1]
    by_cases q : gtS b.vn b.ve b.un b.ue = true
    · rw [if_pos q, if_pos ⟨h6, q⟩]; rfl
    · rw [if_neg q, if_neg fun x => q x.2]; rfl
  · rw [if_neg fun x => h6 x.1]; exact block_off ra hm (by omega) (by omega) h2' (by omega) (by omega) (by omega) h6
end
end

/-! ### Dgfh -/
section
/-! ### Dgf -/
section
open Go.RowKit

/-- A box that holds a diagram. -/
structure Bd (w : World) (g : Nat) (D : Dia) (p : Pl) : Prop where
  c0 : w.cell? ⟨g, 0, none⟩ = some (.slice p.AI D.ni p.cI)
  c1 : w.cell? ⟨g, 1, none⟩ = some (.slice p.AB D.nb p.cB)
  c2 : w.cell? ⟨g, 2, none⟩ = some (.slice p.AO D.no p.cO)
theorem Bd.lt {w : World} {g : Nat} {D : Dia} {p : Pl} (h : Bd w g D p) : g < w.heap.size := World.block_lt_of_cell? w _ h.c0
theorem Bd.ext {w w' : World} {g : Nat} {D : Dia} {p : Pl} (h : Bd w g D p) (e : Ext w w') : Bd w' g D p :=
  ⟨(e.old.1 _ _ h.lt).trans h.c0, (e.old.1 _ _ h.lt).trans h.c1, (e.old.1 _ _ h.lt).trans h.c2⟩
theorem Bd.new (w : World) (D : Dia) (p : Pl) (t : TypeId) : Bd (w.alloc (.cells #[.slice p.AI D.ni p.cI, .slice p.AB D.nb p.cB, .slice p.AO D.no p.cO] t)) w.heap.size D p :=
  ⟨by go_simp, by go_simp, by go_simp⟩

set_option maxRecDepth 100000 in
set_option maxHeartbeats 1000000 in
theorem isDelay_any {w : World} {D : Dia} {p : Pl} (d : Dm w D p) (i : Nat) (hi : i < D.nb) : Calls Tryz.prog 109 #[dgv D p, I i] w fun e w' => e = .returned (.bool (isD D i)) ∧ Ext w w' := by
  obtain ⟨b, o, ha, hb, hc⟩ := d.blocks (by omega)
  obtain ⟨x0, _⟩ := hc i hi
  have lb := d.lb; unfold maxLen at lb
  unfold isD dgv
  rw [ha]
  clear ha hc d
  have hlt : (i : Int) < (D.nb : Int) := by omega
  generalize (D.B i).k = k at *
  go_enter Tryz.func109, Tryz.ntmps109
  go_wp2
  go_ret
  exact ⟨rfl, (by repeat (first | exact Ext.refl _ | assumption | exact Ext.alloc _ _ | refine Ext.trans ?_ (by assumption) | refine Ext.trans ?_ (Ext.alloc _ _) | refine Ext.trans ?_ (Ext.drewN _ _) | refine Ext.trans ?_ (Ext.drew _)))⟩

set_option maxRecDepth 100000 in
set_option maxHeartbeats 1000000 in
theorem sources_any (k : Int) (A : Option Addr) (n c : Nat) (f : Nat → Int) (vn ve un ue : Int) (w : World) (r : Ri w A n f) (hA : A = none → c = 0) :
    Calls Tryz.prog 141 #[bkv k A n c vn ve un ue] w (SrP (if k = 0 then 0 else n) f w) := by
  have HA0 := Lib.hid hA; clear hA
  by_cases h : k = 0
  · subst h
    have R := Lib.hid r; clear r
    go_enter Tryz.func141, Tryz.ntmps141
    go_wp2
    go_ret
    exact ⟨none, 0, rfl, Ri.none_, fun _ => rfl, (by repeat (first | exact Ext.refl _ | assumption | exact Ext.alloc _ _ | refine Ext.trans ?_ (by assumption) | refine Ext.trans ?_ (Ext.alloc _ _) | refine Ext.trans ?_ (Ext.drewN _ _) | refine Ext.trans ?_ (Ext.drew _)))⟩
  · have R := Lib.hid r; clear r
    have h' : (k == 0) = false := by simpa using h
    rw [if_neg h]
    clear h
    go_enter Tryz.func141, Tryz.ntmps141
    go_wp2
    go_ret
    exact ⟨A, c, rfl, R.out.ext (by repeat (first | exact Ext.refl _ | assumption | exact Ext.alloc _ _ | refine Ext.trans ?_ (by assumption) | refine Ext.trans ?_ (Ext.alloc _ _) | refine Ext.trans ?_ (Ext.drewN _ _) | refine Ext.trans ?_ (Ext.drew _))), HA0.out, (by repeat (first | exact Ext.refl _ | assumption | exact Ext.alloc _ _ | refine Ext.trans ?_ (by assumption) | refine Ext.trans ?_ (Ext.alloc _ _) | refine Ext.trans ?_ (Ext.drewN _ _) | refine Ext.trans ?_ (Ext.drew _)))⟩

set_option maxRecDepth 100000 in
set_option maxHeartbeats 1000000 in
theorem waits_any {w : World} {D : Dia} {p : Pl} {bl bd g c : Nat} {P : Nat → Bool} (d : Dm w D p) (hd : Bd w bd D p) (hl : w.cell? ⟨bl, 0, none⟩ = some (.slice (some ⟨g, 0, none⟩) D.nb c)) (hp : Rb w g D.nb P) (i : Nat) (hi : i < D.nb) :
    Calls Tryz.prog 139 (#[I i] ++ #[.pointer (some ⟨bl, 0, none⟩), .pointer (some ⟨bd, 0, none⟩)]) w fun e w' => e = .returned (.bool (!P i && !isD D i)) ∧ Ext w w' := by
  have x := hp.2 i hi
  have HD := Lib.hid (isDelay_any d i hi)
  obtain ⟨c0, c1, c2⟩ := hd
  have hlt : (i : Int) < (D.nb : Int) := by omega
  clear hp d
  cases hP : P i with
  | true =>
    rw [hP] at x
    clear hP
    go_enter Tryz.func139, Tryz.ntmps139
    go_wp2_with fail
    go_ret
    exact ⟨rfl, Ext.refl _⟩
  | false =>
    rw [hP] at x
    clear hP
    generalize isD D i = q at *
    go_enter Tryz.func139, Tryz.ntmps139
    go_wp2_with (go_at_call 109; refine HD.out.mono ?_; rintro e w1 ⟨rfl, hb1⟩)
    go_ret
    exact ⟨rfl, hb1⟩

set_option maxRecDepth 100000 in
set_option maxHeartbeats 1000000 in
theorem indexFunc_any (g : FuncId) (cb : Array Value) (A : Option Addr) (n c : Nat) (f : Nat → Int) (q : Nat → Bool) (w : World) (r : Ri w A n f) (hn : n ≤ maxLen) (eg : ∀ args w, (callFunc g args).run Tryz.prog w = .ok (.enter g args) w)
    (hf0 : ∀ (i : Nat) (w' : World), i < n → Ext w w' → Calls Tryz.prog g (#[I (f i)] ++ cb) w' fun e w'' => e = .returned (.bool (q i)) ∧ Ext w' w'') :
    Calls Tryz.prog 164 #[.slice A n c, .func (.func g) #[] cb] w fun e w' => e = .returned (I (fstI n q)) ∧ Ext w w' := by
  unfold maxLen at hn
  have HF := Lib.hid hf0; clear hf0
  have R := Lib.hid r; clear r
  go_enter Tryz.func164, Tryz.ntmps164
  go_wp2
  go_loopw [8] (fun s wr => ∃ j : Nat, j ≤ n ∧ s = I j ∧ Ext w wr ∧ Hid (∀ i, i < j → q i = false)) (fun s _ => n - (intOf s).toNat)
  case atStart => exact ⟨0, Nat.zero_le _, rfl, Ext.refl _, fun i hi => absurd hi (by omega)⟩
  case round =>
    obtain ⟨j, hj, rfl, hb, HG⟩ := hrel
    by_cases hlt : j < n
    · obtain ⟨b, o, rfl, hba, ca⟩ := R.out (by omega)
      have xa := (hb.old.1 _ _ hba).trans (ca j hlt)
      clear ca
      have hc0 := HF.out j _ hlt hb
      generalize f j = y at xa hc0
      have HC := Lib.hid hc0; clear hc0
      cases hq : q j with
      | true =>
        rw [hq] at HC
        have HR := Lib.hid (fstI_hit HG.out hlt hq)
        clear hq
        go_wp2_with (go_at_fn g; refine HC.out.mono ?_; rintro e w1 ⟨rfl, hb1⟩; replace hb := Ext.trans hb hb1; clear hb1)
        go_ret
        exact ⟨by rw [HR.out]; rfl, hb⟩
      | false =>
        rw [hq] at HC
        have HG2 : Hid (∀ i, i < j + 1 → q i = false) := fun i hi => by
          by_cases h : i = j
          · subst h; exact hq
          · exact HG.out i (by omega)
        clear hq
        go_wp2_with (go_at_fn g; refine HC.out.mono ?_; rintro e w1 ⟨rfl, hb1⟩; replace hb := Ext.trans hb hb1; clear hb1)
        go_roundw
        case rel => exact ⟨j + 1, by omega, by go_num, hb, HG2⟩
        case measure => simp [intOf]; omega
    · obtain rfl : j = n := by omega
      have HR := Lib.hid (fstI_none HG.out)
      go_wp2
      go_ret
      exact ⟨by rw [HR.out]; rfl, hb⟩
/-- Does q hold at one of the first n places? -/
def anyN (n : Nat) (q : Nat → Bool) : Bool := decide (0 ≤ fstI n q)
theorem anyN_all (n : Nat) (q : Nat → Bool) : allN n q = !anyN n (fun i => !q i) := by
  unfold allN anyN
  rcases fstI_cases n (fun i => !q i) with ⟨h, _⟩ | ⟨j, _, h, _⟩
  · rw [h]; rfl
  · rw [h]
    simp
set_option maxRecDepth 100000 in
set_option maxHeartbeats 1000000 in
theorem containsFunc_any (g : FuncId) (cb : Array Value) (A : Option Addr) (n c : Nat) (f : Nat → Int) (q : Nat → Bool) (w : World) (r : Ri w A n f) (hn : n ≤ maxLen) (eg : ∀ args w, (callFunc g args).run Tryz.prog w = .ok (.enter g args) w)
    (hf0 : ∀ (i : Nat) (w' : World), i < n → Ext w w' → Calls Tryz.prog g (#[I (f i)] ++ cb) w' fun e w'' => e = .returned (.bool (q i)) ∧ Ext w' w'') :
    Calls Tryz.prog 140 #[.slice A n c, .func (.func g) #[] cb] w fun e w' => e = .returned (.bool (anyN n q)) ∧ Ext w w' := by
  have HC := Lib.hid (indexFunc_any g cb A n c f q w r hn eg hf0)
  clear hf0 r eg
  unfold anyN
  generalize fstI n q = z at *
  by_cases h : 0 ≤ z
  all_goals
    go_enter Tryz.func140, Tryz.ntmps140
    go_wp2_with (go_at_call 164; refine HC.out.mono ?_; rintro e w1 ⟨rfl, hb1⟩)
    go_ret
    exact ⟨by simp [h], hb1⟩
end

/-! ### Dgg -/
section
open Go.RowKit

/-- The two boxes of leastReady. -/
theorem two_bl (w : World) (D : Dia) (p : Pl) (g c : Nat) (t t' : TypeId) :
    Bd ((w.alloc (.cells #[.slice p.AI D.ni p.cI, .slice p.AB D.nb p.cB, .slice p.AO D.no p.cO] t)).alloc (.cells #[.slice (some ⟨g, 0, none⟩) D.nb c] t')) w.heap.size D p ∧
    ((w.alloc (.cells #[.slice p.AI D.ni p.cI, .slice p.AB D.nb p.cB, .slice p.AO D.no p.cO] t)).alloc (.cells #[.slice (some ⟨g, 0, none⟩) D.nb c] t')).cell? ⟨w.heap.size + 1, 0, none⟩ = some (.slice (some ⟨g, 0, none⟩) D.nb c) ∧
    w.heap.size + 1 < ((w.alloc (.cells #[.slice p.AI D.ni p.cI, .slice p.AB D.nb p.cB, .slice p.AO D.no p.cO] t)).alloc (.cells #[.slice (some ⟨g, 0, none⟩) D.nb c] t')).heap.size :=
  ⟨(Bd.new w D p t).ext (Ext.alloc _ _), by go_simp, by simp⟩
theorem rdy_eq (D : Dia) (P : Nat → Bool) (i : Nat) : rdy D P i = ((!P i && !isD D i) && !anyN (ns D i) (fun j => !P (sr D i j) && !isD D (sr D i j))) := by
  unfold rdy
  rw [anyN_all]
  congr 3
  funext j
  cases P (sr D i j) <;> cases isD D (sr D i j) <;> rfl
set_option maxRecDepth 100000 in
set_option maxHeartbeats 1000000 in
theorem leastReady_any {w : World} {D : Dia} {p : Pl} {g c : Nat} {P : Nat → Bool} (d : Dm w D p) (wf : WF D) (hp : Rb w g D.nb P) :
    Calls Tryz.prog 108 #[dgv D p, .slice (some ⟨g, 0, none⟩) D.nb c] w fun e w' => e = .returned (I (fstI D.nb (rdy D P))) ∧ Ext w w' := by
  have hnb := wf.nb
  have eg : ∀ args w, (callFunc 139 args).run Tryz.prog w = .ok (.enter 139 args) w := enters_of Tryz.func139 (by kernel_rfl) rfl
  obtain ⟨b1, b2, b3⟩ := two_bl w D p g c 26 144
  have hb : Ext w _ := (Ext.alloc w (.cells #[.slice p.AI D.ni p.cI, .slice p.AB D.nb p.cB, .slice p.AO D.no p.cO] 26)).trans (Ext.alloc _ (.cells #[.slice (some ⟨g, 0, none⟩) D.nb c] 144))
  have HB := Lib.hid hb
  have HW : Hid (∀ (i : Nat) (w' : World), i < D.nb → Ext ((w.alloc (.cells #[.slice p.AI D.ni p.cI, .slice p.AB D.nb p.cB, .slice p.AO D.no p.cO] 26)).alloc (.cells #[.slice (some ⟨g, 0, none⟩) D.nb c] 144)) w' →
      Calls Tryz.prog 139 (#[I i] ++ #[.pointer (some ⟨w.heap.size + 1, 0, none⟩), .pointer (some ⟨w.heap.size, 0, none⟩)]) w' fun e w'' => e = .returned (.bool (!P i && !isD D i)) ∧ Ext w' w'') := fun i w' hi he =>
    waits_any (d.ext (hb.trans he)) (b1.ext he) ((he.old.1 _ _ b3).trans b2) (hp.ext (hb.trans he)) i hi
  have HBD := Lib.hid b1
  have HD := Lib.hid d
  have EG := Lib.hid eg
  have HWF := Lib.hid wf
  clear b1 b2 d hp eg wf
  obtain ⟨c0, c1, c2⟩ := HBD.out
  go_enter Tryz.func108, Tryz.ntmps108
  go_wp2_with fail
  go_loopw [12] (fun s wr => ∃ j : Nat, j ≤ D.nb ∧ s = I j ∧ Hid (Ext ((w.alloc (.cells #[.slice p.AI D.ni p.cI, .slice p.AB D.nb p.cB, .slice p.AO D.no p.cO] 26)).alloc (.cells #[.slice (some ⟨g, 0, none⟩) D.nb c] 144)) wr) ∧ Hid (∀ i, i < j → rdy D P i = false)) (fun s _ => D.nb - (intOf s).toNat)
  case atStart => exact ⟨0, Nat.zero_le _, rfl, Ext.refl _, fun i hi => absurd hi (by omega)⟩
  case round =>
    obtain ⟨j, hj, rfl, hb, HG⟩ := hrel
    by_cases hlt : j < D.nb
    · obtain ⟨b, o, ha, hba, hc⟩ := (HD.out.ext (HB.out.trans hb.out)).blocks (by omega)
      obtain ⟨x0, x1, x2, x3, x4, x5⟩ := hc j hlt
      have hsz : ((w.alloc (.cells #[.slice p.AI D.ni p.cI, .slice p.AB D.nb p.cB, .slice p.AO D.no p.cO] 26)).alloc (.cells #[.slice (some ⟨g, 0, none⟩) D.nb c] 144)).heap.size ≤ wr.heap.size := hb.out.size
      have hn2 := (HWF.out.ns2 hlt).1
      have HSR : Hid (∀ w', Ext wr w' → Calls Tryz.prog 141 #[bkv (D.B j).k (p.AA j) (D.B j).n (p.cA j) (D.B j).vn (D.B j).ve (D.B j).un (D.B j).ue] w' (SrP (ns D j) (D.B j).a w')) := fun w' he =>
        sources_any (D.B j).k (p.AA j) (D.B j).n (p.cA j) (D.B j).a _ _ _ _ w' (((HD.out.ext (HB.out.trans (hb.out.trans he))).args j hlt).1) (HD.out.nA j hlt)
      have HCF : Hid (∀ A' c' w', Ext wr w' → Ri w' A' (ns D j) (D.B j).a → Calls Tryz.prog 140 #[.slice A' (ns D j) c', .func (.func 139) #[] #[.pointer (some ⟨w.heap.size + 1, 0, none⟩), .pointer (some ⟨w.heap.size, 0, none⟩)]] w' fun e w'' =>
          e = .returned (.bool (anyN (ns D j) (fun i => !P (sr D j i) && !isD D (sr D j i)))) ∧ Ext w' w'') := fun A' c' w' he r' =>
        containsFunc_any 139 _ A' (ns D j) c' (D.B j).a _ w' r' (by unfold maxLen; omega) EG.out (fun i w'' hi he' => by
          have h1 := HWF.out.src hlt hi
          have := HW.out (sr D j i) w'' h1.2.1 ((hb.out.trans he).trans he')
          rw [← h1.1] at this; exact this)
      have HR := Lib.hid (rdy_eq D P j)
      have HWJ : Hid (∀ w', j < D.nb → Ext ((w.alloc (.cells #[.slice p.AI D.ni p.cI, .slice p.AB D.nb p.cB, .slice p.AO D.no p.cO] 26)).alloc (.cells #[.slice (some ⟨g, 0, none⟩) D.nb c] 144)) w' →
        Calls Tryz.prog 139 #[I j, .pointer (some ⟨w.heap.size + 1, 0, none⟩), .pointer (some ⟨w.heap.size, 0, none⟩)] w' fun e w'' => e = .returned (.bool (!P j && !isD D j)) ∧ Ext w' w'') := HW.out j
      generalize hq1 : (!P j && !isD D j) = q1 at *
      generalize hq2 : anyN (ns D j) (fun i => !P (sr D j i) && !isD D (sr D j i)) = q2 at *
      clear hq1 hq2
      clear hc c0 c1 c2
      generalize ns D j = nj at *
      generalize (D.B j).a = fj at *
      generalize (D.B j).k = kj at *
      generalize (D.B j).n = mj at *
      generalize (D.B j).vn = vn at *
      generalize (D.B j).ve = ve at *
      generalize (D.B j).un = un at *
      generalize (D.B j).ue = ue at *
      have hlt' : (j : Int) < (D.nb : Int) := by omega
      cases q1 with
      | false =>
        have HG2 : Hid (∀ i, i < j + 1 → rdy D P i = false) := fun i hi => by
          by_cases h : i = j
          · subst h; rw [HR.out]; rfl
          · exact HG.out i (by omega)
        go_wp2_with (go_at_call 139; (with_reducible refine (HWJ.out _ hlt (hb.out.trans (Ext.alloc _ _))).mono ?_); rintro e w1 ⟨rfl, hb1⟩)
        rw [← ha]
        go_roundw
        case rel => exact ⟨j + 1, by omega, by go_num, hb.out.trans ((Ext.alloc _ _).trans hb1), HG2⟩
        case measure => simp [intOf]; omega
      | true =>
        cases q2 with
        | false =>
          have HF := Lib.hid (fstI_hit HG.out hlt (by rw [HR.out]; rfl))
          go_wp2_with (first
            | (go_at_call 139; (with_reducible refine (HWJ.out _ hlt (hb.out.trans (Ext.alloc _ _))).mono ?_); rintro e w1 ⟨rfl, hb1⟩; obtain ⟨hc1, hf1⟩ := hb1.old)
            | (go_at_call 141; (with_reducible refine (HSR.out _ ((Ext.alloc _ _).trans hb1)).mono ?_); rintro e w2 ⟨A2, c2, rfl, r2, _, hb2⟩; have R2 := Lib.hid r2; clear r2)
            | (go_at_call 140; (with_reducible refine (HCF.out A2 c2 _ (((Ext.alloc _ _).trans hb1).trans hb2) R2.out).mono ?_); rintro e w3 ⟨rfl, hb3⟩))
          go_ret
          exact ⟨by rw [HF.out]; rfl, HB.out.trans (hb.out.trans ((((Ext.alloc _ _).trans hb1).trans hb2).trans hb3))⟩
        | true =>
          have HG2 : Hid (∀ i, i < j + 1 → rdy D P i = false) := fun i hi => by
            by_cases h : i = j
            · subst h; rw [HR.out]; rfl
            · exact HG.out i (by omega)
          go_wp2_with (first
            | (go_at_call 139; (with_reducible refine (HWJ.out _ hlt (hb.out.trans (Ext.alloc _ _))).mono ?_); rintro e w1 ⟨rfl, hb1⟩; obtain ⟨hc1, hf1⟩ := hb1.old)
            | (go_at_call 141; (with_reducible refine (HSR.out _ ((Ext.alloc _ _).trans hb1)).mono ?_); rintro e w2 ⟨A2, c2, rfl, r2, _, hb2⟩; have R2 := Lib.hid r2; clear r2)
            | (go_at_call 140; (with_reducible refine (HCF.out A2 c2 _ (((Ext.alloc _ _).trans hb1).trans hb2) R2.out).mono ?_); rintro e w3 ⟨rfl, hb3⟩))
          rw [← ha]
          go_roundw
          case rel => exact ⟨j + 1, by omega, by go_num, hb.out.trans ((((Ext.alloc _ _).trans hb1).trans hb2).trans hb3), HG2⟩
          case measure => simp [intOf]; omega
    · obtain rfl : j = D.nb := by omega
      have HR := Lib.hid (fstI_none HG.out)
      go_wp2_with fail
      go_ret
      exact ⟨by rw [HR.out]; rfl, HB.out.trans hb.out⟩
end

/-! ### Dgh -/
section
open Go Go.RowKit


def nI (L : List Nat) : List Value := L.map fun (i : Nat) => I (i : Int)
/-- The slice owns its memory (blocks from base on) and holds the numbers of L. -/
def OwL (w : World) (base : Nat) (A : Option Addr) (c : Nat) (L : List Nat) : Prop := w.ownsRow base 3 1 (.slice A L.length c) L.length (nI L)
theorem OwL.nil (w : World) (base : Nat) : OwL w base none 0 [] := World.ownsRow_nil _ _ _ _
theorem OwL.mono {w : World} {base base' c : Nat} {A : Option Addr} {L : List Nat} (h : OwL w base A c L) (hb : base' ≤ base) : OwL w base' A c L := by
  obtain ⟨hl, h⟩ := h
  refine ⟨hl, ?_⟩
  rcases h with h | ⟨g, cap, cur, h1, h2, h3⟩
  · exact .inl h
  · exact .inr ⟨g, cap, cur, h1, by omega, h3⟩
theorem OwL.lt {w : World} {base c : Nat} {A : Option Addr} {L : List Nat} (h : OwL w base A c L) : ∀ k, (Value.slice A L.length c).ownBlock = some k → base ≤ k ∧ k < w.heap.size := World.ownsRow.lt h
theorem OwL.ext {w w' : World} {base c : Nat} {A : Option Addr} {L : List Nat} (h : OwL w base A c L) (e : Ext w w') : OwL w' base A c L :=
  World.ownsRow.kept h (ext_gr e) (by cases (Value.slice A L.length c).ownBlock <;> simp)
theorem OwL.off {w w' : World} {base c g : Nat} {A : Option Addr} {L : List Nat} (h : OwL w base A c L) (e : w.grownBy w' (some g)) (hg : g < base) : OwL w' base A c L := by
  refine World.ownsRow.kept h e ?_
  cases hv : (Value.slice A L.length c).ownBlock with
  | none => simp
  | some k => right; have := (h.lt k hv).1; intro e; injection e with e; omega
theorem OwL.ri {w : World} {base c : Nat} {A : Option Addr} {L : List Nat} (h : OwL w base A c L) : Ri w A L.length (fun i => ((L.getD i 0 : Nat) : Int)) := fun hn => by
  have h' := h
  obtain ⟨_, ⟨e, h0⟩ | ⟨g, cap, cur, e, _⟩⟩ := h'
  · omega
  · injection e with e1 e2 e3
    subst e1
    refine ⟨g, 0, rfl, (h.lt g rfl).2, fun i hi => ?_⟩
    have := World.ownsRow.cellAt h i (by omega)
    rw [Nat.zero_add, this]
    simp [nI, List.getElem?_eq_getElem hi, List.getD]
theorem grow_ext {W w w' : World} {base c : Nat} {A : Option Addr} {L : List Nat} (e : Ext W w) (h : OwL w base A c L) (hb : W.heap.size ≤ base) (hg : w.grownBy w' (Value.slice A L.length c).ownBlock) : Ext W w' :=
  Below.grown e hg e.size (fun k hk => Nat.le_trans hb (h.lt k hk).1)
theorem appL {ops : Array Oper} {rest : List Oper} {o : Oper} {a : Act} {w : World} {Q : Exit → Act → World → Prop} (hgd : o.guard = none) (s x : Operand) (ho : o.op = .call { callee := .builtin .append, args := #[s, x], argTypes := #[24, 24] })
    (base : Nat) (A : Option Addr) (c : Nat) (L : List Nat) (hs : a.eval s = .slice A L.length c) (hown : OwL w base A c L) (ad : Addr) (cx v : Nat) (hx : a.eval x = .slice (some ad) 1 cx) (hv : w.cell? ad = some (I v))
    (hn : L.length ≤ 1099511627776) (hbase : base ≤ w.heap.size)
    (h : ∀ g cap w', OwL w' base (some ⟨g, 0, none⟩) cap (L ++ [v]) → w.grownBy w' (Value.slice A L.length c).ownBlock → ((Value.slice A L.length c).ownBlock = some g ∨ g = w.heap.size) → g < w'.heap.size →
      wpList Tryz.prog ops Q rest (a.put o.dst (.slice (some ⟨g, 0, none⟩) (L ++ [v]).length cap)) w') : wpList Tryz.prog ops Q (o :: rest) a w := by
  obtain ⟨i, hi, hz, h1, hb⟩ := info_parts infoI
  refine wpList_append_lies w hgd s x _ ho base 3 i _ 1 8 Tryz.underlying24 hi hz h1 hb rfl (by omega) _ L.length _ hs hown ad 1 cx [I v] hx rfl (news1' hv) (by simp [Value.oneCell']) (by omega) (by unfold maxLen; omega) (by omega) hbase w.heap.size rfl ?_
  intro g cap w' h1 h2 h3 h4
  have e : (L ++ [v]).length = L.length + 1 := by simp
  have := h g cap w' (by unfold OwL; rw [e]; unfold nI at *; rw [List.map_append]; exact h1) h2 h3 h4
  rw [e] at this; exact this
def lenV : Value → Nat
  | .slice _ n _ => n
  | _ => 0
/-- A list in new memory. -/
def LsR (L : List Nat) (w : World) (e : Ending) (w' : World) : Prop := ∃ A c, e = .returned (.slice A L.length c) ∧ OwL w' w.heap.size A c L ∧ Ext w w'

/-- What order's loop keeps. -/
structure OrdM (W w : World) (gl : Nat) (D : Dia) (A : Option Addr) (c : Nat) (L : List Nat) : Prop where
  ext : Ext W w
  glz : W.heap.size = gl
  own : OwL w (gl + 1) A c L
  row : w.rowIs gl 4 D.nb (fun i => .bool (inL L i))
  inv : OrdI D L
theorem OrdM.go {W w wa wb : World} {gl g : Nat} {D : Dia} {A : Option Addr} {c cap : Nat} {L : List Nat} {j : Nat} (h : OrdM W w gl D A c L) (hj : j < D.nb) (hf : fstI D.nb (rdy D (inL L)) = j) (hr : rdy D (inL L) j = true)
    (e : Ext w wa) (hown : OwL wb (gl + 1) (some ⟨g, 0, none⟩) cap (L ++ [j])) (hg : wa.grownBy wb (Value.slice A L.length c).ownBlock) :
    wb.cell? ⟨gl, j, none⟩ = some (.bool (inL L j)) ∧ wb.frozen? ⟨gl, j, none⟩ = false ∧ OrdM W (wb.setCell ⟨gl, j, none⟩ (.bool true)) gl D (some ⟨g, 0, none⟩) cap (L ++ [j]) := by
  have ho := h.own.ext e
  have hrow : wb.rowIs gl 4 D.nb (fun i => .bool (inL L i)) := (h.row.ext e).of_block (hg.block gl (h.row.ext e).lt (fun q => by have := (ho.lt gl q.symm).1; omega))
  refine ⟨hrow.cell hj, hrow.frozen j, ?_, h.glz, ?_, ?_, h.inv.app hj hf hr⟩
  · exact (grow_ext (h.ext.trans e) ho (by rw [h.glz]; omega) hg).set (by show _ ≤ gl; rw [h.glz]; omega) _
  · exact hown.off (g := gl) ⟨rfl, rfl, rfl, by simp, fun k _ hk => Below.heap_setCell _ _ _ k (fun q => hk (by simp [q]))⟩ (by omega)
  · refine (hrow.set j (.bool true)).congr fun i hi => ?_
    rw [inL_app]
    by_cases q : i = j
    · subst q; simp
    · simp [q]

set_option maxRecDepth 100000 in
set_option maxHeartbeats 1000000 in
theorem order_any {w : World} {D : Dia} {p : Pl} (d : Dm w D p) (wf : WF D) : Calls Tryz.prog 54 #[dgv D p] w (LsR (ordL D) w) := by
  have hnb := wf.nb
  have hmk := run_make_row' 144 4 (.bool false) 1 Tryz.underlying144 infoB rfl .i64 .i64 D.nb (by omega) (by omega)
  have HBD := Lib.hid (Bd.new w D p 26)
  obtain ⟨W1, hW1⟩ : ∃ W1, W1 = w.alloc (.cells #[.slice p.AI D.ni p.cI, .slice p.AB D.nb p.cB, .slice p.AO D.no p.cO] 26) := ⟨_, rfl⟩
  have hE : Ext w W1 := by rw [hW1]; exact Ext.alloc _ _
  have hz1 : W1.heap.size = w.heap.size + 1 := by rw [hW1]; simp
  rw [← hW1] at HBD
  have HD := Lib.hid d
  have HWF := Lib.hid wf
  have HE := Lib.hid hE
  have HST : Hid (OrdM W1 (W1.alloc (.cells (madeCells #[.bool false] D.nb) 4)) (w.heap.size + 1) D none 0 []) :=
    ⟨Ext.alloc _ _, hz1, OwL.nil _ _, rowIs_made' _ _ _ _ hz1.symm, OrdI.nil D⟩
  rw [hW1] at HST
  clear d wf hE
  go_enter Tryz.func54, Tryz.ntmps54
  go_wp2_with fail
  go_loopw [3] (fun s wr => ∃ A c L, s = .slice A (List.length L) c ∧ Hid (OrdM W1 wr (w.heap.size + 1) D A c L)) (fun s _ => D.nb - lenV s)
  case atStart => exact ⟨none, 0, [], rfl, by rw [hW1]; exact HST⟩
  case round =>
    obtain ⟨A, c, L, rfl, H⟩ := hrel
    have hl := H.out.inv.le
    obtain ⟨c0, c1, c2⟩ := HBD.out.ext H.out.ext
    have HC := Lib.hid (leastReady_any (c := D.nb) (HD.out.ext (HE.out.trans H.out.ext)) HWF.out (rb_of_row H.out.row))
    rcases fstI_cases D.nb (rdy D (inL L)) with ⟨hf, _⟩ | ⟨j, hj, hf, hr, _⟩
    · rw [hf] at HC
      have HF := Lib.hid (H.out.inv.fin hf)
      clear hf
      go_wp2_with (go_at_call 108; refine HC.out.mono ?_; rintro e w1 ⟨rfl, hb1⟩)
      go_ret
      exact ⟨A, c, by rw [HF.out]; rfl, by rw [HF.out]; exact (H.out.own.ext hb1).mono (by omega), HE.out.trans (H.out.ext.trans hb1)⟩
    · rw [hf] at HC
      have HF := Lib.hid hf
      have HR := Lib.hid hr
      have hroom := H.out.inv.room hj hr
      clear hf hr
      have hjl : (j : Int) < (D.nb : Int) := by omega
      go_wp2_with (first
        | (go_at_call 108; refine HC.out.mono ?_; rintro e w1 ⟨rfl, hb1⟩; have hsz1 := hb1.size; have hszr := H.out.ext.size)
        | (at_builtin; refine appL rfl _ _ rfl (w.heap.size + 1 + 1) A c L rfl (H.out.own.ext (hb1.trans (Ext.alloc _ _))) _ _ j rfl (by go_simp) (by omega) (by simp; omega) ?_; intro g cap w2 hown hgrow hat hlt; obtain ⟨q1, q2, q3⟩ := H.out.go hj HF.out HR.out (hb1.trans (Ext.alloc _ _)) hown hgrow; have Q3 := Lib.hid q3; clear q3 hown hgrow hat))
      go_roundw
      case rel => exact ⟨some ⟨g, 0, none⟩, cap, L ++ [j], by simp, Q3⟩
      case measure => simp [lenV]; omega

theorem mkL_t {n : Nat} {q : Nat → Bool} (h : q n = true) : mkL (n + 1) q = mkL n q ++ [n] := by show mkL n q ++ _ = _; rw [if_pos h]
theorem mkL_f {n : Nat} {q : Nat → Bool} (h : q n = false) : mkL (n + 1) q = mkL n q := by show mkL n q ++ _ = _; rw [if_neg (by rw [h]; decide), List.append_nil]
set_option maxRecDepth 100000 in
set_option maxHeartbeats 1000000 in
theorem delays_any {w : World} {D : Dia} {p : Pl} (d : Dm w D p) (hnb : D.nb ≤ 1000000) : Calls Tryz.prog 55 #[dgv D p] w (LsR (delL D) w) := by
  have HBD := Lib.hid (Bd.new w D p 26)
  obtain ⟨W1, hW1⟩ : ∃ W1, W1 = w.alloc (.cells #[.slice p.AI D.ni p.cI, .slice p.AB D.nb p.cB, .slice p.AO D.no p.cO] 26) := ⟨_, rfl⟩
  have hE : Ext w W1 := by rw [hW1]; exact Ext.alloc _ _
  have hz1 : W1.heap.size = w.heap.size + 1 := by rw [hW1]; simp
  rw [← hW1] at HBD
  have HD := Lib.hid d
  have HE := Lib.hid hE
  have HW1 := Lib.hid hW1
  have c012 := HBD.out
  rw [hW1] at c012
  obtain ⟨c0, c1, c2⟩ := c012
  clear d hE hW1
  go_enter Tryz.func55, Tryz.ntmps55
  go_wp2_with fail
  clear c0 c1 c2
  go_loopw [3, 8] (fun s t wr => ∃ A c j, j ≤ D.nb ∧ s = .slice A (mkL j (isD D)).length c ∧ t = I j ∧ Hid (OwL wr (w.heap.size + 1) A c (mkL j (isD D))) ∧ Hid (Ext W1 wr)) (fun _ t _ => D.nb - (intOf t).toNat)
  case atStart => exact ⟨none, 0, 0, Nat.zero_le _, rfl, rfl, OwL.nil _ _, by rw [HW1.out]; exact Ext.refl _⟩
  case round =>
    obtain ⟨A, c, j, hj, rfl, rfl, HO, HX⟩ := hrel
    by_cases hlt : j < D.nb
    · have hlen : (mkL j (isD D)).length ≤ j := by rw [mkL_len]; exact cnt_le _ _
      obtain ⟨c0, c1, c2⟩ := HBD.out.ext HX.out
      have HC := Lib.hid (isDelay_any (HD.out.ext (HE.out.trans HX.out)) j hlt)
      cases hq : isD D j with
      | false =>
        rw [hq] at HC
        have HM := Lib.hid (mkL_f hq)
        clear hq
        go_wp2_with (go_at_call 109; refine HC.out.mono ?_; rintro e w1 ⟨rfl, hb1⟩)
        go_roundw
        case rel => exact ⟨A, c, j + 1, by omega, by rw [HM.out], by go_num, by rw [HM.out]; exact HO.out.ext hb1, HX.out.trans hb1⟩
        case measure => simp [intOf]; omega
      | true =>
        rw [hq] at HC
        have HM := Lib.hid (mkL_t hq)
        clear hq
        have hszr := HX.out.size
        generalize mkL j (isD D) = L at *
        go_wp2_with (first
          | (go_at_call 109; refine HC.out.mono ?_; rintro e w1 ⟨rfl, hb1⟩; have hsz1 := hb1.size)
          | (at_builtin; refine appL rfl _ _ rfl (w.heap.size + 1) A c L rfl (HO.out.ext (hb1.trans (Ext.alloc _ _))) _ _ j rfl (by go_simp) (by omega) (by simp; omega) ?_; intro g cap w2 hown hgrow hat hlt; have G := Lib.hid (grow_ext (HX.out.trans (hb1.trans (Ext.alloc _ _))) (HO.out.ext (hb1.trans (Ext.alloc _ _))) (by omega) hgrow); have O2 := Lib.hid hown; clear hown hgrow hat))
        go_roundw
        case rel => exact ⟨some ⟨g, 0, none⟩, cap, j + 1, by omega, by rw [HM.out]; simp, by go_num, by rw [HM.out]; exact O2.out, G.out⟩
        case measure => simp [intOf]; omega
    · obtain rfl : j = D.nb := by omega
      go_wp2_with fail
      go_ret
      exact ⟨A, c, rfl, HO.out.mono (by omega), HE.out.trans HX.out⟩
end
end

end Go.Proofs.YtkocmdpfknoiaaaGreatDoor
