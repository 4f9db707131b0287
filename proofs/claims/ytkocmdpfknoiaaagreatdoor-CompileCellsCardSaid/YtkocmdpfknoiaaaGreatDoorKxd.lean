/- Programs of diagrams: the scalars that are kept, the clips, the source by the code. -/
import Derived.Test.YtkocmdpfknoiaaaGreatDoorKxc
import Derived.Test.YtkocmdpfknoiaaaGreatDoorDgsq
namespace Go.Proofs.YtkocmdpfknoiaaaGreatDoor
open Go Go.RowKit

/-! ### Scalars -/
/-- n scalars behind A: those that are kept of b. -/
def Rk (w : World) (A : Option Addr) (n : Nat) (b : Blk) : Prop :=
  0 < n → ∃ g o, A = some ⟨g, o, none⟩ ∧ g < w.heap.size ∧ ∀ j, j < n → w.cell? ⟨g, o + j * 2, none⟩ = some (I (kpM b j)) ∧ w.cell? ⟨g, o + j * 2 + 1, none⟩ = some (I (kpX b j))
theorem Rk.ext {w w' : World} {A : Option Addr} {n : Nat} {b : Blk} (h : Rk w A n b) (e : Ext w w') : Rk w' A n b := fun hn => by
  obtain ⟨g, o, rfl, hb, hc⟩ := h hn
  exact ⟨g, o, rfl, Nat.lt_of_lt_of_le hb e.size, fun j hj => ⟨(e.old.1 _ _ hb).trans (hc j hj).1, (e.old.1 _ _ hb).trans (hc j hj).2⟩⟩
def KpR (b : Blk) (w : World) (e : Ending) (w' : World) : Prop := ∃ A c, e = .returned (.slice A (kpN b.k) c) ∧ Rk w' A (kpN b.k) b ∧ (∀ g o, A = some ⟨g, o, none⟩ → w.heap.size ≤ g) ∧ Ext w w'
set_option maxRecDepth 100000 in
set_option maxHeartbeats 1000000 in
theorem kept_any (b : Blk) (A : Option Addr) (n c : Nat) (w : World) (h0 : 0 ≤ b.k) (h1 : b.k ≤ 11) : Calls Tryz.prog 133 #[bkv b.k A n c b.vn b.ve b.un b.ue] w (KpR b w) := by
  obtain ⟨k, an, aa, vn, ve, un, ue⟩ := b
  by_cases k1 : k = 1 ∨ k = 2
  · have hk : kpN k = 1 := by unfold kpN; rw [if_pos k1]
    unfold KpR
    rw [hk]
    rcases k1 with rfl | rfl
    all_goals
      clear hk h0 h1
      show Calls Tryz.prog 133 #[.agg #[I _, .slice A n c, I vn, I ve, I un, I ue]] w _
      go_enter Tryz.func133, Tryz.ntmps133
      go_wp2_with fail
      refine bodyPost_ret (v := .slice (some ⟨w.heap.size + 1, 0, none⟩) 1 1) (by simp [results, Tryz.results133, go_sem]) rfl ⟨_, _, rfl, fun _ => ⟨_, _, rfl, by simp, fun j hj => ?_⟩, fun g o e => (by injection e with e; injection e with e1 e2; omega), (Ext.alloc _ _).trans (Ext.alloc _ _)⟩
      obtain rfl : j = 0 := by omega
      exact ⟨by go_simp; rfl, by go_simp; rfl⟩
  · by_cases k11 : k = 11
    · subst k11
      unfold KpR
      show Calls Tryz.prog 133 #[.agg #[I 11, .slice A n c, I vn, I ve, I un, I ue]] w fun e w' => ∃ A c, e = .returned (.slice A 2 c) ∧ Rk w' A 2 _ ∧ (∀ g o, A = some ⟨g, o, none⟩ → w.heap.size ≤ g) ∧ Ext w w'
      clear k1 h0 h1
      go_enter Tryz.func133, Tryz.ntmps133
      go_wp2_with fail
      refine bodyPost_ret (v := .slice (some ⟨w.heap.size + 1, 0, none⟩) 2 2) (by simp [results, Tryz.results133, go_sem]) rfl ⟨_, _, rfl, fun _ => ⟨_, _, rfl, by simp, fun j hj => ?_⟩, fun g o e => (by injection e with e; injection e with e1 e2; omega), (Ext.alloc _ _).trans (Ext.alloc _ _)⟩
      have hj2 : j = 0 ∨ j = 1 := by omega
      rcases hj2 with rfl | rfl
      · exact ⟨by go_simp; rfl, by go_simp; rfl⟩
      · exact ⟨by go_simp; rfl, by go_simp; rfl⟩
    · have hk : kpN k = 0 := by unfold kpN; rw [if_neg k1, if_neg k11]
      have g1 : ¬ k = 1 := by omega
      have g2 : ¬ k = 2 := by omega
      unfold KpR
      show Calls Tryz.prog 133 #[.agg #[I k, .slice A n c, I vn, I ve, I un, I ue]] w fun e w' => ∃ A c, e = .returned (.slice A (kpN k) c) ∧ Rk w' A (kpN k) _ ∧ (∀ g o, A = some ⟨g, o, none⟩ → w.heap.size ≤ g) ∧ Ext w w'
      rw [hk]
      have q1 : (k == 1) = false := by simpa using g1
      have q2 : (k == 2) = false := by simpa using g2
      have q3 : (k == 11) = false := by simpa using k11
      clear hk k1 k11 g1 g2 h0 h1
      go_enter Tryz.func133, Tryz.ntmps133
      go_wp2_with fail
      refine bodyPost_ret (v := .slice none 0 0) (by simp [results, Tryz.results133, go_sem]) rfl ⟨_, _, rfl, fun h => absurd h (by omega), fun g o e => (by cases e), Ext.alloc _ _⟩
/-! ### Clips -/
set_option maxRecDepth 100000 in
set_option maxHeartbeats 1000000 in
theorem clipsOf_any {w : World} {D : Dia} {p : Pl} (d : Dm w D p) (hnb : D.nb ≤ 1000000) : Calls Tryz.prog 87 #[dgv D p] w (LsR (clpL D) w) := by
  have HBD := Lib.hid (Bd.new w D p 26)
  obtain ⟨W1, hW1⟩ : ∃ W1, W1 = w.alloc (.cells #[.slice p.AI D.ni p.cI, .slice p.AB D.nb p.cB, .slice p.AO D.no p.cO] 26) := ⟨_, rfl⟩
  have hE : Ext w W1 := by rw [hW1]; exact Ext.alloc _ _
  have hz1 : W1.heap.size = w.heap.size + 1 := by rw [hW1]; simp
  rw [← hW1] at HBD
  have HD := Lib.hid d
  have HE := Lib.hid hE
  have HW1 := Lib.hid hW1
  have c012 := HBD.out
  rw [hW1] at c012
  obtain ⟨c0, c1, c2⟩ := c012
  clear d hE hW1
  go_enter Tryz.func87, Tryz.ntmps87
  go_wp2_with fail
  clear c0 c1 c2
  go_loopw [3, 9] (fun s t wr => ∃ A c j, j ≤ D.nb ∧ s = .slice A (mkL j (isC D)).length c ∧ t = I j ∧ Hid (OwL wr (w.heap.size + 1) A c (mkL j (isC D))) ∧ Hid (Ext W1 wr)) (fun _ t _ => D.nb - (intOf t).toNat)
  case atStart => exact ⟨none, 0, 0, Nat.zero_le _, rfl, rfl, OwL.nil _ _, by rw [HW1.out]; exact Ext.refl _⟩
  case round =>
    obtain ⟨A, c, j, hj, rfl, rfl, HO, HX⟩ := hrel
    by_cases hlt : j < D.nb
    · have hlen : (mkL j (isC D)).length ≤ j := by rw [mkL_len]; exact cnt_le _ _
      obtain ⟨bb, oo, hb, hbb, hcb⟩ := (HD.out.ext (HE.out.trans HX.out)).blocks (by omega)
      obtain ⟨y0, y1, y2, y3, y4, y5⟩ := hcb j hlt
      have hlt' : (j : Int) < (D.nb : Int) := by omega
      have HB := Lib.hid hb
      clear hcb
      cases hq : isC D j with
      | false =>
        have hk : ((D.B j).k == 11) = false := hq
        have HM := Lib.hid (mkL_f hq)
        clear hq
        go_wp2_with fail
        (try rw [← HB.out])
        go_roundw
        case rel => exact ⟨A, c, j + 1, by omega, by rw [HM.out], by go_num, by rw [HM.out]; exact HO.out.ext (by repeat (first | exact Ext.refl _ | assumption | exact Ext.alloc _ _ | refine Ext.trans ?_ (by assumption) | refine Ext.trans ?_ (Ext.alloc _ _) | refine Ext.trans ?_ (Ext.drewN _ _) | refine Ext.trans ?_ (Ext.drew _))), HX.out.trans (by repeat (first | exact Ext.refl _ | assumption | exact Ext.alloc _ _ | refine Ext.trans ?_ (by assumption) | refine Ext.trans ?_ (Ext.alloc _ _) | refine Ext.trans ?_ (Ext.drewN _ _) | refine Ext.trans ?_ (Ext.drew _)))⟩
        case measure => simp [intOf]; omega
      | true =>
        have hk : (D.B j).k = 11 := by simpa [isC] using hq
        have HM := Lib.hid (mkL_t hq)
        clear hq
        have hszr := HX.out.size
        generalize mkL j (isC D) = L at *
        rw [hk] at y0
        go_wp2_with (at_builtin; refine appL rfl _ _ rfl (w.heap.size + 1) A c L rfl (HO.out.ext (by (with_reducible (repeat (first | exact Ext.refl _ | assumption | (refine Ext.toSet ?_ (by omega)) | refine Ext.toAlloc ?_ | refine Ext.toDrew ?_ | refine Ext.toDrewN ?_ | refine Ext.trans ?_ (by assumption)))); (first | done | fail "no"))) _ _ j rfl (by go_simp) (by omega) (by simp; omega) ?_; intro g cap w2 hown hgrow hat hlt; have G := Lib.hid (grow_ext (HX.out.trans (show Ext wr _ from (by (with_reducible (repeat (first | exact Ext.refl _ | assumption | (refine Ext.toSet ?_ (by omega)) | refine Ext.toAlloc ?_ | refine Ext.toDrew ?_ | refine Ext.toDrewN ?_ | refine Ext.trans ?_ (by assumption)))); (first | done | fail "no")))) (HO.out.ext (show Ext wr _ from (by (with_reducible (repeat (first | exact Ext.refl _ | assumption | (refine Ext.toSet ?_ (by omega)) | refine Ext.toAlloc ?_ | refine Ext.toDrew ?_ | refine Ext.toDrewN ?_ | refine Ext.trans ?_ (by assumption)))); (first | done | fail "no")))) (by omega) hgrow); have O2 := Lib.hid hown; clear hown hgrow hat)
        (try rw [← HB.out])
        go_roundw
        case rel => exact ⟨some ⟨g, 0, none⟩, cap, j + 1, by omega, by rw [HM.out]; simp, by go_num, by rw [HM.out]; exact O2.out, G.out⟩
        case measure => simp [intOf]; omega
    · obtain rfl : j = D.nb := by omega
      go_wp2_with fail
      go_ret
      exact ⟨A, c, rfl, HO.out.mono (by omega), HE.out.trans HX.out⟩
/-! ### The place of a number in a list -/
set_option maxRecDepth 100000 in
set_option maxHeartbeats 1000000 in
theorem indexZ_any {w : World} {A : Option Addr} {n c : Nat} {f : Nat → Int} {v : Int} (r : Ri w A n f) (hn : n ≤ maxLen) : Calls Tryz.prog 135 #[.slice A n c, I v] w fun e w' => e = .returned (I (fstI n (fun j => v == f j))) ∧ Ext w w' := by
  unfold maxLen at hn
  have HR := Lib.hid r; clear r
  go_enter Tryz.func135, Tryz.ntmps135
  go_wp2_with fail
  go_loopw [8] (fun s wr => ∃ j : Nat, j ≤ n ∧ s = I j ∧ Hid (Ext w wr ∧ ∀ i, i < j → (v == f i) = false)) (fun s _ => n - (intOf s).toNat)
  case atStart => exact ⟨0, Nat.zero_le _, rfl, Ext.refl _, fun i hi => by omega⟩
  case round =>
    obtain ⟨j, hj, rfl, H⟩ := hrel
    by_cases hlt : j < n
    · obtain ⟨b, o, ea, hbl, hc⟩ := (HR.out.ext H.out.1) (by omega)
      have EA := Lib.hid ea
      have xj := hc j hlt
      have hlt' : (j : Int) < (n : Int) := by omega
      clear hc
      cases hq : (v == f j) with
      | true =>
        have HV := Lib.hid (fstI_hit (q := fun j => v == f j) H.out.2 hlt hq)
        have hq' : v = f j := by simpa using hq
        go_wp2_with fail
        go_ret
        exact ⟨by rw [HV.out]; rfl, H.out.1⟩
      | false =>
        have HN : Hid (∀ i, i < j + 1 → (v == f i) = false) := fun i hi => by
          by_cases e : i = j
          · subst e; exact hq
          · exact H.out.2 i (by omega)
        have hq' : ¬ v = f j := by simpa using hq
        go_wp2_with fail
        (try rw [← EA.out])
        go_roundw
        case rel => exact ⟨j + 1, by omega, by go_num, H.out.1, HN.out⟩
        case measure => simp [intOf]; omega
    · obtain rfl : j = n := by omega
      have HV := Lib.hid (fstI_none (q := fun j => v == f j) H.out.2)
      go_wp2_with fail
      go_ret
      exact ⟨by rw [HV.out]; rfl, H.out.1⟩
end Go.Proofs.YtkocmdpfknoiaaaGreatDoor
