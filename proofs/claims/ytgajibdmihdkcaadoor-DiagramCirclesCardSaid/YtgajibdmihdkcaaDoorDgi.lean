/- Diagrams: Check, by the code. -/
import Derived.Test.YtgajibdmihdkcaaDoorDgh
namespace Go.Proofs.YtgajibdmihdkcaaDoor
open Go Go.RowKit

theorem prtE_3 {p : Prt} (h : prtE p ≠ 0) : prtE p = 3 := by
  unfold prtE at h ⊢
  split
  · rename_i q; rw [if_pos q] at h; exact absurd rfl h
  · rfl
section
variable {D : Dia}
theorem chk_large (h : 16 < D.ni ∨ 64 < D.nb ∨ 16 < D.no) : chk D = 4 := by unfold chk; rw [if_pos h]
theorem chk_port {j : Nat} (h0 : ¬ (16 < D.ni ∨ 64 < D.nb ∨ 16 < D.no)) (h : ∀ i, i < j → prtE (D.P i) = 0) (hj : j < D.ni) (he : prtE (D.P j) ≠ 0) : chk D = 3 := by
  unfold chk
  have := fstE_hit (f := fun i => prtE (D.P i)) h hj he
  rw [if_neg h0, this, if_pos he, prtE_3 he]
theorem chk_blk {j : Nat} (h0 : ¬ (16 < D.ni ∨ 64 < D.nb ∨ 16 < D.no)) (h1 : ∀ i, i < D.ni → prtE (D.P i) = 0) (h : ∀ i, i < j → blkE D (D.B i) = 0) (hj : j < D.nb) (he : blkE D (D.B j) ≠ 0) : chk D = blkE D (D.B j) := by
  unfold chk
  have := fstE_hit (f := fun i => blkE D (D.B i)) h hj he
  have h2 := fstE_none (f := fun i => prtE (D.P i)) h1
  rw [if_neg h0, if_neg (by rw [h2]; decide), this, if_pos he]
theorem chk_out (h0 : ¬ (16 < D.ni ∨ 64 < D.nb ∨ 16 < D.no)) (h1 : ∀ i, i < D.ni → prtE (D.P i) = 0) (h2 : ∀ i, i < D.nb → blkE D (D.B i) = 0) (he : fstE D.no (fun i => inE D.nb (D.O i)) ≠ 0) : chk D = 10 := by
  unfold chk
  have h3 := fstE_none (f := fun i => prtE (D.P i)) h1
  have h4 := fstE_none (f := fun i => blkE D (D.B i)) h2
  rw [if_neg h0, if_neg (by rw [h3]; decide), if_neg (by rw [h4]; decide), if_pos he, idx_10 he]
theorem chk_cyc (h0 : ¬ (16 < D.ni ∨ 64 < D.nb ∨ 16 < D.no)) (h1 : ∀ i, i < D.ni → prtE (D.P i) = 0) (h2 : ∀ i, i < D.nb → blkE D (D.B i) = 0) (he : fstE D.no (fun i => inE D.nb (D.O i)) = 0) :
    chk D = if (ordL D).length + (delL D).length < D.nb then 24 else 0 := by
  unfold chk
  have h3 := fstE_none (f := fun i => prtE (D.P i)) h1
  have h4 := fstE_none (f := fun i => blkE D (D.B i)) h2
  rw [if_neg h0, if_neg (by rw [h3]; decide), if_neg (by rw [h4]; decide), if_neg (by rw [he]; decide)]
theorem wf_of (h0 : ¬ (16 < D.ni ∨ 64 < D.nb ∨ 16 < D.no)) (h2 : ∀ i, i < D.nb → blkE D (D.B i) = 0) : WF D := chk_wf (by omega) (by omega) (by omega) (fstE_none (f := fun i => blkE D (D.B i)) h2)
end
theorem ord_le (D : Dia) : (ordL D).length ≤ D.nb := (ord_end D).1.le
theorem del_le (D : Dia) : (delL D).length ≤ D.nb := by unfold delL; rw [mkL_len]; exact cnt_le _ _

set_option maxRecDepth 100000 in
set_option maxHeartbeats 1000000 in
theorem check_large {w : World} {D : Dia} {p : Pl} (h : 16 < D.ni ∨ 64 < D.nb ∨ 16 < D.no) (l1 : D.ni ≤ maxLen) (l2 : D.nb ≤ maxLen) (l3 : D.no ≤ maxLen) : Calls Tryd.prog 15 #[dgv D p] w fun e w' => e = .returned (.iface 46 (I 4)) ∧ Ext w w' := by
  unfold maxLen at l1 l2 l3
  by_cases h1 : 16 < D.ni
  · have h1' : (16 : Int) < (D.ni : Int) := by omega
    clear h
    go_enter Tryd.func15, Tryd.ntmps15
    go_wp2_with fail
    go_ret
    exact ⟨rfl, (by repeat (first | exact Ext.refl _ | assumption | exact Ext.alloc _ _ | refine Ext.trans ?_ (by assumption) | refine Ext.trans ?_ (Ext.alloc _ _) | refine Ext.trans ?_ (Ext.drewN _ _) | refine Ext.trans ?_ (Ext.drew _)))⟩
  · have h1' : ¬ (16 : Int) < (D.ni : Int) := by omega
    by_cases h2 : 64 < D.nb
    · have h2' : (64 : Int) < (D.nb : Int) := by omega
      clear h
      go_enter Tryd.func15, Tryd.ntmps15
      go_wp2_with fail
      go_ret
      exact ⟨rfl, (by repeat (first | exact Ext.refl _ | assumption | exact Ext.alloc _ _ | refine Ext.trans ?_ (by assumption) | refine Ext.trans ?_ (Ext.alloc _ _) | refine Ext.trans ?_ (Ext.drewN _ _) | refine Ext.trans ?_ (Ext.drew _)))⟩
    · have h2' : ¬ (64 : Int) < (D.nb : Int) := by omega
      have h3' : (16 : Int) < (D.no : Int) := by omega
      clear h
      go_enter Tryd.func15, Tryd.ntmps15
      go_wp2_with fail
      go_ret
      exact ⟨rfl, (by repeat (first | exact Ext.refl _ | assumption | exact Ext.alloc _ _ | refine Ext.trans ?_ (by assumption) | refine Ext.trans ?_ (Ext.alloc _ _) | refine Ext.trans ?_ (Ext.drewN _ _) | refine Ext.trans ?_ (Ext.drew _)))⟩

set_option maxRecDepth 100000 in
set_option maxHeartbeats 1000000 in
theorem check_in {w : World} {D : Dia} {p : Pl} (d : Dm w D p) (hT : Tabs w) (h0 : ¬ (16 < D.ni ∨ 64 < D.nb ∨ 16 < D.no)) : Calls Tryd.prog 15 #[dgv D p] w fun e w' => e = .returned (errv (chk D)) ∧ Ext w w' := by
  have n1 : D.ni ≤ 16 := by omega
  have n2 : D.nb ≤ 64 := by omega
  have n3 : D.no ≤ 16 := by omega
  have H0 := Lib.hid h0
  have m1 : ¬ (16 : Int) < (D.ni : Int) := by omega
  have m2 : ¬ (64 : Int) < (D.nb : Int) := by omega
  have m3 : ¬ (16 : Int) < (D.no : Int) := by omega
  clear h0
  have HBD := Lib.hid (Bd.new w D p 26)
  obtain ⟨W1, hW1⟩ : ∃ W1, W1 = w.alloc (.cells #[.slice p.AI D.ni p.cI, .slice p.AB D.nb p.cB, .slice p.AO D.no p.cO] 26) := ⟨_, rfl⟩
  have hE : Ext w W1 := by rw [hW1]; exact Ext.alloc _ _
  have hz1 : W1.heap.size = w.heap.size + 1 := by rw [hW1]; simp
  rw [← hW1] at HBD
  have HD := Lib.hid d
  have HT := Lib.hid hT
  have HE := Lib.hid hE
  have HW1 := Lib.hid hW1
  have c012 := HBD.out
  rw [hW1] at c012
  obtain ⟨c0, c1, c2⟩ := c012
  clear d hE hW1 hT
  go_enter Tryd.func15, Tryd.ntmps15
  go_wp2_with fail
  clear c0 c1 c2
  go_loopw [28] (fun s wr => ∃ j : Nat, j ≤ D.ni ∧ s = I j ∧ Hid (Ext W1 wr) ∧ Hid (∀ i, i < j → prtE (D.P i) = 0)) (fun s _ => D.ni - (intOf s).toNat)
  case atStart => exact ⟨0, Nat.zero_le _, rfl, by rw [HW1.out]; exact Ext.refl _, fun i hi => absurd hi (by omega)⟩
  case round =>
    obtain ⟨j, hj, rfl, HX, HG⟩ := hrel
    by_cases hlt : j < D.ni
    · obtain ⟨b, o, ha, hba, hc⟩ := (HD.out.ext (HE.out.trans HX.out)).ports (by omega)
      obtain ⟨x0, x1, x2⟩ := hc j hlt
      have HP := Lib.hid (isPort_any (D.P j))
      clear hc
      have hlt' : (j : Int) < (D.ni : Int) := by omega
      by_cases hq : prtE (D.P j) = 0
      · have HG2 : Hid (∀ i, i < j + 1 → prtE (D.P i) = 0) := fun i hi => by
          by_cases h : i = j
          · subst h; exact hq
          · exact HG.out i (by omega)
        rw [show (prtE (D.P j) == 0) = true by simpa using hq] at HP
        clear hq
        go_wp2_with (go_at_call 33; (with_reducible refine (HP.out _).mono ?_); rintro e w1 ⟨rfl, hb1⟩)
        rw [← ha]
        go_roundw
        case rel => exact ⟨j + 1, by omega, by go_num, HX.out.trans ((Ext.alloc _ _).trans hb1), HG2⟩
        case measure => simp [intOf]; omega
      · have HC := Lib.hid (chk_port H0.out HG.out hlt hq)
        rw [show (prtE (D.P j) == 0) = false by simpa using hq] at HP
        clear hq
        go_wp2_with (go_at_call 33; (with_reducible refine (HP.out _).mono ?_); rintro e w1 ⟨rfl, hb1⟩)
        go_ret
        exact ⟨by rw [HC.out]; rfl, HE.out.trans (HX.out.trans ((Ext.alloc _ _).trans hb1))⟩
    · obtain rfl : j = D.ni := by omega
      have HXa := HX
      have HPo := HG
      clear HX HG
      obtain ⟨c0, c1, c2⟩ := HBD.out.ext HXa.out
      go_wp2_with fail
      clear c0 c1 c2
      go_loopw [40] (fun s wr => ∃ j : Nat, j ≤ D.nb ∧ s = I j ∧ Hid (Ext W1 wr) ∧ Hid (∀ i, i < j → blkE D (D.B i) = 0)) (fun s _ => D.nb - (intOf s).toNat)
      case atStart => exact ⟨0, Nat.zero_le _, rfl, HXa, fun i hi => absurd hi (by omega)⟩
      case round =>
        obtain ⟨j, hj, rfl, HX, HG⟩ := hrel
        by_cases hlt : j < D.nb
        · have dd := HD.out.ext (HE.out.trans HX.out)
          obtain ⟨b, o, ha, hba, hc⟩ := dd.blocks (by omega)
          obtain ⟨x0, x1, x2, x3, x4, x5⟩ := hc j hlt
          have HB : Hid (∀ w', Ext wr w' → Calls Tryd.prog 34 #[.agg #[.slice p.AI D.ni p.cI, .slice (some ⟨b, o, none⟩) D.nb p.cB, .slice p.AO D.no p.cO], bkv (D.B j).k (p.AA j) (D.B j).n (p.cA j) (D.B j).vn (D.B j).ve (D.B j).un (D.B j).ue] w' fun e w'' => e = .returned (errv (blkE D (D.B j))) ∧ Ext w' w'') :=
            fun w' e => by rw [← ha]; exact checkBlock_any (p := p) (HT.out.ext (HE.out.trans (HX.out.trans e))) ((dd.ext e).args j hlt).1 ((dd.ext e).args j hlt).2
          have hsz := HX.out.size
          obtain ⟨c0, c1, c2⟩ := HBD.out.ext HX.out
          have hz2 : w.heap.size < wr.heap.size := by omega
          clear hc dd
          have hlt' : (j : Int) < (D.nb : Int) := by omega
          by_cases hq : blkE D (D.B j) = 0
          · have HG2 : Hid (∀ i, i < j + 1 → blkE D (D.B i) = 0) := fun i hi => by
              by_cases h : i = j
              · subst h; exact hq
              · exact HG.out i (by omega)
            rw [hq, errv_z] at HB
            clear hq
            go_wp2_with (go_at_call 34; (with_reducible refine (HB.out _ (Ext.alloc _ _)).mono ?_); rintro e w1 ⟨rfl, hb1⟩)
            rw [← ha]
            go_roundw
            case rel => exact ⟨j + 1, by omega, by go_num, HX.out.trans ((Ext.alloc _ _).trans hb1), HG2⟩
            case measure => simp [intOf]; omega
          · have HC := Lib.hid (chk_blk H0.out HPo.out HG.out hlt hq)
            rw [errv_n hq] at HB
            have HC2 := Lib.hid (errv_n (k := chk D) (by rw [HC.out]; exact hq))
            clear hq
            generalize blkE D (D.B j) = eb at *
            go_wp2_with (go_at_call 34; (with_reducible refine (HB.out _ (Ext.alloc _ _)).mono ?_); rintro e w1 ⟨rfl, hb1⟩)
            go_ret
            exact ⟨by rw [HC2.out, HC.out]; rfl, HE.out.trans (HX.out.trans ((Ext.alloc _ _).trans hb1))⟩
        · obtain rfl : j = D.nb := by omega
          have HXb := HX
          have HBl := HG
          clear HX HG HXa
          obtain ⟨c0, c1, c2⟩ := HBD.out.ext HXb.out
          have HWF := Lib.hid (wf_of H0.out HBl.out)
          have HAI := Lib.hid (areIndices_any (c := p.cO) (D.nb : Int) (HD.out.ext (HE.out.trans HXb.out)).outs (HD.out.lo))
          by_cases hq : fstE D.no (fun i => inE D.nb (D.O i)) = 0
          · have HC := Lib.hid (chk_cyc H0.out HPo.out HBl.out hq)
            rw [show (fstE D.no (fun i => inE D.nb (D.O i)) == 0) = true by simpa using hq] at HAI
            clear hq
            have ho := ord_le D
            have hd := del_le D
            have HO : Hid (∀ w', Ext W1 w' → Calls Tryd.prog 36 #[dgv D p] w' (LsR (ordL D) w')) := fun w' e => order_any (HD.out.ext (HE.out.trans e)) HWF.out
            have HL : Hid (∀ w', Ext W1 w' → Calls Tryd.prog 37 #[dgv D p] w' (LsR (delL D) w')) := fun w' e => delays_any (HD.out.ext (HE.out.trans e)) (by omega)
            generalize ordL D = L1 at *
            generalize delL D = L2 at *
            go_upto_region 18 with (go_at_call 35; (with_reducible refine HAI.out.mono ?_); rintro e w1 ⟨rfl, hb1⟩)
            have HX1 := Lib.hid (HXb.out.trans hb1)
            have HS : Hid (∀ w', Ext w1 w' → w'.cell? ⟨w.heap.size, 0, none⟩ = some (.slice p.AI D.ni p.cI) ∧ w'.cell? ⟨w.heap.size, 1, none⟩ = some (.slice p.AB D.nb p.cB) ∧ w'.cell? ⟨w.heap.size, 2, none⟩ = some (.slice p.AO D.no p.cO)) := fun w' e => by
              obtain ⟨c0, c1, c2⟩ := HBD.out.ext (HX1.out.trans e)
              exact ⟨c0, c1, c2⟩
            clear c0 c1 c2 hb1
            obtain ⟨c0, c1, c2⟩ := HS.out _ (Ext.refl _)
            have hwr : IntKind.i64.wrap ((L1.length : Int) + (L2.length : Int)) = (L1.length : Int) + (L2.length : Int) := IntWalk.i64_in _ (by omega)
            by_cases hcy : L1.length + L2.length < D.nb
            all_goals
              (first | rw [if_pos hcy] at HC | rw [if_neg hcy] at HC)
              (first | (have hcz : (L1.length : Int) + (L2.length : Int) < (D.nb : Int) := by omega) | (have hcz : ¬ (L1.length : Int) + (L2.length : Int) < (D.nb : Int) := by omega))
              go_region_held3 (fun w' => w'.cell? ⟨w.heap.size, 0, none⟩ = some (.slice p.AI D.ni p.cI) ∧ w'.cell? ⟨w.heap.size, 1, none⟩ = some (.slice p.AB D.nb p.cB) ∧ w'.cell? ⟨w.heap.size, 2, none⟩ = some (.slice p.AO D.no p.cO)) (first | with_reducible assumption | exact HS.out _ (by (with_reducible (repeat (first | exact Ext.refl _ | assumption | (refine Ext.toSet ?_ (by omega)) | refine Ext.toAlloc ?_ | refine Ext.toDrew ?_ | refine Ext.toDrewN ?_ | refine Ext.trans ?_ (by assumption)))); (first | done | fail "no")))
                (first
                  | (go_at_call 36; (with_reducible refine (HO.out _ (HX1.out.trans (by (with_reducible (repeat (first | exact Ext.refl _ | assumption | (refine Ext.toSet ?_ (by omega)) | refine Ext.toAlloc ?_ | refine Ext.toDrew ?_ | refine Ext.toDrewN ?_ | refine Ext.trans ?_ (by assumption)))); (first | done | fail "no")))).mono ?_); rintro e5 w5 ⟨A5, k5, rfl, _, hx5⟩; obtain ⟨q0, q1, q2⟩ := HS.out w5 (by (with_reducible (repeat (first | exact Ext.refl _ | assumption | (refine Ext.toSet ?_ (by omega)) | refine Ext.toAlloc ?_ | refine Ext.toDrew ?_ | refine Ext.toDrewN ?_ | refine Ext.trans ?_ (by assumption)))); (first | done | fail "no")))
                  | (go_at_call 37; (with_reducible refine (HL.out _ (HX1.out.trans (by (with_reducible (repeat (first | exact Ext.refl _ | assumption | (refine Ext.toSet ?_ (by omega)) | refine Ext.toAlloc ?_ | refine Ext.toDrew ?_ | refine Ext.toDrewN ?_ | refine Ext.trans ?_ (by assumption)))); (first | done | fail "no")))).mono ?_); rintro e6 w6 ⟨A6, k6, rfl, _, hx6⟩; obtain ⟨p0, p1, p2⟩ := HS.out w6 (by (with_reducible (repeat (first | exact Ext.refl _ | assumption | (refine Ext.toSet ?_ (by omega)) | refine Ext.toAlloc ?_ | refine Ext.toDrew ?_ | refine Ext.toDrewN ?_ | refine Ext.trans ?_ (by assumption)))); (first | done | fail "no"))))
              all_goals
                go_wp2_with fail
                go_ret
                exact ⟨by rw [HC.out]; rfl, HE.out.trans (HX1.out.trans (by (with_reducible (repeat (first | exact Ext.refl _ | assumption | (refine Ext.toSet ?_ (by omega)) | refine Ext.toAlloc ?_ | refine Ext.toDrew ?_ | refine Ext.toDrewN ?_ | refine Ext.trans ?_ (by assumption)))); (first | done | fail "no")))⟩
          · have HC := Lib.hid (chk_out H0.out HPo.out HBl.out hq)
            rw [show (fstE D.no (fun i => inE D.nb (D.O i)) == 0) = false by simpa using hq] at HAI
            clear hq
            go_wp2_with (go_at_call 35; (with_reducible refine HAI.out.mono ?_); rintro e w1 ⟨rfl, hb1⟩)
            go_ret
            exact ⟨by rw [HC.out]; rfl, HE.out.trans (HXb.out.trans hb1)⟩
theorem check_any {w : World} {D : Dia} {p : Pl} (d : Dm w D p) (hT : Tabs w) : Calls Tryd.prog 15 #[dgv D p] w fun e w' => e = .returned (errv (chk D)) ∧ Ext w w' := by
  by_cases h : 16 < D.ni ∨ 64 < D.nb ∨ 16 < D.no
  · rw [chk_large h]; exact check_large h d.li d.lb d.lo
  · exact check_in d hT h
end Go.Proofs.YtgajibdmihdkcaaDoor
