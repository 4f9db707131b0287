/- The fixed-point machine: Check and checkData by the code. -/
import Derived.Test.YtkocmdpfknoiaaaGreatDoorKdd
namespace Go.Proofs.YtkocmdpfknoiaaaGreatDoor
open Go Go.RowKit
section
variable {G : Pgm}
theorem chP_large (h : 16 < G.np ∨ 192 < G.nc ∨ 256 < G.ni ∨ 16 < G.no) : chP G = 4 := by unfold chP; rw [if_pos h]
theorem chP_port {j : Nat} (h0 : ¬ (16 < G.np ∨ 192 < G.nc ∨ 256 < G.ni ∨ 16 < G.no)) (hj : j < G.np) (he : prtE (G.P j) ≠ 0) : chP G = 3 := by
  unfold chP; rw [if_neg h0, if_pos (fun h => he (fstE_zero (f := fun i => prtE (G.P i)) h j hj))]
theorem chP_word (h0 : ¬ (16 < G.np ∨ 192 < G.nc ∨ 256 < G.ni ∨ 16 < G.no)) (h1 : ∀ i, i < G.np → prtE (G.P i) = 0) (he : wdE G.nc G.C ≠ 0) : chP G = 3 := by
  unfold chP; rw [if_neg h0, if_neg (by rw [fstE_none h1]; simp), if_pos he]
theorem chP_ins {j : Nat} (h0 : ¬ (16 < G.np ∨ 192 < G.nc ∨ 256 < G.ni ∨ 16 < G.no)) (h1 : ∀ i, i < G.np → prtE (G.P i) = 0) (h2 : wdE G.nc G.C = 0) (h : ∀ i, i < j → insE G.np G.nc (G.X i) = 0) (hj : j < G.ni) (he : insE G.np G.nc (G.X j) ≠ 0) : chP G = insE G.np G.nc (G.X j) := by
  unfold chP; rw [if_neg h0, if_neg (by rw [fstE_none h1]; simp), if_neg (by omega), fstE_hit (f := fun i => insE G.np G.nc (G.X i)) h hj he, if_pos he]
theorem chP_out (h0 : ¬ (16 < G.np ∨ 192 < G.nc ∨ 256 < G.ni ∨ 16 < G.no)) (h1 : ∀ i, i < G.np → prtE (G.P i) = 0) (h2 : wdE G.nc G.C = 0) (h3 : ∀ i, i < G.ni → insE G.np G.nc (G.X i) = 0) : chP G = fstE G.no (fun i => inE G.nc (G.O i)) := by
  unfold chP; rw [if_neg h0, if_neg (by rw [fstE_none h1]; simp), if_neg (by omega), if_neg (by rw [fstE_none h3]; simp)]
theorem out_10 {j : Nat} (hj : j < G.no) (h : ∀ i, i < j → ixB G.nc (G.O i) = true) (he : ixB G.nc (G.O j) = false) : fstE G.no (fun i => inE G.nc (G.O i)) = 10 := by
  have hn : inE G.nc (G.O j) = 10 := by
    unfold inE; rw [if_neg]; intro hh; rw [ixB_iff.2 hh] at he; cases he
  rw [fstE_hit (f := fun i => inE G.nc (G.O i)) (j := j) (fun i hi => inE_ix.2 (h i hi)) hj (by rw [hn]; omega), hn]
end

set_option maxRecDepth 100000 in
set_option maxHeartbeats 1000000 in
theorem Check_large {w : World} {G : Pgm} {p : Pp} (h : 16 < G.np ∨ 192 < G.nc ∨ 256 < G.ni ∨ 16 < G.no) (l1 : G.np ≤ maxLen) (l2 : G.nc ≤ maxLen) (l3 : G.ni ≤ maxLen) (l4 : G.no ≤ maxLen) : Calls Tryz.prog 14 #[pgv G p] w fun e w' => e = .returned (.iface 94 (I 4)) ∧ Ext w w' := by
  unfold maxLen at l1 l2 l3 l4
  by_cases h1 : 16 < G.np
  · have h1' : (16 : Int) < (G.np : Int) := by omega
    clear h
    go_enter Tryz.func14, Tryz.ntmps14
    go_wp2_with fail
    go_ret
    exact ⟨rfl, (by repeat (first | exact Ext.refl _ | assumption | exact Ext.alloc _ _ | refine Ext.trans ?_ (by assumption) | refine Ext.trans ?_ (Ext.alloc _ _) | refine Ext.trans ?_ (Ext.drewN _ _) | refine Ext.trans ?_ (Ext.drew _)))⟩
  · have h1' : ¬ (16 : Int) < (G.np : Int) := by omega
    by_cases h2 : 192 < G.nc
    · have h2' : (192 : Int) < (G.nc : Int) := by omega
      clear h
      go_enter Tryz.func14, Tryz.ntmps14
      go_wp2_with fail
      go_ret
      exact ⟨rfl, (by repeat (first | exact Ext.refl _ | assumption | exact Ext.alloc _ _ | refine Ext.trans ?_ (by assumption) | refine Ext.trans ?_ (Ext.alloc _ _) | refine Ext.trans ?_ (Ext.drewN _ _) | refine Ext.trans ?_ (Ext.drew _)))⟩
    · have h2' : ¬ (192 : Int) < (G.nc : Int) := by omega
      by_cases h3 : 256 < G.ni
      · have h3' : (256 : Int) < (G.ni : Int) := by omega
        clear h
        go_enter Tryz.func14, Tryz.ntmps14
        go_wp2_with fail
        go_ret
        exact ⟨rfl, (by repeat (first | exact Ext.refl _ | assumption | exact Ext.alloc _ _ | refine Ext.trans ?_ (by assumption) | refine Ext.trans ?_ (Ext.alloc _ _) | refine Ext.trans ?_ (Ext.drewN _ _) | refine Ext.trans ?_ (Ext.drew _)))⟩
      · have h3' : ¬ (256 : Int) < (G.ni : Int) := by omega
        have h4' : (16 : Int) < (G.no : Int) := by omega
        clear h
        go_enter Tryz.func14, Tryz.ntmps14
        go_wp2_with fail
        go_ret
        exact ⟨rfl, (by repeat (first | exact Ext.refl _ | assumption | exact Ext.alloc _ _ | refine Ext.trans ?_ (by assumption) | refine Ext.trans ?_ (Ext.alloc _ _) | refine Ext.trans ?_ (Ext.drewN _ _) | refine Ext.trans ?_ (Ext.drew _)))⟩

set_option maxRecDepth 100000 in
set_option maxHeartbeats 1000000 in
theorem Check_in {w : World} {G : Pgm} {p : Pp} (d : Pm w G p) (h0 : ¬ (16 < G.np ∨ 192 < G.nc ∨ 256 < G.ni ∨ 16 < G.no)) : Calls Tryz.prog 14 #[pgv G p] w fun e w' => e = .returned (errv (chP G)) ∧ Ext w w' := by
  have n1 : G.np ≤ 16 := by omega
  have n2 : G.nc ≤ 192 := by omega
  have n3 : G.ni ≤ 256 := by omega
  have n4 : G.no ≤ 16 := by omega
  have H0 := Lib.hid h0
  have m1 : ¬ (16 : Int) < (G.np : Int) := by omega
  have m2 : ¬ (192 : Int) < (G.nc : Int) := by omega
  have m3 : ¬ (256 : Int) < (G.ni : Int) := by omega
  have m4 : ¬ (16 : Int) < (G.no : Int) := by omega
  clear h0
  have HBD := Lib.hid (Px.new w G p 31)
  obtain ⟨W1, hW1⟩ : ∃ W1, W1 = w.alloc (.cells #[.slice p.AP G.np p.cP, .slice p.AC G.nc p.cC, .slice p.AX G.ni p.cX, .slice p.AO G.no p.cO] 31) := ⟨_, rfl⟩
  have hE : Ext w W1 := by rw [hW1]; exact Ext.alloc _ _
  have hz1 : W1.heap.size = w.heap.size + 1 := by rw [hW1]; simp
  rw [← hW1] at HBD
  have HD := Lib.hid d
  have HE := Lib.hid hE
  clear d hE
  have HLP : G.np ≤ 2 ^ 63 - 1 := HD.out.lp
  have HLX : G.ni ≤ 2 ^ 63 - 1 := HD.out.lx
  have HLO : G.no ≤ 2 ^ 63 - 1 := HD.out.lo
  obtain ⟨c0, c1, c2, c3⟩ := HBD.out
  go_enter Tryz.func14, Tryz.ntmps14
  go_upto_region 1 with fail
  rw [← hW1]; clear hW1
  go_wp2_with fail
  clear c0 c1 c2 c3
  go_loopw [36] (fun s wr => ∃ j : Nat, j ≤ G.np ∧ s = I j ∧ Hid (Ext W1 wr) ∧ Hid (∀ i, i < j → prtE (G.P i) = 0)) (fun s _ => G.np - (intOf s).toNat)
  case atStart => exact ⟨0, Nat.zero_le _, rfl, Ext.refl _, fun i hi => absurd hi (by omega)⟩
  case round =>
    obtain ⟨j, hj, rfl, HX, HG⟩ := hrel
    by_cases hlt : j < G.np
    · obtain ⟨b, o, ha, hba, hc⟩ := (HD.out.ext (HE.out.trans HX.out)).ports (by omega)
      obtain ⟨x0, x1, x2⟩ := hc j hlt
      have HP := Lib.hid (isPortP_any (G.P j))
      clear hc
      have hlt' : (j : Int) < (G.np : Int) := by omega
      by_cases hq : prtE (G.P j) = 0
      · have HG2 : Hid (∀ i, i < j + 1 → prtE (G.P i) = 0) := fun i hi => by
          by_cases h : i = j
          · subst h; exact hq
          · exact HG.out i (by omega)
        rw [show (prtE (G.P j) == 0) = true by simpa using hq] at HP
        clear hq
        go_wp2_with (go_at_call 47; (with_reducible refine (HP.out _).mono ?_); rintro e w1 ⟨rfl, hb1⟩)
        rw [← ha]
        go_roundw
        case rel => exact ⟨j + 1, by omega, by go_num, HX.out.trans ((Ext.alloc _ _).trans hb1), HG2⟩
        case measure => simp [intOf]; omega
      · have HC := Lib.hid (chP_port H0.out hlt hq)
        rw [show (prtE (G.P j) == 0) = false by simpa using hq] at HP
        clear hq
        go_wp2_with (go_at_call 47; (with_reducible refine (HP.out _).mono ?_); rintro e w1 ⟨rfl, hb1⟩)
        go_ret
        exact ⟨by rw [HC.out]; rfl, HE.out.trans (HX.out.trans ((Ext.alloc _ _).trans hb1))⟩
    · obtain rfl : j = G.np := by omega
      have HXa := HX
      have HPo := HG
      clear HX HG
      obtain ⟨c0, c1, c2, c3⟩ := HBD.out.ext HXa.out
      have HAW := Lib.hid (areWords_any (c := p.cC) (HD.out.ext (HE.out.trans HXa.out)).init HD.out.lc)
      by_cases hq : wdE G.nc G.C = 0
      · have HWD := Lib.hid hq
        rw [show (wdE G.nc G.C == 0) = true by simpa using hq] at HAW
        clear hq
        go_upto_region 11 with (go_at_call 48; (with_reducible refine HAW.out.mono ?_); rintro e w1 ⟨rfl, hb1⟩)
        have HXc := Lib.hid (HXa.out.trans hb1)
        clear HAW hb1 c0 c1 c2 c3 HXa
        obtain ⟨c0, c1, c2, c3⟩ := HBD.out.ext HXc.out
        go_wp2_with fail
        clear c0 c1 c2 c3
        go_loopw [53] (fun s wr => ∃ j : Nat, j ≤ G.ni ∧ s = I j ∧ Hid (Ext W1 wr) ∧ Hid (∀ i, i < j → insE G.np G.nc (G.X i) = 0)) (fun s _ => G.ni - (intOf s).toNat)
        case atStart => exact ⟨0, Nat.zero_le _, rfl, HXc, fun i hi => absurd hi (by omega)⟩
        case round =>
          obtain ⟨j, hj, rfl, HX, HG⟩ := hrel
          by_cases hlt : j < G.ni
          · have dd := HD.out.ext (HE.out.trans HX.out)
            obtain ⟨b, o, ha, hba, hc⟩ := dd.code (by omega)
            obtain ⟨x0, x1, x2, x3, x4, x5, x6⟩ := hc j hlt
            have HB : Hid (∀ w', Calls Tryz.prog 49 #[.agg #[.slice p.AP G.np p.cP, .slice p.AC G.nc p.cC, .slice (some ⟨b, o, none⟩) G.ni p.cX, .slice p.AO G.no p.cO], insV (G.X j)] w' fun e w'' => e = .returned (errv (insE G.np G.nc (G.X j))) ∧ Ext w' w'') :=
              fun w' => by rw [← ha]; exact checkInstr_any (p := p)
            have hsz := HX.out.size
            obtain ⟨c0, c1, c2, c3⟩ := HBD.out.ext HX.out
            have hz2 : w.heap.size < wr.heap.size := by omega
            clear hc dd
            have hlt' : (j : Int) < (G.ni : Int) := by omega
            by_cases hq : insE G.np G.nc (G.X j) = 0
            · have HG2 : Hid (∀ i, i < j + 1 → insE G.np G.nc (G.X i) = 0) := fun i hi => by
                by_cases h : i = j
                · subst h; exact hq
                · exact HG.out i (by omega)
              rw [hq, errv_z] at HB
              clear hq
              go_wp2_with (go_at_call 49; (with_reducible refine (HB.out _).mono ?_); rintro e w1 ⟨rfl, hb1⟩)
              rw [← ha]
              go_roundw
              case rel => exact ⟨j + 1, by omega, by go_num, HX.out.trans ((Ext.alloc _ _).trans hb1), HG2⟩
              case measure => simp [intOf]; omega
            · have HC := Lib.hid (chP_ins H0.out HPo.out HWD.out HG.out hlt hq)
              rw [errv_n hq] at HB
              have HC2 := Lib.hid (errv_n (k := chP G) (by rw [HC.out]; exact hq))
              clear hq
              generalize insE G.np G.nc (G.X j) = eb at *
              go_wp2_with (go_at_call 49; (with_reducible refine (HB.out _).mono ?_); rintro e w1 ⟨rfl, hb1⟩)
              go_ret
              exact ⟨by rw [HC2.out, HC.out]; rfl, HE.out.trans (HX.out.trans ((Ext.alloc _ _).trans hb1))⟩
          · obtain rfl : j = G.ni := by omega
            have HXb := HX
            have HC := Lib.hid (chP_out H0.out HPo.out HWD.out HG.out)
            clear HX HG HXc
            obtain ⟨c0, c1, c2, c3⟩ := HBD.out.ext HXb.out
            go_wp2_with fail
            clear c0 c1 c2 c3
            go_loopw [67] (fun s wr => ∃ j : Nat, j ≤ G.no ∧ s = I j ∧ Hid (Ext W1 wr) ∧ Hid (∀ i, i < j → ixB G.nc (G.O i) = true)) (fun s _ => G.no - (intOf s).toNat)
            case atStart => exact ⟨0, Nat.zero_le _, rfl, HXb, fun i hi => absurd hi (by omega)⟩
            case round =>
              obtain ⟨j, hj, rfl, HX, HG⟩ := hrel
              by_cases hlt : j < G.no
              · obtain ⟨b, o, ha, hba, hc⟩ := (HD.out.ext (HE.out.trans HX.out)).outs (by omega)
                have x0 := hc j hlt
                have HB := Lib.hid (isIndexP_any (G.O j) G.nc)
                obtain ⟨c0, c1, c2, c3⟩ := HBD.out.ext HX.out
                clear hc
                have hlt' : (j : Int) < (G.no : Int) := by omega
                cases hq : ixB G.nc (G.O j)
                · have HV := Lib.hid (show chP G = 10 by rw [HC.out]; exact out_10 hlt HG.out hq)
                  rw [hq] at HB
                  clear hq
                  go_wp2_with (go_at_call 50; (with_reducible refine (HB.out _).mono ?_); rintro e w1 ⟨rfl, hb1⟩)
                  go_ret
                  exact ⟨by rw [HV.out]; rfl, HE.out.trans (HX.out.trans hb1)⟩
                · have HG2 : Hid (∀ i, i < j + 1 → ixB G.nc (G.O i) = true) := fun i hi => by
                    by_cases h : i = j
                    · subst h; exact hq
                    · exact HG.out i (by omega)
                  rw [hq] at HB
                  clear hq
                  go_wp2_with (go_at_call 50; (with_reducible refine (HB.out _).mono ?_); rintro e w1 ⟨rfl, hb1⟩)
                  rw [← ha]
                  go_roundw
                  case rel => exact ⟨j + 1, by omega, by go_num, HX.out.trans hb1, HG2⟩
                  case measure => simp [intOf]; omega
              · obtain rfl : j = G.no := by omega
                have HV := Lib.hid (show chP G = 0 by rw [HC.out]; exact fstE_none fun i hi => inE_ix.2 (HG.out i hi))
                go_wp2_with fail
                go_ret
                exact ⟨by rw [HV.out]; rfl, HE.out.trans HX.out⟩
      · have HV := Lib.hid (chP_word H0.out HPo.out hq)
        rw [show (wdE G.nc G.C == 0) = false by simpa using hq] at HAW
        clear hq
        go_wp2_with (go_at_call 48; (with_reducible refine HAW.out.mono ?_); rintro e w1 ⟨rfl, hb1⟩)
        go_ret
        exact ⟨by rw [HV.out]; rfl, HE.out.trans (HXa.out.trans hb1)⟩
theorem Check_any {w : World} {G : Pgm} {p : Pp} (d : Pm w G p) : Calls Tryz.prog 14 #[pgv G p] w fun e w' => e = .returned (errv (chP G)) ∧ Ext w w' := by
  by_cases h : 16 < G.np ∨ 192 < G.nc ∨ 256 < G.ni ∨ 16 < G.no
  · rw [chP_large h]; exact Check_large h d.lp d.lc d.lx d.lo
  · exact Check_in d h

end Go.Proofs.YtkocmdpfknoiaaaGreatDoor
