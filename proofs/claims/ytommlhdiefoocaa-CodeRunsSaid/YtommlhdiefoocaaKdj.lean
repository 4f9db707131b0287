/- The fixed-point machine: Check by the reference. -/
import Derived.Test.YtommlhdiefoocaaKde
import Derived.Test.YtommlhdiefoocaaKdi
namespace Go.Proofs.Ytommlhdiefoocaa
open Go Go.RowKit
theorem prtE_0 {p : Prt} : prtE p = 0 ↔ -2147483648 ≤ p.lo ∧ p.lo ≤ p.hi ∧ p.hi < 2147483648 ∧ 0 ≤ p.fr ∧ p.fr ≤ 30 := by
  unfold prtE; split <;> rename_i h <;> simp [h]
set_option maxRecDepth 100000 in
set_option maxHeartbeats 1000000 in
theorem RCheck_large {w : World} {G : Pgm} {p : Pp} (h : 16 < G.np ∨ 192 < G.nc ∨ 256 < G.ni ∨ 16 < G.no) (l1 : G.np ≤ maxLen) (l2 : G.nc ≤ maxLen) (l3 : G.ni ≤ maxLen) (l4 : G.no ≤ maxLen) : Calls Try.prog 12 #[pgv G p] w fun e w' => e = .returned (I 4) ∧ Ext w w' := by
  unfold maxLen at l1 l2 l3 l4
  by_cases h1 : 16 < G.np
  · have h1' : (16 : Int) < (G.np : Int) := by omega
    clear h
    go_enter Try.func12, Try.ntmps12
    go_wp2_with fail
    go_ret
    exact ⟨rfl, (by repeat (first | exact Ext.refl _ | assumption | exact Ext.alloc _ _ | refine Ext.trans ?_ (by assumption) | refine Ext.trans ?_ (Ext.alloc _ _) | refine Ext.trans ?_ (Ext.drewN _ _) | refine Ext.trans ?_ (Ext.drew _)))⟩
  · have h1' : ¬ (16 : Int) < (G.np : Int) := by omega
    by_cases h2 : 192 < G.nc
    · have h2' : (192 : Int) < (G.nc : Int) := by omega
      clear h
      go_enter Try.func12, Try.ntmps12
      go_wp2_with fail
      go_ret
      exact ⟨rfl, (by repeat (first | exact Ext.refl _ | assumption | exact Ext.alloc _ _ | refine Ext.trans ?_ (by assumption) | refine Ext.trans ?_ (Ext.alloc _ _) | refine Ext.trans ?_ (Ext.drewN _ _) | refine Ext.trans ?_ (Ext.drew _)))⟩
    · have h2' : ¬ (192 : Int) < (G.nc : Int) := by omega
      by_cases h3 : 256 < G.ni
      · have h3' : (256 : Int) < (G.ni : Int) := by omega
        clear h
        go_enter Try.func12, Try.ntmps12
        go_wp2_with fail
        go_ret
        exact ⟨rfl, (by repeat (first | exact Ext.refl _ | assumption | exact Ext.alloc _ _ | refine Ext.trans ?_ (by assumption) | refine Ext.trans ?_ (Ext.alloc _ _) | refine Ext.trans ?_ (Ext.drewN _ _) | refine Ext.trans ?_ (Ext.drew _)))⟩
      · have h3' : ¬ (256 : Int) < (G.ni : Int) := by omega
        have h4' : (16 : Int) < (G.no : Int) := by omega
        clear h
        go_enter Try.func12, Try.ntmps12
        go_wp2_with fail
        go_ret
        exact ⟨rfl, (by repeat (first | exact Ext.refl _ | assumption | exact Ext.alloc _ _ | refine Ext.trans ?_ (by assumption) | refine Ext.trans ?_ (Ext.alloc _ _) | refine Ext.trans ?_ (Ext.drewN _ _) | refine Ext.trans ?_ (Ext.drew _)))⟩

set_option maxRecDepth 100000 in
set_option maxHeartbeats 1000000 in
theorem RCheck_in {w : World} {G : Pgm} {p : Pp} (d : Pm w G p) (h0 : ¬ (16 < G.np ∨ 192 < G.nc ∨ 256 < G.ni ∨ 16 < G.no)) : Calls Try.prog 12 #[pgv G p] w fun e w' => e = .returned (I (chP G)) ∧ Ext w w' := by
  have n1 : G.np ≤ 16 := by omega
  have n2 : G.nc ≤ 192 := by omega
  have n3 : G.ni ≤ 256 := by omega
  have n4 : G.no ≤ 16 := by omega
  have H0 := Lib.hid h0
  have m1 : ¬ (16 : Int) < (G.np : Int) := by omega
  have m2 : ¬ (192 : Int) < (G.nc : Int) := by omega
  have m3 : ¬ (256 : Int) < (G.ni : Int) := by omega
  have m4 : ¬ (16 : Int) < (G.no : Int) := by omega
  clear h0
  have HBD := Lib.hid (Px.new w G p 26)
  obtain ⟨W1, hW1⟩ : ∃ W1, W1 = w.alloc (.cells #[.slice p.AP G.np p.cP, .slice p.AC G.nc p.cC, .slice p.AX G.ni p.cX, .slice p.AO G.no p.cO] 26) := ⟨_, rfl⟩
  have hE : Ext w W1 := by rw [hW1]; exact Ext.alloc _ _
  have hz1 : W1.heap.size = w.heap.size + 1 := by rw [hW1]; simp
  rw [← hW1] at HBD
  have HD := Lib.hid d
  have HE := Lib.hid hE
  clear d hE
  have HLP : G.np ≤ 2 ^ 63 - 1 := HD.out.lp
  have HLX : G.ni ≤ 2 ^ 63 - 1 := HD.out.lx
  have HLO : G.no ≤ 2 ^ 63 - 1 := HD.out.lo
  obtain ⟨c0, c1, c2, c3⟩ := HBD.out
  go_enter Try.func12, Try.ntmps12
  go_upto_region 1 with fail
  rw [← hW1]; clear hW1
  go_wp2_with fail
  clear c0 c1 c2 c3
  go_loopw [37] (fun s wr => ∃ j : Nat, j ≤ G.np ∧ s = I j ∧ Hid (Ext W1 wr) ∧ Hid (∀ i, i < j → prtE (G.P i) = 0)) (fun s _ => G.np - (intOf s).toNat)
  case atStart => exact ⟨0, Nat.zero_le _, rfl, Ext.refl _, fun i hi => absurd hi (by omega)⟩
  case round =>
    obtain ⟨j, hj, rfl, HX, HG⟩ := hrel
    by_cases hlt : j < G.np
    · obtain ⟨b, o, ha, hba, hc⟩ := (HD.out.ext (HE.out.trans HX.out)).ports (by omega)
      obtain ⟨x0, x1, x2⟩ := hc j hlt
      clear hc
      have hlt' : (j : Int) < (G.np : Int) := by omega
      have HBAD : Hid (prtE (G.P j) ≠ 0 → chP G = 3) := fun hq => chP_port H0.out hlt hq
      have HGOOD : Hid (prtE (G.P j) = 0 → ∀ i, i < j + 1 → prtE (G.P i) = 0) := fun hq i hi => by
        by_cases h : i = j
        · subst h; exact hq
        · exact HG.out i (by omega)
      generalize G.P j = P at *
      obtain ⟨lo, hi, fr⟩ := P
      simp only at x0 x1 x2
      have HW : Hid (∀ w', Calls Try.prog 25 #[I fr, I 0, I 30] w' fun e w'' => e = .returned (.bool (decide (0 ≤ fr) && decide (fr ≤ 30))) ∧ Ext w' w'') := fun w' => within_any _ _ _ _
      by_cases q1 : lo < -2147483648
      · have HC := Lib.hid (HBAD.out (by unfold prtE; rw [if_neg (by simp only; omega)]; omega))
        clear HBAD HGOOD
        go_wp2_with fail
        go_ret
        exact ⟨by rw [HC.out]; rfl, HE.out.trans (HX.out.trans (Ext.alloc _ _))⟩
      · by_cases q2 : hi < lo
        · have HC := Lib.hid (HBAD.out (by unfold prtE; rw [if_neg (by simp only; omega)]; omega))
          clear HBAD HGOOD
          go_wp2_with fail
          go_ret
          exact ⟨by rw [HC.out]; rfl, HE.out.trans (HX.out.trans (Ext.alloc _ _))⟩
        · by_cases q3 : 2147483648 ≤ hi
          · have HC := Lib.hid (HBAD.out (by unfold prtE; rw [if_neg (by simp only; omega)]; omega))
            clear HBAD HGOOD
            go_wp2_with fail
            go_ret
            exact ⟨by rw [HC.out]; rfl, HE.out.trans (HX.out.trans (Ext.alloc _ _))⟩
          · cases hf : (decide (0 ≤ fr) && decide (fr ≤ 30))
            · rw [hf] at HW
              have HC := Lib.hid (HBAD.out (fun e => by have hh := prtE_0.1 e; simp only [Bool.and_eq_false_iff, decide_eq_false_iff_not] at hf; simp only at hh; omega))
              clear HBAD HGOOD hf
              go_wp2_with (go_at_call 25; (with_reducible refine (HW.out _).mono ?_); rintro e w1 ⟨rfl, hb1⟩)
              go_ret
              exact ⟨by rw [HC.out]; rfl, HE.out.trans (HX.out.trans ((Ext.alloc _ _).trans hb1))⟩
            · rw [hf] at HW
              have HG2 := Lib.hid (HGOOD.out (prtE_0.2 (by simp only [Bool.and_eq_true, decide_eq_true_eq] at hf; simp only; omega)))
              clear HBAD HGOOD hf
              go_wp2_with (go_at_call 25; (with_reducible refine (HW.out _).mono ?_); rintro e w1 ⟨rfl, hb1⟩)
              rw [← ha]
              go_roundw
              case rel => exact ⟨j + 1, by omega, by go_num, HX.out.trans ((Ext.alloc _ _).trans hb1), HG2⟩
              case measure => simp [intOf]; omega
    · obtain rfl : j = G.np := by omega
      have HXa := HX
      have HPo := HG
      clear HX HG
      obtain ⟨c0, c1, c2, c3⟩ := HBD.out.ext HXa.out
      go_wp2_with fail
      clear c0 c1 c2 c3
      go_loopw [66] (fun s wr => ∃ j : Nat, j ≤ G.nc ∧ s = I j ∧ Hid (Ext W1 wr) ∧ Hid (∀ i, i < j → wdB (G.C i) = true)) (fun s _ => G.nc - (intOf s).toNat)
      case atStart => exact ⟨0, Nat.zero_le _, rfl, HXa, fun i hi => absurd hi (by omega)⟩
      case round =>
        obtain ⟨j, hj, rfl, HX, HG⟩ := hrel
        by_cases hlt : j < G.nc
        · obtain ⟨b, o, ha, hba, hc⟩ := (HD.out.ext (HE.out.trans HX.out)).init (by omega)
          have x0 := hc j hlt
          have HW := Lib.hid (Word_any (G.C j))
          clear hc
          have hlt' : (j : Int) < (G.nc : Int) := by omega
          cases hq : wdB (G.C j)
          · have HV := Lib.hid (chP_word H0.out HPo.out (by rw [wdE_3 hlt hq]; omega))
            rw [hq] at HW
            clear hq
            go_wp2_with (go_at_call 26; (with_reducible refine (HW.out _).mono ?_); rintro e w1 ⟨rfl, hb1⟩)
            go_ret
            exact ⟨by rw [HV.out]; rfl, HE.out.trans (HX.out.trans hb1)⟩
          · have HG2 : Hid (∀ i, i < j + 1 → wdB (G.C i) = true) := fun i hi => by
              by_cases h : i = j
              · subst h; exact hq
              · exact HG.out i (by omega)
            rw [hq] at HW
            clear hq
            go_wp2_with (go_at_call 26; (with_reducible refine (HW.out _).mono ?_); rintro e w1 ⟨rfl, hb1⟩)
            rw [← ha]
            go_roundw
            case rel => exact ⟨j + 1, by omega, by go_num, HX.out.trans hb1, HG2⟩
            case measure => simp [intOf]; omega
        · obtain rfl : j = G.nc := by omega
          have HWD := Lib.hid (wdE_0.2 HG.out)
          have HXc := HX
          clear HX HG HXa
          obtain ⟨c0, c1, c2, c3⟩ := HBD.out.ext HXc.out
          go_wp2_with fail
          clear c0 c1 c2 c3
          go_loopw [77] (fun s wr => ∃ j : Nat, j ≤ G.ni ∧ s = I j ∧ Hid (Ext W1 wr) ∧ Hid (∀ i, i < j → insE G.np G.nc (G.X i) = 0)) (fun s _ => G.ni - (intOf s).toNat)
          case atStart => exact ⟨0, Nat.zero_le _, rfl, HXc, fun i hi => absurd hi (by omega)⟩
          case round =>
            obtain ⟨j, hj, rfl, HX, HG⟩ := hrel
            by_cases hlt : j < G.ni
            · have dd := HD.out.ext (HE.out.trans HX.out)
              obtain ⟨b, o, ha, hba, hc⟩ := dd.code (by omega)
              obtain ⟨x0, x1, x2, x3, x4, x5, x6⟩ := hc j hlt
              have HB : Hid (∀ w', Calls Try.prog 27 #[.agg #[.slice p.AP G.np p.cP, .slice p.AC G.nc p.cC, .slice (some ⟨b, o, none⟩) G.ni p.cX, .slice p.AO G.no p.cO], insV (G.X j)] w' fun e w'' => e = .returned (I (insE G.np G.nc (G.X j))) ∧ Ext w' w'') :=
                fun w' => by rw [← ha]; exact instr_any (p := p) n1 n2
              have hsz := HX.out.size
              obtain ⟨c0, c1, c2, c3⟩ := HBD.out.ext HX.out
              have hz2 : w.heap.size < wr.heap.size := by omega
              clear hc dd
              have hlt' : (j : Int) < (G.ni : Int) := by omega
              by_cases hq : insE G.np G.nc (G.X j) = 0
              · have HG2 : Hid (∀ i, i < j + 1 → insE G.np G.nc (G.X i) = 0) := fun i hi => by
                  by_cases h : i = j
                  · subst h; exact hq
                  · exact HG.out i (by omega)
                rw [hq] at HB
                clear hq
                go_wp2_with (go_at_call 27; (with_reducible refine (HB.out _).mono ?_); rintro e w1 ⟨rfl, hb1⟩)
                rw [← ha]
                go_roundw
                case rel => exact ⟨j + 1, by omega, by go_num, HX.out.trans ((Ext.alloc _ _).trans hb1), HG2⟩
                case measure => simp [intOf]; omega
              · have HC := Lib.hid (chP_ins H0.out HPo.out HWD.out HG.out hlt hq)
                have hnz : (insE G.np G.nc (G.X j) != 0) = true := by simpa using hq
                clear hq
                generalize insE G.np G.nc (G.X j) = eb at *
                go_wp2_with (go_at_call 27; (with_reducible refine (HB.out _).mono ?_); rintro e w1 ⟨rfl, hb1⟩)
                go_ret
                exact ⟨by rw [HC.out]; rfl, HE.out.trans (HX.out.trans ((Ext.alloc _ _).trans hb1))⟩
            · obtain rfl : j = G.ni := by omega
              have HXb := HX
              have HC := Lib.hid (chP_out H0.out HPo.out HWD.out HG.out)
              clear HX HG HXc
              obtain ⟨c0, c1, c2, c3⟩ := HBD.out.ext HXb.out
              go_wp2_with fail
              clear c0 c1 c2 c3
              go_loopw [91] (fun s wr => ∃ j : Nat, j ≤ G.no ∧ s = I j ∧ Hid (Ext W1 wr) ∧ Hid (∀ i, i < j → ixB G.nc (G.O i) = true)) (fun s _ => G.no - (intOf s).toNat)
              case atStart => exact ⟨0, Nat.zero_le _, rfl, HXb, fun i hi => absurd hi (by omega)⟩
              case round =>
                obtain ⟨j, hj, rfl, HX, HG⟩ := hrel
                by_cases hlt : j < G.no
                · obtain ⟨b, o, ha, hba, hc⟩ := (HD.out.ext (HE.out.trans HX.out)).outs (by omega)
                  have x0 := hc j hlt
                  have hwr : IntKind.i64.wrap ((G.nc : Int) - 1) = (G.nc : Int) - 1 := IntWalk.i64_in _ (by omega)
                  have HB := Lib.hid (within_ix (c := G.nc) (G.O j))
                  obtain ⟨c0, c1, c2, c3⟩ := HBD.out.ext HX.out
                  clear hc
                  have hlt' : (j : Int) < (G.no : Int) := by omega
                  cases hq : ixB G.nc (G.O j)
                  · have HV := Lib.hid (show chP G = 10 by rw [HC.out]; exact out_10 hlt HG.out hq)
                    rw [hq] at HB
                    clear hq
                    go_wp2_with (go_at_call 25; (with_reducible refine (HB.out _).mono ?_); rintro e w1 ⟨rfl, hb1⟩)
                    go_ret
                    exact ⟨by rw [HV.out]; rfl, HE.out.trans (HX.out.trans hb1)⟩
                  · have HG2 : Hid (∀ i, i < j + 1 → ixB G.nc (G.O i) = true) := fun i hi => by
                      by_cases h : i = j
                      · subst h; exact hq
                      · exact HG.out i (by omega)
                    rw [hq] at HB
                    clear hq
                    go_wp2_with (go_at_call 25; (with_reducible refine (HB.out _).mono ?_); rintro e w1 ⟨rfl, hb1⟩)
                    rw [← ha]
                    go_roundw
                    case rel => exact ⟨j + 1, by omega, by go_num, HX.out.trans hb1, HG2⟩
                    case measure => simp [intOf]; omega
                · obtain rfl : j = G.no := by omega
                  have HV := Lib.hid (show chP G = 0 by rw [HC.out]; exact fstE_none fun i hi => inE_ix.2 (HG.out i hi))
                  go_wp2_with fail
                  go_ret
                  exact ⟨by rw [HV.out]; rfl, HE.out.trans HX.out⟩
theorem RCheck_any {w : World} {G : Pgm} {p : Pp} (d : Pm w G p) : Calls Try.prog 12 #[pgv G p] w fun e w' => e = .returned (I (chP G)) ∧ Ext w w' := by
  by_cases h : 16 < G.np ∨ 192 < G.nc ∨ 256 < G.ni ∨ 16 < G.no
  · rw [chP_large h]; exact RCheck_large h d.lp d.lc d.lx d.lo
  · exact RCheck_in d h

end Go.Proofs.Ytommlhdiefoocaa
