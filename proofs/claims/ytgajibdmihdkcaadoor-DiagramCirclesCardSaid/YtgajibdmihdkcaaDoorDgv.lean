/- Diagrams: Check by the reference. -/
import Derived.Test.YtgajibdmihdkcaaDoorDgu
namespace Go.Proofs.YtgajibdmihdkcaaDoor
open Go Go.RowKit

theorem ord_del_le (D : Dia) : (ordL D).length + (delL D).length ≤ D.nb := by
  have h := (ord_end D).1
  have h2 := h.len
  have h3 : cnt D.nb (isD D) ≤ cnt D.nb (fun i => !inL (ordL D) i) := cnt_mono fun i _ hd => by
    cases q : inL (ordL D) i with
    | false => rfl
    | true => have := (h.lt i q).2; rw [hd] at this; cases this
  unfold delL
  rw [mkL_len]; omega
set_option maxRecDepth 100000 in
set_option maxHeartbeats 1000000 in
theorem rcheck_large {w : World} {D : Dia} {p : Pl} (h : 16 < D.ni ∨ 64 < D.nb ∨ 16 < D.no) (l1 : D.ni ≤ maxLen) (l2 : D.nb ≤ maxLen) (l3 : D.no ≤ maxLen) : Calls Tryd.prog 13 #[dgv D p] w fun e w' => e = .returned (I 4) ∧ Ext w w' := by
  unfold maxLen at l1 l2 l3
  by_cases h1 : 16 < D.ni
  · have h1' : (16 : Int) < (D.ni : Int) := by omega
    clear h
    go_enter Tryd.func13, Tryd.ntmps13
    go_wp2_with fail
    go_ret
    exact ⟨rfl, (by repeat (first | exact Ext.refl _ | assumption | exact Ext.alloc _ _ | refine Ext.trans ?_ (by assumption) | refine Ext.trans ?_ (Ext.alloc _ _) | refine Ext.trans ?_ (Ext.drewN _ _) | refine Ext.trans ?_ (Ext.drew _)))⟩
  · have h1' : ¬ (16 : Int) < (D.ni : Int) := by omega
    by_cases h2 : 64 < D.nb
    · have h2' : (64 : Int) < (D.nb : Int) := by omega
      clear h
      go_enter Tryd.func13, Tryd.ntmps13
      go_wp2_with fail
      go_ret
      exact ⟨rfl, (by repeat (first | exact Ext.refl _ | assumption | exact Ext.alloc _ _ | refine Ext.trans ?_ (by assumption) | refine Ext.trans ?_ (Ext.alloc _ _) | refine Ext.trans ?_ (Ext.drewN _ _) | refine Ext.trans ?_ (Ext.drew _)))⟩
    · have h2' : ¬ (64 : Int) < (D.nb : Int) := by omega
      have h3' : (16 : Int) < (D.no : Int) := by omega
      clear h
      go_enter Tryd.func13, Tryd.ntmps13
      go_wp2_with fail
      go_ret
      exact ⟨rfl, (by repeat (first | exact Ext.refl _ | assumption | exact Ext.alloc _ _ | refine Ext.trans ?_ (by assumption) | refine Ext.trans ?_ (Ext.alloc _ _) | refine Ext.trans ?_ (Ext.drewN _ _) | refine Ext.trans ?_ (Ext.drew _)))⟩

set_option maxRecDepth 100000 in
set_option maxHeartbeats 1000000 in
theorem rcheck_in {w : World} {D : Dia} {p : Pl} (d : Dm w D p) (hT : Tabs w) (h0 : ¬ (16 < D.ni ∨ 64 < D.nb ∨ 16 < D.no)) : Calls Tryd.prog 13 #[dgv D p] w fun e w' => e = .returned (I (chk D)) ∧ Ext w w' := by
  have n1 : D.ni ≤ 16 := by omega
  have n2 : D.nb ≤ 64 := by omega
  have n3 : D.no ≤ 16 := by omega
  have H0 := Lib.hid h0
  have m1 : ¬ (16 : Int) < (D.ni : Int) := by omega
  have m2 : ¬ (64 : Int) < (D.nb : Int) := by omega
  have m3 : ¬ (16 : Int) < (D.no : Int) := by omega
  clear h0
  have HBD := Lib.hid (Bd.new w D p 26)
  obtain ⟨W1, hW1⟩ : ∃ W1, W1 = w.alloc (.cells #[.slice p.AI D.ni p.cI, .slice p.AB D.nb p.cB, .slice p.AO D.no p.cO] 26) := ⟨_, rfl⟩
  have hE : Ext w W1 := by rw [hW1]; exact Ext.alloc _ _
  have hz1 : W1.heap.size = w.heap.size + 1 := by rw [hW1]; simp
  rw [← hW1] at HBD
  have HD := Lib.hid d
  have HT := Lib.hid hT
  have HE := Lib.hid hE
  have HW1 := Lib.hid hW1
  have c012 := HBD.out
  rw [hW1] at c012
  obtain ⟨c0, c1, c2⟩ := c012
  clear d hE hW1 hT
  go_enter Tryd.func13, Tryd.ntmps13
  go_wp2_with fail
  clear c0 c1 c2
  go_loopw [29] (fun s wr => ∃ j : Nat, j ≤ D.ni ∧ s = I j ∧ Hid (Ext W1 wr) ∧ Hid (∀ i, i < j → prtE (D.P i) = 0)) (fun s _ => D.ni - (intOf s).toNat)
  case atStart => exact ⟨0, Nat.zero_le _, rfl, by rw [HW1.out]; exact Ext.refl _, fun i hi => absurd hi (by omega)⟩
  case round =>
    obtain ⟨j, hj, rfl, HX, HG⟩ := hrel
    by_cases hlt : j < D.ni
    · obtain ⟨b, o, ha, hba, hc⟩ := (HD.out.ext (HE.out.trans HX.out)).ports (by omega)
      obtain ⟨x0, x1, x2⟩ := hc j hlt
      clear hc
      have hlt' : (j : Int) < (D.ni : Int) := by omega
      obtain ⟨lo, hlo⟩ : ∃ lo, (D.P j).lo = lo := ⟨_, rfl⟩
      obtain ⟨hi, hhi⟩ : ∃ hi, (D.P j).hi = hi := ⟨_, rfl⟩
      obtain ⟨fr, hfr⟩ : ∃ fr, (D.P j).fr = fr := ⟨_, rfl⟩
      rw [hlo] at x0; rw [hhi] at x1; rw [hfr] at x2
      have HPE : Hid (prtE (D.P j) = if -2147483648 ≤ lo ∧ lo ≤ hi ∧ hi < 2147483648 ∧ 0 ≤ fr ∧ fr ≤ 30 then 0 else 3) := by show _ = _; rw [← hlo, ← hhi, ← hfr]; rfl
      have HW := Lib.hid (within_any fr 0 30)
      clear hlo hhi hfr
      by_cases hq : prtE (D.P j) = 0
      · have HG2 : Hid (∀ i, i < j + 1 → prtE (D.P i) = 0) := fun i hi => by
          by_cases h : i = j
          · subst h; exact hq
          · exact HG.out i (by omega)
        have hall : -2147483648 ≤ lo ∧ lo ≤ hi ∧ hi < 2147483648 ∧ 0 ≤ fr ∧ fr ≤ 30 := Classical.byContradiction fun h => by rw [HPE.out, if_neg h] at hq; omega
        obtain ⟨g1, g2, g3, g4, g5⟩ := hall
        rw [decide_eq_true (And.intro g4 g5)] at HW
        have g1' : ¬ lo < -2147483648 := by omega
        have g2' : ¬ hi < lo := by omega
        have g3' : ¬ 2147483648 ≤ hi := by omega
        clear hq HPE
        go_wp2_with (go_at_call 31; (with_reducible refine (HW.out _).mono ?_); rintro e w1 ⟨rfl, hb1⟩)
        (try rw [← ha])
        go_roundw
        case rel => exact ⟨j + 1, by omega, by go_num, HX.out.trans ((Ext.alloc _ _).trans hb1), HG2⟩
        case measure => simp [intOf]; omega
      · have HC := Lib.hid (chk_port H0.out HG.out hlt hq)
        have hall : ¬ (-2147483648 ≤ lo ∧ lo ≤ hi ∧ hi < 2147483648 ∧ 0 ≤ fr ∧ fr ≤ 30) := fun h => by rw [HPE.out, if_pos h] at hq; exact hq rfl
        clear hq HPE
        by_cases g1 : lo < -2147483648
        · clear hall
          go_wp2_with fail
          go_ret
          exact ⟨by rw [HC.out]; rfl, HE.out.trans (HX.out.trans (Ext.alloc _ _))⟩
        by_cases g2 : hi < lo
        · clear hall
          go_wp2_with fail
          go_ret
          exact ⟨by rw [HC.out]; rfl, HE.out.trans (HX.out.trans (Ext.alloc _ _))⟩
        by_cases g3 : 2147483648 ≤ hi
        · clear hall
          go_wp2_with fail
          go_ret
          exact ⟨by rw [HC.out]; rfl, HE.out.trans (HX.out.trans (Ext.alloc _ _))⟩
        have g4 : ¬ (0 ≤ fr ∧ fr ≤ 30) := fun h => hall ⟨by omega, by omega, by omega, h.1, h.2⟩
        rw [decide_eq_false g4] at HW
        clear hall g4
        go_wp2_with (go_at_call 31; (with_reducible refine (HW.out _).mono ?_); rintro e w1 ⟨rfl, hb1⟩)
        go_ret
        exact ⟨by rw [HC.out]; rfl, HE.out.trans (HX.out.trans ((Ext.alloc _ _).trans hb1))⟩
    · obtain rfl : j = D.ni := by omega
      have HXa := HX
      have HPo := HG
      clear HX HG
      obtain ⟨c0, c1, c2⟩ := HBD.out.ext HXa.out
      go_wp2_with fail
      clear c0 c1 c2
      go_loopw [58] (fun s wr => ∃ j : Nat, j ≤ D.nb ∧ s = I j ∧ Hid (Ext W1 wr) ∧ Hid (∀ i, i < j → blkE D (D.B i) = 0)) (fun s _ => D.nb - (intOf s).toNat)
      case atStart => exact ⟨0, Nat.zero_le _, rfl, HXa, fun i hi => absurd hi (by omega)⟩
      case round =>
        obtain ⟨j, hj, rfl, HX, HG⟩ := hrel
        by_cases hlt : j < D.nb
        · have dd := HD.out.ext (HE.out.trans HX.out)
          obtain ⟨b, o, ha, hba, hc⟩ := dd.blocks (by omega)
          obtain ⟨x0, x1, x2, x3, x4, x5⟩ := hc j hlt
          have HB : Hid (∀ w', Ext wr w' → Calls Tryd.prog 32 #[.agg #[.slice p.AI D.ni p.cI, .slice (some ⟨b, o, none⟩) D.nb p.cB, .slice p.AO D.no p.cO], bkv (D.B j).k (p.AA j) (D.B j).n (p.cA j) (D.B j).vn (D.B j).ve (D.B j).un (D.B j).ue] w' fun e w'' => e = .returned (I (blkE D (D.B j))) ∧ Ext w' w'') :=
            fun w' e => by rw [← ha]; exact rblock_any (p := p) (dd.ext e) ((dd.ext e).args j hlt).1 ((dd.ext e).args j hlt).2
          have hsz := HX.out.size
          obtain ⟨c0, c1, c2⟩ := HBD.out.ext HX.out
          have hz2 : w.heap.size < wr.heap.size := by omega
          clear hc dd
          have hlt' : (j : Int) < (D.nb : Int) := by omega
          by_cases hq : blkE D (D.B j) = 0
          · have HG2 : Hid (∀ i, i < j + 1 → blkE D (D.B i) = 0) := fun i hi => by
              by_cases h : i = j
              · subst h; exact hq
              · exact HG.out i (by omega)
            rw [hq] at HB
            clear hq
            go_wp2_with (go_at_call 32; (with_reducible refine (HB.out _ (Ext.alloc _ _)).mono ?_); rintro e w1 ⟨rfl, hb1⟩)
            (try rw [← ha])
            go_roundw
            case rel => exact ⟨j + 1, by omega, by go_num, HX.out.trans ((Ext.alloc _ _).trans hb1), HG2⟩
            case measure => simp [intOf]; omega
          · have HC := Lib.hid (chk_blk H0.out HPo.out HG.out hlt hq)
            have hq' : (blkE D (D.B j) == 0) = false := by simpa using hq
            clear hq
            generalize blkE D (D.B j) = eb at *
            go_wp2_with (go_at_call 32; (with_reducible refine (HB.out _ (Ext.alloc _ _)).mono ?_); rintro e w1 ⟨rfl, hb1⟩)
            go_ret
            exact ⟨by rw [HC.out]; rfl, HE.out.trans (HX.out.trans ((Ext.alloc _ _).trans hb1))⟩
        · obtain rfl : j = D.nb := by omega
          have HXb := HX
          have HBl := HG
          clear HX HG HXa
          obtain ⟨c0, c1, c2⟩ := HBD.out.ext HXb.out
          have HWF := Lib.hid (wf_of H0.out HBl.out)
          have hlo := HD.out.lo
          unfold maxLen at hlo
          obtain ⟨E, hEE⟩ : ∃ E : Nat → Int, (fun i => inE (D.nb : Int) (D.O i)) = E := ⟨_, rfl⟩
          have HW : Hid (∀ i w, Calls Tryd.prog 31 #[I (D.O i), I 0, I ((D.nb : Int) - 1)] w fun e w' => e = .returned (.bool (E i == 0)) ∧ Ext w w') := fun i w => by
            have := within_any (D.O i) 0 ((D.nb : Int) - 1) w
            rw [show decide (0 ≤ D.O i ∧ D.O i ≤ (D.nb : Int) - 1) = (E i == 0) by
              rw [← hEE]
              show _ = (inE (D.nb : Int) (D.O i) == 0)
              unfold inE
              by_cases q : 0 ≤ D.O i ∧ D.O i < D.nb
              · rw [if_pos q, decide_eq_true (by omega)]; rfl
              · rw [if_neg q, decide_eq_false (by omega)]; rfl] at this
            exact this
          have HCO : Hid (fstE D.no E ≠ 0 → chk D = 10) := fun h => chk_out H0.out HPo.out HBl.out (by rw [hEE]; exact h)
          have HCY : Hid (fstE D.no E = 0 → chk D = if (ordL D).length + (delL D).length < D.nb then 24 else 0) := fun h => chk_cyc H0.out HPo.out HBl.out (by rw [hEE]; exact h)
          clear hEE
          go_wp2_with fail
          clear c0 c1 c2
          go_loopw [72] (fun s wr => ∃ j : Nat, j ≤ D.no ∧ s = I j ∧ Hid (Ext W1 wr) ∧ Hid (∀ i, i < j → E i = 0)) (fun s _ => D.no - (intOf s).toNat)
          case atStart => exact ⟨0, Nat.zero_le _, rfl, HXb, fun i hi => absurd hi (by omega)⟩
          case round =>
            obtain ⟨j, hj, rfl, HX, HG⟩ := hrel
            obtain ⟨c0, c1, c2⟩ := HBD.out.ext HX.out
            by_cases hlt : j < D.no
            · obtain ⟨b, o, ha, hba, hc⟩ := (HD.out.ext (HE.out.trans HX.out)).outs (by omega)
              have xo := hc j hlt
              clear hc
              have HWJ := Lib.hid (HW.out j)
              have hlt' : (j : Int) < (D.no : Int) := by omega
              by_cases hq : E j = 0
              · have HG2 : Hid (∀ i, i < j + 1 → E i = 0) := fun i hi => by
                  by_cases h : i = j
                  · subst h; exact hq
                  · exact HG.out i (by omega)
                rw [show (E j == 0) = true by simpa using hq] at HWJ
                clear hq
                go_wp2_with (go_at_call 31; (with_reducible refine (HWJ.out _).mono ?_); rintro e2 w2 ⟨rfl, x2⟩)
                (try rw [← ha])
                go_roundw
                case rel => exact ⟨j + 1, by omega, by go_num, HX.out.trans x2, HG2⟩
                case measure => simp [intOf]; omega
              · have HC := Lib.hid (HCO.out (by rw [fstE_hit HG.out hlt hq]; exact hq))
                rw [show (E j == 0) = false by simpa using hq] at HWJ
                clear hq
                go_wp2_with (go_at_call 31; (with_reducible refine (HWJ.out _).mono ?_); rintro e2 w2 ⟨rfl, x2⟩)
                go_ret
                exact ⟨by rw [HC.out]; rfl, HE.out.trans (HX.out.trans x2)⟩
            · obtain rfl : j = D.no := by omega
              have HC := Lib.hid (HCY.out (fstE_none HG.out))
              have ho := ord_le D
              have hd := del_le D
              have hod := ord_del_le D
              have HO : Hid (∀ w', Ext W1 w' → Calls Tryd.prog 23 #[dgv D p] w' (LsR (ordL D) w')) := fun w' e => rorder_any (HD.out.ext (HE.out.trans e)) HWF.out
              have HL : Hid (∀ w', Ext W1 w' → Calls Tryd.prog 24 #[dgv D p] w' (LsR (delL D) w')) := fun w' e => rdelays_any (HD.out.ext (HE.out.trans e)) (by omega)
              generalize ordL D = L1 at *
              generalize delL D = L2 at *
              go_upto_region 22 with fail
              have HX1 := HX
              have HS : Hid (∀ w', Ext wr w' → w'.cell? ⟨w.heap.size, 0, none⟩ = some (.slice p.AI D.ni p.cI) ∧ w'.cell? ⟨w.heap.size, 1, none⟩ = some (.slice p.AB D.nb p.cB) ∧ w'.cell? ⟨w.heap.size, 2, none⟩ = some (.slice p.AO D.no p.cO)) := fun w' e => by
                obtain ⟨c0, c1, c2⟩ := HBD.out.ext (HX1.out.trans e)
                exact ⟨c0, c1, c2⟩
              have hwr : IntKind.i64.wrap ((L1.length : Int) + (L2.length : Int)) = (L1.length : Int) + (L2.length : Int) := IntWalk.i64_in _ (by omega)
              by_cases hcy : L1.length + L2.length < D.nb
              all_goals
                (first | rw [if_pos hcy] at HC | rw [if_neg hcy] at HC)
                (first | (have hcz : ((L1.length : Int) + (L2.length : Int) == (D.nb : Int)) = false := by simp; omega) | (have hcz : ((L1.length : Int) + (L2.length : Int) == (D.nb : Int)) = true := by simp; omega))
                go_region_held3 (fun w' => w'.cell? ⟨w.heap.size, 0, none⟩ = some (.slice p.AI D.ni p.cI) ∧ w'.cell? ⟨w.heap.size, 1, none⟩ = some (.slice p.AB D.nb p.cB) ∧ w'.cell? ⟨w.heap.size, 2, none⟩ = some (.slice p.AO D.no p.cO)) (first | with_reducible assumption | exact HS.out _ (by (with_reducible (repeat (first | exact Ext.refl _ | assumption | (refine Ext.toSet ?_ (by omega)) | refine Ext.toAlloc ?_ | refine Ext.toDrew ?_ | refine Ext.toDrewN ?_ | refine Ext.trans ?_ (by assumption)))); (first | done | fail "no")))
                  (first
                    | (go_at_call 23; (with_reducible refine (HO.out _ (HX1.out.trans (by (with_reducible (repeat (first | exact Ext.refl _ | assumption | (refine Ext.toSet ?_ (by omega)) | refine Ext.toAlloc ?_ | refine Ext.toDrew ?_ | refine Ext.toDrewN ?_ | refine Ext.trans ?_ (by assumption)))); (first | done | fail "no")))).mono ?_); rintro e5 w5 ⟨A5, k5, rfl, _, hx5⟩; obtain ⟨q0, q1, q2⟩ := HS.out w5 (by (with_reducible (repeat (first | exact Ext.refl _ | assumption | (refine Ext.toSet ?_ (by omega)) | refine Ext.toAlloc ?_ | refine Ext.toDrew ?_ | refine Ext.toDrewN ?_ | refine Ext.trans ?_ (by assumption)))); (first | done | fail "no")))
                    | (go_at_call 24; (with_reducible refine (HL.out _ (HX1.out.trans (by (with_reducible (repeat (first | exact Ext.refl _ | assumption | (refine Ext.toSet ?_ (by omega)) | refine Ext.toAlloc ?_ | refine Ext.toDrew ?_ | refine Ext.toDrewN ?_ | refine Ext.trans ?_ (by assumption)))); (first | done | fail "no")))).mono ?_); rintro e6 w6 ⟨A6, k6, rfl, _, hx6⟩; obtain ⟨p0, p1, p2⟩ := HS.out w6 (by (with_reducible (repeat (first | exact Ext.refl _ | assumption | (refine Ext.toSet ?_ (by omega)) | refine Ext.toAlloc ?_ | refine Ext.toDrew ?_ | refine Ext.toDrewN ?_ | refine Ext.trans ?_ (by assumption)))); (first | done | fail "no"))))
                all_goals
                  go_wp2_with fail
                  go_ret
                  exact ⟨by rw [HC.out]; rfl, HE.out.trans (HX1.out.trans (by (with_reducible (repeat (first | exact Ext.refl _ | assumption | (refine Ext.toSet ?_ (by omega)) | refine Ext.toAlloc ?_ | refine Ext.toDrew ?_ | refine Ext.toDrewN ?_ | refine Ext.trans ?_ (by assumption)))); (first | done | fail "no")))⟩
theorem rcheck_any {w : World} {D : Dia} {p : Pl} (d : Dm w D p) (hT : Tabs w) : Calls Tryd.prog 13 #[dgv D p] w fun e w' => e = .returned (I (chk D)) ∧ Ext w w' := by
  by_cases h : 16 < D.ni ∨ 64 < D.nb ∨ 16 < D.no
  · rw [chk_large h]; exact rcheck_large h d.li d.lb d.lo
  · exact rcheck_in d hT h
end Go.Proofs.YtgajibdmihdkcaaDoor
