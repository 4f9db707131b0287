/- The fixed-point machine: law CodeKeeps: what is not written is kept. -/
import Derived.Test.YtommlhdiefoocaaKdm
import Derived.Test.YtommlhdiefoocaaKdj
import Derived.Test.YtommlhdiefoocaaKdo
namespace Go.Proofs.Ytommlhdiefoocaa
open Go Go.RowKit

theorem kl_boxes (w : World) (G : Pgm) (p : Pp) (v0 v1 : Value) (t t' : TypeId) {W1 : World} (h : W1 = (w.alloc (.cells #[.slice p.AP G.np p.cP, .slice p.AC G.nc p.cC, .slice p.AX G.ni p.cX, .slice p.AO G.no p.cO] t)).alloc (.cells #[v0, v1] t')) :
    Px W1 w.heap.size G p ∧ W1.rowIs (w.heap.size + 1) t' 2 (b3 v0 v1 (.bool false)) ∧ Ext w W1 := by
  subst h
  exact ⟨(Px.new w G p t).ext (Ext.alloc _ _), box2r _ _ _ _ (by simp), (Ext.alloc _ _).trans (Ext.alloc _ _)⟩
set_option maxRecDepth 100000 in
set_option maxHeartbeats 8000000 in
theorem keeps_any {W : World} {G : Pgm} {p : Pp} {A B : Option Addr} {n c m e : Nat} {F E : Nat → Int} (d : Pm W G p) (hn : n ≤ maxLen) (hm : m ≤ maxLen) (ra : Ri W A n F) (rb : Ri W B m E) (_ : A = none → c = 0) :
    Calls Try.prog 5 #[pgv G p, .agg #[.slice A n c, .slice B m e]] W fun e w' => e = .returned (.bool true) ∧ Ext W w' := by
  unfold maxLen at hn hm
  have HW := Lib.hid awakeP_any
  have HLI : Hid (∀ w', Ext W w' → Calls Try.prog 11 #[pgv G p] w' fun e w'' => e = .returned (.bool (litP G)) ∧ Ext w' w'') := fun w' e => lightP_any (d.ext e)
  have HCK : Hid (∀ w', Ext W w' → Calls Try.prog 12 #[pgv G p] w' fun e w'' => e = .returned (I (chP G)) ∧ Ext w' w'') := fun w' e => RCheck_any (d.ext e)
  obtain ⟨W1, hW1⟩ : ∃ W1, W1 = (W.alloc (.cells #[.slice p.AP G.np p.cP, .slice p.AC G.nc p.cC, .slice p.AX G.ni p.cX, .slice p.AO G.no p.cO] 26)).alloc (.cells #[.slice A n c, .slice B m e] 44) := ⟨_, rfl⟩
  obtain ⟨b1, b2, b3'⟩ := kl_boxes W G p _ _ _ _ hW1
  have HC : Hid (∀ w', Ext W1 w' → Px w' W.heap.size G p) := fun w' e => b1.ext e
  have HX := Lib.hid b2
  have HE := Lib.hid b3'
  have l0 : W1.cell? ⟨W.heap.size + 1, 0, none⟩ = some (.slice A n c) := b2.cell (by omega)
  have l1 : W1.cell? ⟨W.heap.size + 1, 1, none⟩ = some (.slice B m e) := b2.cell (by omega)
  obtain ⟨p0, p1, p2, p3⟩ := b1
  have hx := Ext.refl W1
  clear b2 b3'
  have HD := Lib.hid d
  have HRa := Lib.hid ra
  have HRb := Lib.hid rb
  clear d ra rb
  go_enter Try.func5, Try.ntmps5
  go_upto_region 1 with fail
  rw [← hW1]; clear hW1
  cases hL : litP G
  · rw [hL] at HLI
    go_wp2_with (first | (go_at_call 10; (with_reducible refine (HW.out _).mono ?_); rintro e1 w1 ⟨rfl, hb1⟩; replace hx := hx.trans hb1; clear hb1; clear p0 p1 p2 p3 l0 l1; obtain ⟨p0, p1, p2, p3⟩ := HC.out _ hx; have l0 : w1.cell? ⟨W.heap.size + 1, 0, none⟩ = some (.slice A n c) := (HX.out.ext hx).cell (by omega); have l1 : w1.cell? ⟨W.heap.size + 1, 1, none⟩ = some (.slice B m e) := (HX.out.ext hx).cell (by omega)) | (go_at_call 11; (with_reducible refine (HLI.out _ (HE.out.trans hx)).mono ?_); rintro e1 w1 ⟨rfl, hb1⟩; replace hx := hx.trans hb1; clear hb1; clear p0 p1 p2 p3 l0 l1; obtain ⟨p0, p1, p2, p3⟩ := HC.out _ hx; have l0 : w1.cell? ⟨W.heap.size + 1, 0, none⟩ = some (.slice A n c) := (HX.out.ext hx).cell (by omega); have l1 : w1.cell? ⟨W.heap.size + 1, 1, none⟩ = some (.slice B m e) := (HX.out.ext hx).cell (by omega)) | (go_at_call 12; (with_reducible refine (HCK.out _ (HE.out.trans hx)).mono ?_); rintro e1 w1 ⟨rfl, hb1⟩; replace hx := hx.trans hb1; clear hb1; clear p0 p1 p2 p3 l0 l1; obtain ⟨p0, p1, p2, p3⟩ := HC.out _ hx; have l0 : w1.cell? ⟨W.heap.size + 1, 0, none⟩ = some (.slice A n c) := (HX.out.ext hx).cell (by omega); have l1 : w1.cell? ⟨W.heap.size + 1, 1, none⟩ = some (.slice B m e) := (HX.out.ext hx).cell (by omega)))
    go_ret
    exact ⟨rfl, HE.out.trans hx⟩
  · rw [hL] at HLI
    by_cases hn3 : 300 < n
    · have hn3' : (300 : Int) < (n : Int) := by omega
      go_wp2_with (first | (go_at_call 10; (with_reducible refine (HW.out _).mono ?_); rintro e1 w1 ⟨rfl, hb1⟩; replace hx := hx.trans hb1; clear hb1; clear p0 p1 p2 p3 l0 l1; obtain ⟨p0, p1, p2, p3⟩ := HC.out _ hx; have l0 : w1.cell? ⟨W.heap.size + 1, 0, none⟩ = some (.slice A n c) := (HX.out.ext hx).cell (by omega); have l1 : w1.cell? ⟨W.heap.size + 1, 1, none⟩ = some (.slice B m e) := (HX.out.ext hx).cell (by omega)) | (go_at_call 11; (with_reducible refine (HLI.out _ (HE.out.trans hx)).mono ?_); rintro e1 w1 ⟨rfl, hb1⟩; replace hx := hx.trans hb1; clear hb1; clear p0 p1 p2 p3 l0 l1; obtain ⟨p0, p1, p2, p3⟩ := HC.out _ hx; have l0 : w1.cell? ⟨W.heap.size + 1, 0, none⟩ = some (.slice A n c) := (HX.out.ext hx).cell (by omega); have l1 : w1.cell? ⟨W.heap.size + 1, 1, none⟩ = some (.slice B m e) := (HX.out.ext hx).cell (by omega)) | (go_at_call 12; (with_reducible refine (HCK.out _ (HE.out.trans hx)).mono ?_); rintro e1 w1 ⟨rfl, hb1⟩; replace hx := hx.trans hb1; clear hb1; clear p0 p1 p2 p3 l0 l1; obtain ⟨p0, p1, p2, p3⟩ := HC.out _ hx; have l0 : w1.cell? ⟨W.heap.size + 1, 0, none⟩ = some (.slice A n c) := (HX.out.ext hx).cell (by omega); have l1 : w1.cell? ⟨W.heap.size + 1, 1, none⟩ = some (.slice B m e) := (HX.out.ext hx).cell (by omega)))
      go_ret
      exact ⟨rfl, HE.out.trans hx⟩
    · have hn3' : ¬ (300 : Int) < (n : Int) := by omega
      by_cases hm6 : 60 < m
      · have hm6' : (60 : Int) < (m : Int) := by omega
        go_wp2_with (first | (go_at_call 10; (with_reducible refine (HW.out _).mono ?_); rintro e1 w1 ⟨rfl, hb1⟩; replace hx := hx.trans hb1; clear hb1; clear p0 p1 p2 p3 l0 l1; obtain ⟨p0, p1, p2, p3⟩ := HC.out _ hx; have l0 : w1.cell? ⟨W.heap.size + 1, 0, none⟩ = some (.slice A n c) := (HX.out.ext hx).cell (by omega); have l1 : w1.cell? ⟨W.heap.size + 1, 1, none⟩ = some (.slice B m e) := (HX.out.ext hx).cell (by omega)) | (go_at_call 11; (with_reducible refine (HLI.out _ (HE.out.trans hx)).mono ?_); rintro e1 w1 ⟨rfl, hb1⟩; replace hx := hx.trans hb1; clear hb1; clear p0 p1 p2 p3 l0 l1; obtain ⟨p0, p1, p2, p3⟩ := HC.out _ hx; have l0 : w1.cell? ⟨W.heap.size + 1, 0, none⟩ = some (.slice A n c) := (HX.out.ext hx).cell (by omega); have l1 : w1.cell? ⟨W.heap.size + 1, 1, none⟩ = some (.slice B m e) := (HX.out.ext hx).cell (by omega)) | (go_at_call 12; (with_reducible refine (HCK.out _ (HE.out.trans hx)).mono ?_); rintro e1 w1 ⟨rfl, hb1⟩; replace hx := hx.trans hb1; clear hb1; clear p0 p1 p2 p3 l0 l1; obtain ⟨p0, p1, p2, p3⟩ := HC.out _ hx; have l0 : w1.cell? ⟨W.heap.size + 1, 0, none⟩ = some (.slice A n c) := (HX.out.ext hx).cell (by omega); have l1 : w1.cell? ⟨W.heap.size + 1, 1, none⟩ = some (.slice B m e) := (HX.out.ext hx).cell (by omega)))
        go_ret
        exact ⟨rfl, HE.out.trans hx⟩
      · have hm6' : ¬ (60 : Int) < (m : Int) := by omega
        by_cases hc : chP G = 0
        · rw [hc] at HCK
          go_upto_region 3 with (first | (go_at_call 10; (with_reducible refine (HW.out _).mono ?_); rintro e1 w1 ⟨rfl, hb1⟩; replace hx := hx.trans hb1; clear hb1; clear p0 p1 p2 p3 l0 l1; obtain ⟨p0, p1, p2, p3⟩ := HC.out _ hx; have l0 : w1.cell? ⟨W.heap.size + 1, 0, none⟩ = some (.slice A n c) := (HX.out.ext hx).cell (by omega); have l1 : w1.cell? ⟨W.heap.size + 1, 1, none⟩ = some (.slice B m e) := (HX.out.ext hx).cell (by omega)) | (go_at_call 11; (with_reducible refine (HLI.out _ (HE.out.trans hx)).mono ?_); rintro e1 w1 ⟨rfl, hb1⟩; replace hx := hx.trans hb1; clear hb1; clear p0 p1 p2 p3 l0 l1; obtain ⟨p0, p1, p2, p3⟩ := HC.out _ hx; have l0 : w1.cell? ⟨W.heap.size + 1, 0, none⟩ = some (.slice A n c) := (HX.out.ext hx).cell (by omega); have l1 : w1.cell? ⟨W.heap.size + 1, 1, none⟩ = some (.slice B m e) := (HX.out.ext hx).cell (by omega)) | (go_at_call 12; (with_reducible refine (HCK.out _ (HE.out.trans hx)).mono ?_); rintro e1 w1 ⟨rfl, hb1⟩; replace hx := hx.trans hb1; clear hb1; clear p0 p1 p2 p3 l0 l1; obtain ⟨p0, p1, p2, p3⟩ := HC.out _ hx; have l0 : w1.cell? ⟨W.heap.size + 1, 0, none⟩ = some (.slice A n c) := (HX.out.ext hx).cell (by omega); have l1 : w1.cell? ⟨W.heap.size + 1, 1, none⟩ = some (.slice B m e) := (HX.out.ext hx).cell (by omega)))
          clear hL hn3' hm6' HLI HCK HW
          have HFT : Hid (∀ w', Ext W w' → Calls Try.prog 22 #[pgv G p, .agg #[.slice A n c, .slice B m e]] w' (FtR G n F m E w')) := fun w' e => fitP_any (HD.out.ext e) hc (HRa.out.ext e) (HRb.out.ext e) (by unfold maxLen; omega) (by unfold maxLen; omega)
          have HWR : Hid (∀ w', Ext W w' → Calls Try.prog 14 #[pgv G p] w' (WrP G w')) := fun w' e => Writes_ok (HD.out.ext e) hc
          have OK := Lib.hid (chP_ok hc)
          have HCP := Lib.hid hc
          have n2 := OK.out.nc
          have n4 := OK.out.no
          go_upto_region 4 with (go_at_call 22; (with_reducible refine (HFT.out _ (HE.out.trans hx)).mono ?_); rintro e2 w4 ⟨A', k', B', l', rfl, rA, rB, zA, hx4⟩)
          have HY := Lib.hid (box2r w4 (.slice A' G.nc k') (.slice B' G.np l') 44 rfl)
          have HRA := Lib.hid (rA.ext (Ext.alloc w4 (.cells #[.slice A' G.nc k', .slice B' G.np l'] 44)))
          have HRB := Lib.hid (rB.ext (Ext.alloc w4 (.cells #[.slice A' G.nc k', .slice B' G.np l'] 44)))
          have HZA := Lib.hid zA
          have hx5 := (hx.trans hx4).toAlloc (o := .cells #[.slice A' G.nc k', .slice B' G.np l'] 44)
          obtain ⟨W4, hW4⟩ : ∃ W4, W4 = w4.alloc (.cells #[.slice A' G.nc k', .slice B' G.np l'] 44) := ⟨_, rfl⟩
          rw [← hW4] at HY HRA HRB hx5 ⊢
          clear hW4 rA rB zA hx hx4 p0 p1 p2 p3 l0 l1 HFT
          generalize w4.heap.size = gy at *
          have HE4 := Lib.hid (HE.out.trans hx5)
          have H45 := Lib.hid hx5
          clear hx5
          obtain ⟨p0, p1, p2, p3⟩ := HC.out _ H45.out
          have y0 : W4.cell? ⟨gy, 0, none⟩ = some (.slice A' G.nc k') := HY.out.cell (by omega)
          have y1 : W4.cell? ⟨gy, 1, none⟩ = some (.slice B' G.np l') := HY.out.cell (by omega)
          have HRUN : Hid (Calls Try.prog 15 #[pgv G p, .slice A' G.nc k', .slice B' G.np l'] W4 (RunR G (ftC n F) (ftI G m E) W4)) := Run_ok (HD.out.ext HE4.out) HCP.out HRA.out HRB.out HZA.out (ft_ok HCP.out n m F E)
          unfold RunR at HRUN
          go_upto_region 5 with (go_at_call 15; (with_reducible refine HRUN.out.mono ?_); rintro e2 w6 ⟨Ar, kr, Br, lr, rfl, r1, r2, _, _, _, _, _, hx6⟩)
          obtain ⟨RC, hRC⟩ : ∃ RC, runC G.X (ftI G m E) (ftC n F) G.ni = RC := ⟨_, rfl⟩
          rw [hRC] at r1 r2 ⊢
          have HRCW : Hid (∀ i, i < G.nc → wdB (RC.1 i) = true) := by rw [← hRC]; exact runC_wd (fun i _ => ftC_wd n F i) G.ni
          have HRCK : Hid (∀ i, wrB G.ni G.X i = false → RC.1 i = ftC n F i) := fun i hi => by
            rw [← hRC]
            refine runC_keep fun j hj e => ?_
            have hd := (insE_ok (OK.out.ins j hj)).dst
            have : wrB G.ni G.X i = true := wrB_iff.2 ⟨j, hj, by omega⟩
            rw [this] at hi; cases hi
          clear hRC HRUN y0 y1 p0 p1 p2 p3
          have HQ := Lib.hid (box3r w6 (.slice Ar G.nc kr) (.slice Br G.no lr) (.bool RC.2) 35)
          have HR1 := Lib.hid (r1.ext (Ext.alloc w6 (.cells #[.slice Ar G.nc kr, .slice Br G.no lr, .bool RC.2] 35)))
          have HR2 := Lib.hid (r2.ext (Ext.alloc w6 (.cells #[.slice Ar G.nc kr, .slice Br G.no lr, .bool RC.2] 35)))
          have HX6 := Lib.hid (hx6.toAlloc (o := .cells #[.slice Ar G.nc kr, .slice Br G.no lr, .bool RC.2] 35))
          obtain ⟨W6, hW6⟩ : ∃ W6, W6 = w6.alloc (.cells #[.slice Ar G.nc kr, .slice Br G.no lr, .bool RC.2] 35) := ⟨_, rfl⟩
          rw [← hW6] at HQ HR1 HR2 HX6 ⊢
          clear hW6 hx6 r1 r2
          generalize w6.heap.size = gr at *
          obtain ⟨p0, p1, p2, p3⟩ := HC.out _ (H45.out.trans HX6.out)
          go_upto_region 6 with (go_at_call 14; (with_reducible refine (HWR.out _ (HE4.out.trans HX6.out)).mono ?_); rintro e2 w7 ⟨Z, kZ, rfl, rZ, hx7⟩)
          have HX7 := Lib.hid hx7
          have HRZ := Lib.hid rZ
          clear rZ p0 p1 p2 p3
          obtain ⟨p0, p1, p2, p3⟩ := HC.out _ ((H45.out.trans HX6.out).trans hx7)
          have q0 : w7.cell? ⟨gr, 0, none⟩ = some (.slice Ar G.nc kr) := (HQ.out.ext hx7).cell (by omega)
          have q1 : w7.cell? ⟨gr, 1, none⟩ = some (.slice Br G.no lr) := (HQ.out.ext hx7).cell (by omega)
          clear hx7
          have hwl := wrL_le G
          have HWF : Hid (∀ j, j < (wrL G).length → ∃ q : Nat, wrF G j = q ∧ q < G.nc ∧ (wrL G).take (j + 1) = (wrL G).take j ++ [q]) := fun j hj => by
            refine ⟨(wrL G).getD j 0, rfl, ?_, ?_⟩
            · have : (wrL G).getD j 0 ∈ wrL G := by rw [List.getD_eq_getElem?_getD, List.getElem?_eq_getElem hj]; exact List.getElem_mem hj
              exact (mem_mkL.1 this).1
            · rw [List.take_add_one, List.getD_eq_getElem?_getD, List.getElem?_eq_getElem hj]; rfl
          have HTK : Hid ((wrL G).take (wrL G).length = wrL G) := List.take_length
          have HMEM : Hid (∀ i, i < G.nc → decide (i ∈ wrL G) = wrB G.ni G.X i) := fun i hi => by
            unfold wrL
            cases hb : wrB G.ni G.X i
            · simp only [decide_eq_false_iff_not]; intro hh; have := (mem_mkL.1 hh).2; rw [hb] at this; cases this
            · exact decide_eq_true (mem_mkL.2 ⟨hi, hb⟩)
          generalize hLL : wrL G = LL at *
          clear hLL
          have hinfo : LL.length ≤ 192 := by omega
          have hcm : G.nc ≤ maxLen := by unfold maxLen; omega
          have hmk := run_make_row' 49 4 (.bool false) 1 Try.underlying49 infoB rfl .i64 .i64 G.nc (by omega) (by omega)
          go_upto_region 9 with fail
          have HROW := Lib.hid (rowIs_made' w7 (.bool false) G.nc 4 (g := w7.heap.size) rfl)
          have HX8 : Hid (Ext w7 (w7.alloc (.cells (madeCells #[.bool false] G.nc) 4))) := Ext.alloc _ _
          obtain ⟨W8, hW8⟩ : ∃ W8, W8 = w7.alloc (.cells (madeCells #[.bool false] G.nc) 4) := ⟨_, rfl⟩
          rw [← hW8] at HROW HX8 ⊢
          clear hW8 p0 p1 p2 p3 q0 q1 hmk
          obtain ⟨gw, hgw⟩ : ∃ gw, w7.heap.size = gw := ⟨_, rfl⟩
          rw [hgw] at HROW ⊢
          have HGW : Hid (w7.heap.size ≤ gw) := Nat.le_of_eq hgw
          clear hgw
          go_wp2_with fail
          go_loopw [89] (fun s wr => ∃ j : Nat, j ≤ LL.length ∧ s = I j ∧ Hid (wr.rowIs gw 4 G.nc (fun i => .bool (decide (i ∈ LL.take j))) ∧ Ext w7 wr)) (fun s _ => LL.length - (intOf s).toNat)
          case atStart => exact ⟨0, Nat.zero_le _, rfl, HROW.out.congr fun i _ => by simp, HX8.out⟩
          case round =>
            obtain ⟨j, hj, rfl, H⟩ := hrel
            by_cases hlt : j < LL.length
            · have hlt' : (j : Int) < (LL.length : Int) := by omega
              obtain ⟨b, o, ea, hba, hcl⟩ := (HRZ.out.ext H.out.2) (by omega)
              have x0 := hcl j hlt
              obtain ⟨q, hq, hqn, htk⟩ := HWF.out j hlt
              rw [hq] at x0
              have hqn' : (q : Int) < (G.nc : Int) := by omega
              have z0 := H.out.1.cell hqn
              have z1 := H.out.1.frozen q
              have HNX : Hid ((wr.setCell ⟨gw, q, none⟩ (.bool true)).rowIs gw 4 G.nc (fun i => .bool (decide (i ∈ LL.take (j + 1)))) ∧ Ext w7 (wr.setCell ⟨gw, q, none⟩ (.bool true))) := ⟨(H.out.1.set q (.bool true)).congr fun i hi => by
                rw [htk]
                by_cases e : i = q
                · subst e; simp
                · rw [if_neg e]; simp [e], H.out.2.toSet HGW.out⟩
              clear hcl hq htk
              subst ea
              go_wp2_with fail
              go_roundw
              case rel => exact ⟨j + 1, by omega, by go_num, HNX.out⟩
              case measure => simp [intOf]; omega
            · obtain rfl : j = LL.length := by omega
              obtain ⟨wb, hwb⟩ : ∃ wb, wb = wr := ⟨_, rfl⟩
              subst hwb
              have HRW : Hid (wb.rowIs gw 4 G.nc (fun i => .bool (wrB G.ni G.X i))) := H.out.1.congr fun i hi => by rw [HTK.out, HMEM.out i hi]
              have HXB := Lib.hid H.out.2
              have q0 : wb.cell? ⟨gr, 0, none⟩ = some (.slice Ar G.nc kr) := (HQ.out.ext (HX7.out.trans HXB.out)).cell (by omega)
              have HQ7 := Lib.hid (HQ.out.ext (HX7.out.trans HXB.out))
              clear H
              go_wp2_with fail
              clear q0
              go_loopw [108] (fun s wr => ∃ j : Nat, j ≤ G.nc ∧ s = I j ∧ Hid (Ext wb wr)) (fun s _ => G.nc - (intOf s).toNat)
              case atStart => exact ⟨0, Nat.zero_le _, rfl, Ext.refl _⟩
              case round =>
                obtain ⟨j, hj, rfl, H⟩ := hrel
                by_cases hlt2 : j < G.nc
                · have hlt' : (j : Int) < (G.nc : Int) := by omega
                  obtain ⟨b, o, ea, hba, hcl⟩ := (HR1.out.ext (HX7.out.trans (HXB.out.trans H.out))) (by omega)
                  have x0 := hcl j hlt2
                  obtain ⟨b2, o2, eb, hbb, hcl2⟩ := (HRA.out.ext (HX6.out.trans (HX7.out.trans (HXB.out.trans H.out)))) (by omega)
                  have x1 := hcl2 j hlt2
                  have x2 : wr.cell? ⟨gy, 0, none⟩ = some (.slice A' G.nc k') := (HY.out.ext (HX6.out.trans (HX7.out.trans (HXB.out.trans H.out)))).cell (by omega)
                  have x3 := (HRW.out.ext H.out).cell hlt2
                  have hwd := wdB_iff.1 (HRCW.out j hlt2)
                  have hkp := HRCK.out j
                  generalize RC.1 j = v at *
                  generalize ftC n F j = u at *
                  have hd1 : decide (v < -2147483648) = false := by simp; omega
                  have hd2 : decide (2147483648 ≤ v) = false := by simp; omega
                  clear hcl hcl2 hwd
                  cases hb : wrB G.ni G.X j
                  · rw [hb] at x3
                    have huv : v = u := hkp hb
                    have hne : (v != u) = false := by rw [huv]; simp
                    rw [eb] at x2
                    subst ea
                    clear hb huv hkp
                    go_wp2_with fail
                    (first | (go_roundw; (case rel => exact ⟨j + 1, by omega, by go_num, H.out⟩); (case measure => simp [intOf]; omega)) | exact ⟨⟨_, _, _, ⟨j + 1, by omega, by go_num, H.out⟩, rfl, rfl, rfl⟩, by simp [intOf]; omega⟩)
                  · rw [hb] at x3
                    subst ea
                    clear hb hkp
                    go_wp2_with fail
                    (first | (go_roundw; (case rel => exact ⟨j + 1, by omega, by go_num, H.out⟩); (case measure => simp [intOf]; omega)) | exact ⟨⟨_, _, _, ⟨j + 1, by omega, by go_num, H.out⟩, rfl, rfl, rfl⟩, by simp [intOf]; omega⟩)
                · obtain rfl : j = G.nc := by omega
                  obtain ⟨p0, p1, p2, p3⟩ := HC.out _ (H45.out.trans (HX6.out.trans (HX7.out.trans (HXB.out.trans H.out))))
                  obtain ⟨wc, hwc⟩ : ∃ wc, wc = wr := ⟨_, rfl⟩
                  subst hwc
                  have HXC := Lib.hid (HX7.out.trans (HXB.out.trans H.out))
                  clear H
                  go_wp2_with fail
                  clear p0 p1 p2 p3
                  go_loopw [139] (fun s wr => ∃ j : Nat, j ≤ G.no ∧ s = I j ∧ Hid (Ext wc wr)) (fun s _ => G.no - (intOf s).toNat)
                  case atStart => exact ⟨0, Nat.zero_le _, rfl, Ext.refl _⟩
                  case round =>
                    obtain ⟨j, hj, rfl, H⟩ := hrel
                    by_cases hlt3 : j < G.no
                    · have hlt' : (j : Int) < (G.no : Int) := by omega
                      obtain ⟨b3', o3', ec, hbc, hcl3⟩ := (HD.out.ext (HE4.out.trans (HX6.out.trans (HXC.out.trans H.out)))).outs (by omega)
                      have x4 := hcl3 j hlt3
                      obtain ⟨q, hq⟩ : ∃ q : Nat, G.O j = q := ⟨(G.O j).toNat, by have := ixB_iff.1 (OK.out.out j hlt3); omega⟩
                      have hqn : q < G.nc := by have := ixB_iff.1 (OK.out.out j hlt3); omega
                      have hqn' : (q : Int) < (G.nc : Int) := by omega
                      obtain ⟨b, o, ea, hba, hcl⟩ := (HR2.out.ext (HXC.out.trans H.out)) (by omega)
                      have x0 : wr.cell? ⟨b, o + j, none⟩ = some (I (RC.1 q)) := by have := hcl j hlt3; simp only [hq, Int.toNat_natCast] at this; exact this
                      obtain ⟨b2, o2, eb, hbb, hcl2⟩ := (HR1.out.ext (HXC.out.trans H.out)) (by omega)
                      have x1 := hcl2 q hqn
                      have q0 : wr.cell? ⟨gr, 0, none⟩ = some (.slice Ar G.nc kr) := (HQ.out.ext (HXC.out.trans H.out)).cell (by omega)
                      have q1 : wr.cell? ⟨gr, 1, none⟩ = some (.slice Br G.no lr) := (HQ.out.ext (HXC.out.trans H.out)).cell (by omega)
                      rw [hq] at x4
                      rw [ea] at q1
                      rw [eb] at q0
                      generalize RC.1 q = v at *
                      clear hcl hcl2 hcl3 hq
                      go_upto_region 25 with fail
                      go_quiet (fail)
                      go_wp2_with fail
                      (try rw [← ec])
                      (first | (go_roundw; (case rel => exact ⟨j + 1, by omega, by go_num, H.out.trans (Ext.drewN _ _)⟩); (case measure => simp [intOf]; omega)) | exact ⟨⟨_, _, _, ⟨j + 1, by omega, by go_num, H.out.trans (Ext.drewN _ _)⟩, rfl, rfl, rfl⟩, by simp [intOf]; omega⟩)
                    · obtain rfl : j = G.no := by omega
                      go_wp2_with fail
                      go_ret
                      exact ⟨rfl, HE4.out.trans (HX6.out.trans (HXC.out.trans H.out))⟩
        · have hc' : (chP G != 0) = true := by simpa using hc
          generalize chP G = ec at *
          go_wp2_with (first | (go_at_call 10; (with_reducible refine (HW.out _).mono ?_); rintro e1 w1 ⟨rfl, hb1⟩; replace hx := hx.trans hb1; clear hb1; clear p0 p1 p2 p3 l0 l1; obtain ⟨p0, p1, p2, p3⟩ := HC.out _ hx; have l0 : w1.cell? ⟨W.heap.size + 1, 0, none⟩ = some (.slice A n c) := (HX.out.ext hx).cell (by omega); have l1 : w1.cell? ⟨W.heap.size + 1, 1, none⟩ = some (.slice B m e) := (HX.out.ext hx).cell (by omega)) | (go_at_call 11; (with_reducible refine (HLI.out _ (HE.out.trans hx)).mono ?_); rintro e1 w1 ⟨rfl, hb1⟩; replace hx := hx.trans hb1; clear hb1; clear p0 p1 p2 p3 l0 l1; obtain ⟨p0, p1, p2, p3⟩ := HC.out _ hx; have l0 : w1.cell? ⟨W.heap.size + 1, 0, none⟩ = some (.slice A n c) := (HX.out.ext hx).cell (by omega); have l1 : w1.cell? ⟨W.heap.size + 1, 1, none⟩ = some (.slice B m e) := (HX.out.ext hx).cell (by omega)) | (go_at_call 12; (with_reducible refine (HCK.out _ (HE.out.trans hx)).mono ?_); rintro e1 w1 ⟨rfl, hb1⟩; replace hx := hx.trans hb1; clear hb1; clear p0 p1 p2 p3 l0 l1; obtain ⟨p0, p1, p2, p3⟩ := HC.out _ hx; have l0 : w1.cell? ⟨W.heap.size + 1, 0, none⟩ = some (.slice A n c) := (HX.out.ext hx).cell (by omega); have l1 : w1.cell? ⟨W.heap.size + 1, 1, none⟩ = some (.slice B m e) := (HX.out.ext hx).cell (by omega)))
          go_ret
          exact ⟨rfl, HE.out.trans hx⟩
end Go.Proofs.Ytommlhdiefoocaa
