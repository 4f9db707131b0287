/- The fixed-point machine: Run by the code. -/
import Derived.Test.YtkocmdpfknoiaaaGreatDoorKdg
namespace Go.Proofs.YtkocmdpfknoiaaaGreatDoor
open Go Go.RowKit

theorem run_boxes (w : World) (G : Pgm) (p : Pp) (t t' : TypeId) {W1 : World} (h : W1 = (w.alloc (.cells #[.slice p.AP G.np p.cP, .slice p.AC G.nc p.cC, .slice p.AX G.ni p.cX, .slice p.AO G.no p.cO] t)).alloc (.cells #[.slice none 0 0, .slice none 0 0, .bool false] t')) :
    Px W1 w.heap.size G p ∧ W1.heap.size = w.heap.size + 2 ∧ Ext w W1 ∧ W1.rowIs (w.heap.size + 1) t' 3 (b3 (.slice none 0 0) (.slice none 0 0) (.bool false)) := by
  subst h
  exact ⟨(Px.new w G p t).ext (Ext.alloc _ _), by simp, (Ext.alloc _ _).trans (Ext.alloc _ _), by
    have := World.rowIs_alloc (w.alloc (.cells #[.slice p.AP G.np p.cP, .slice p.AC G.nc p.cC, .slice p.AX G.ni p.cX, .slice p.AO G.no p.cO] t)) #[.slice none 0 0, .slice none 0 0, .bool false] t' (b3 (.slice none 0 0) (.slice none 0 0) (.bool false)) (fun i hi => by
      have : i = 0 ∨ i = 1 ∨ i = 2 := by simp at hi; omega
      rcases this with h | h | h <;> subst h <;> rfl)
    rwa [show (w.alloc (.cells #[.slice p.AP G.np p.cP, .slice p.AC G.nc p.cC, .slice p.AX G.ni p.cX, .slice p.AO G.no p.cO] t)).heap.size = w.heap.size + 1 by simp] at this⟩
theorem ret_box {w : World} {g : Nat} {t : TypeId} {f : Nat → Value} (h : w.rowIs g t 3 f) (v0 v1 v2 : Value) :
    (w.setCell ⟨g, 0, none⟩ v0).cell? ⟨g, 0, none⟩ = some v0 ∧ ((w.setCell ⟨g, 0, none⟩ v0).setCell ⟨g, 1, none⟩ v1).cell? ⟨g, 1, none⟩ = some v1 ∧
      (((w.setCell ⟨g, 0, none⟩ v0).setCell ⟨g, 1, none⟩ v1).setCell ⟨g, 2, none⟩ v2).cell? ⟨g, 2, none⟩ = some v2 :=
  ⟨(h.set 0 v0).cell (by omega), ((h.set 0 v0).set 1 v1).cell (by omega), (((h.set 0 v0).set 1 v1).set 2 v2).cell (by omega)⟩
set_option maxRecDepth 100000 in
set_option maxHeartbeats 1000000 in
theorem Run_err1 {w : World} {G : Pgm} {p : Pp} {A B : Option Addr} {n cA m cB : Nat} (d : Pm w G p) (h : chP G ≠ 0) :
    Calls Tryz.prog 20 #[pgv G p, .slice A n cA, .slice B m cB] w fun e w' => e = .returned (.tuple #[.agg #[.slice none 0 0, .slice none 0 0, .bool false], .iface 94 (I (chP G))]) ∧ Ext w w' := by
  have HC : Hid (∀ w', Ext w w' → Calls Tryz.prog 14 #[pgv G p] w' fun e w'' => e = .returned (errv (chP G)) ∧ Ext w' w'') := fun w' e => Check_any (d.ext e)
  rw [errv_n h] at HC
  generalize chP G = ec at *
  clear d h
  obtain ⟨W1, hW1⟩ : ∃ W1, W1 = (w.alloc (.cells #[.slice p.AP G.np p.cP, .slice p.AC G.nc p.cC, .slice p.AX G.ni p.cX, .slice p.AO G.no p.cO] 31)).alloc (.cells #[.slice none 0 0, .slice none 0 0, .bool false] 59) := ⟨_, rfl⟩
  obtain ⟨b1, b2, b3, b4⟩ := run_boxes w G p _ _ hW1
  obtain ⟨c0, c1, c2, c3⟩ := b1
  have HF := Lib.hid b4
  have HE := Lib.hid b3
  have HZ := Lib.hid b2
  clear b4 b3 b2
  go_enter Tryz.func20, Tryz.ntmps20
  go_upto_region 1 with fail
  rw [← hW1]; clear hW1
  go_upto_region 3 with (go_at_call 14; (with_reducible refine (HC.out _ HE.out).mono ?_); rintro e w1 ⟨rfl, hb1⟩)
  have hr := HF.out.ext hb1
  have f0 := hr.frozen
  have r0 : w1.cell? ⟨w.heap.size + 1, 0, none⟩ = some (.slice none 0 0) := hr.cell (by omega)
  have r1 : w1.cell? ⟨w.heap.size + 1, 1, none⟩ = some (.slice none 0 0) := hr.cell (by omega)
  have r2 : w1.cell? ⟨w.heap.size + 1, 2, none⟩ = some (.bool false) := hr.cell (by omega)
  have HQ := Lib.hid (ret_box hr (.slice none 0 0) (.slice none 0 0) (.bool false))
  clear hr
  have HL : Hid (w.heap.size ≤ w.heap.size + 1) := Nat.le_succ _
  have HX := Lib.hid (HE.out.trans hb1)
  clear hb1 c0 c1 c2 c3
  go_wp2_with fail
  exact bodyPost_ret (v := .tuple #[.agg #[.slice none 0 0, .slice none 0 0, .bool false], .iface 94 (I ec)]) (by simp [results, Tryz.results20, go_sem, HQ.out.1, HQ.out.2.1, HQ.out.2.2]) rfl ⟨rfl, ((HX.out.toSet HL.out).toSet HL.out).toSet HL.out⟩
set_option maxRecDepth 100000 in
set_option maxHeartbeats 1000000 in
theorem Run_err2 {w : World} {G : Pgm} {p : Pp} {A B : Option Addr} {n cA m cB : Nat} {c IN : Nat → Int} (d : Pm w G p) (h : chP G = 0) (ra : Ri w A n c) (rb : Ri w B m IN) (hn : n ≤ maxLen) (hm : m ≤ maxLen) (h2 : daE G n c m IN ≠ 0) :
    Calls Tryz.prog 20 #[pgv G p, .slice A n cA, .slice B m cB] w fun e w' => e = .returned (.tuple #[.agg #[.slice none 0 0, .slice none 0 0, .bool false], .iface 94 (I (daE G n c m IN))]) ∧ Ext w w' := by
  have HC : Hid (∀ w', Ext w w' → Calls Tryz.prog 14 #[pgv G p] w' fun e w'' => e = .returned (errv (chP G)) ∧ Ext w' w'') := fun w' e => Check_any (d.ext e)
  rw [h, errv_z] at HC
  have HK : Hid (∀ w', Ext w w' → Calls Tryz.prog 59 #[pgv G p, .slice A n cA, .slice B m cB] w' fun e w'' => e = .returned (errv (daE G n c m IN)) ∧ Ext w' w'') := fun w' e => checkData_any (d.ext e) (ra.ext e) (rb.ext e) hn hm
  rw [errv_n h2] at HK
  generalize daE G n c m IN = ec at *
  clear d h h2 ra rb
  obtain ⟨W1, hW1⟩ : ∃ W1, W1 = (w.alloc (.cells #[.slice p.AP G.np p.cP, .slice p.AC G.nc p.cC, .slice p.AX G.ni p.cX, .slice p.AO G.no p.cO] 31)).alloc (.cells #[.slice none 0 0, .slice none 0 0, .bool false] 59) := ⟨_, rfl⟩
  obtain ⟨b1, b2, b3, b4⟩ := run_boxes w G p _ _ hW1
  obtain ⟨c0, c1, c2, c3⟩ := b1
  have HB := Lib.hid (show Px W1 w.heap.size G p from ⟨c0, c1, c2, c3⟩)
  have HF := Lib.hid b4
  have HE := Lib.hid b3
  have HZ := Lib.hid b2
  clear b4 b3 b2
  go_enter Tryz.func20, Tryz.ntmps20
  go_upto_region 1 with fail
  rw [← hW1]; clear hW1
  go_upto_region 4 with (go_at_call 14; (with_reducible refine (HC.out _ HE.out).mono ?_); rintro e w0 ⟨rfl, hb0⟩)
  clear c0 c1 c2 c3
  obtain ⟨c0, c1, c2, c3⟩ := HB.out.ext hb0
  have HE0 := Lib.hid (HE.out.trans hb0)
  have H00 := Lib.hid hb0
  clear hb0
  go_upto_region 6 with (go_at_call 59; (with_reducible refine (HK.out _ HE0.out).mono ?_); rintro e w1 ⟨rfl, hb1'⟩)
  have hb1 := H00.out.trans hb1'
  clear hb1'
  have hr := HF.out.ext hb1
  have f0 := hr.frozen
  have r0 : w1.cell? ⟨w.heap.size + 1, 0, none⟩ = some (.slice none 0 0) := hr.cell (by omega)
  have r1 : w1.cell? ⟨w.heap.size + 1, 1, none⟩ = some (.slice none 0 0) := hr.cell (by omega)
  have r2 : w1.cell? ⟨w.heap.size + 1, 2, none⟩ = some (.bool false) := hr.cell (by omega)
  have HQ := Lib.hid (ret_box hr (.slice none 0 0) (.slice none 0 0) (.bool false))
  clear hr
  have HL : Hid (w.heap.size ≤ w.heap.size + 1) := Nat.le_succ _
  have HX := Lib.hid (HE.out.trans hb1)
  clear hb1 c0 c1 c2 c3
  go_wp2_with fail
  exact bodyPost_ret (v := .tuple #[.agg #[.slice none 0 0, .slice none 0 0, .bool false], .iface 94 (I ec)]) (by simp [results, Tryz.results20, go_sem, HQ.out.1, HQ.out.2.1, HQ.out.2.2]) rfl ⟨rfl, ((HX.out.toSet HL.out).toSet HL.out).toSet HL.out⟩
set_option maxRecDepth 100000 in
set_option maxHeartbeats 1000000 in
theorem Run_ok {w : World} {G : Pgm} {p : Pp} {A B : Option Addr} {cA m cB : Nat} {c IN : Nat → Int} (d : Pm w G p) (h : chP G = 0) (ra : Ri w A G.nc c) (rb : Ri w B m IN) (hA : A = none → cA = 0) (h2 : daE G G.nc c m IN = 0) :
    Calls Tryz.prog 20 #[pgv G p, .slice A G.nc cA, .slice B m cB] w (RunR G c IN w) := by
  have ok := chP_ok h
  obtain ⟨_, hwd, hmp, hin⟩ := daE_0 h2
  have n1 := ok.np
  have n2 := ok.nc
  have n3 := ok.ni
  have n4 := ok.no
  have HC : Hid (∀ w', Ext w w' → Calls Tryz.prog 14 #[pgv G p] w' fun e w'' => e = .returned (errv (chP G)) ∧ Ext w' w'') := fun w' e => Check_any (d.ext e)
  have HK : Hid (∀ w', Ext w w' → Calls Tryz.prog 59 #[pgv G p, .slice A G.nc cA, .slice B m cB] w' fun e w'' => e = .returned (errv (daE G G.nc c m IN)) ∧ Ext w' w'') := fun w' e => checkData_any (d.ext e) (ra.ext e) (rb.ext e) (by unfold maxLen; omega) (by unfold maxLen; omega)
  have HCL : Hid (∀ w', Ext w w' → Calls Tryz.prog 39 #[.slice A G.nc cA] w' (ClR c G.nc w')) := fun w' e => cloneZ_any (ra.ext e) hA (by omega)
  rw [h, errv_z] at HC
  rw [h2, errv_z] at HK
  have OK := Lib.hid ok
  have HWD := Lib.hid hwd
  have HIN : Hid (∀ i, i < m → wdB (IN i) = true) := fun i hi => by
    have h1 := hin i (by omega)
    have h3 := ok.prt i (by omega)
    have h4 : -2147483648 ≤ (G.P i).lo ∧ (G.P i).lo ≤ (G.P i).hi ∧ (G.P i).hi < 2147483648 := by
      unfold prtE at h3; split at h3
      · rename_i q; omega
      · omega
    exact wdB_iff.2 (by omega)
  have HMP := Lib.hid hmp
  have HX' := Lib.hid d.code
  have HOo := Lib.hid d.outs
  have HRb := Lib.hid rb
  clear d h h2 ra rb ok hwd hmp hin hA
  obtain ⟨W1, hW1⟩ : ∃ W1, W1 = (w.alloc (.cells #[.slice p.AP G.np p.cP, .slice p.AC G.nc p.cC, .slice p.AX G.ni p.cX, .slice p.AO G.no p.cO] 31)).alloc (.cells #[.slice none 0 0, .slice none 0 0, .bool false] 59) := ⟨_, rfl⟩
  obtain ⟨b1, b2, b3, b4⟩ := run_boxes w G p _ _ hW1
  have HB := Lib.hid b1
  obtain ⟨c0, c1, c2, c3⟩ := b1
  have HF := Lib.hid b4
  have HE := Lib.hid b3
  have HZ := Lib.hid b2
  clear b4 b3 b2
  go_enter Tryz.func20, Tryz.ntmps20
  go_upto_region 1 with fail
  rw [← hW1]; clear hW1
  go_upto_region 4 with (go_at_call 14; (with_reducible refine (HC.out _ HE.out).mono ?_); rintro e w0 ⟨rfl, hb0⟩)
  clear c0 c1 c2 c3
  obtain ⟨c0, c1, c2, c3⟩ := HB.out.ext hb0
  have HE0 := Lib.hid (HE.out.trans hb0)
  have H00 := Lib.hid hb0
  clear hb0
  go_upto_region 7 with (go_at_call 59; (with_reducible refine (HK.out _ HE0.out).mono ?_); rintro e W ⟨rfl, hb1⟩)
  clear c0 c1 c2 c3
  have HW := Lib.hid (H00.out.trans hb1)
  have HE2 := Lib.hid (HE0.out.trans hb1)
  clear hb1 H00 HE0 HC HK
  go_upto_region 8 with (go_at_call 39; (with_reducible refine (HCL.out _ HE2.out).mono ?_); rintro e w2 ⟨D, kD, rfl, hO, hx2⟩)
  have HS := Lib.hid (RuS.start hO hx2 rfl)
  have HNZ : Hid (D = none → kD = 0) := hO.nz
  have HDW : Hid (∀ b o, D = some ⟨b, o, none⟩ → w.heap.size ≤ b) := fun b o hD => Nat.le_trans HE2.out.size (hO.blk b o hD).1
  obtain ⟨gb, hgb⟩ : ∃ gb, gb = w2.heap.size := ⟨_, rfl⟩
  rw [← hgb] at HS ⊢
  obtain ⟨W3, hW3⟩ : ∃ W3, W3 = w2.alloc (.cells #[.slice D G.nc kD, .slice none 0 0, .bool false] 59) := ⟨_, rfl⟩
  rw [← hW3] at HS ⊢
  clear hO hx2 hW3 hgb HCL
  obtain ⟨c0, c1, c2, c3⟩ := HB.out.ext (HW.out.trans HS.out.ext)
  go_wp2_with fail
  clear c0 c1 c2 c3
  go_loopw [37] (fun s wr => ∃ j : Nat, j ≤ G.ni ∧ s = I j ∧ Hid (RuS W wr gb D kD G.nc (runC G.X IN c j).1 none 0 0 (runC G.X IN c j).2)) (fun s _ => G.ni - (intOf s).toNat)
  case atStart => exact ⟨0, Nat.zero_le _, rfl, HS⟩
  case round =>
    obtain ⟨j, hj, rfl, HR⟩ := hrel
    have hlt' : ((j : Int) < (G.ni : Int)) ↔ j < G.ni := by omega
    by_cases hlt : j < G.ni
    · replace hlt' := hlt'.2 hlt
      obtain ⟨b, o, ha, hba, hc⟩ := (HX'.out.ext (HE2.out.trans HR.out.ext)) (by omega)
      obtain ⟨x0, x1, x2, x3, x4, x5, x6⟩ := hc j hlt
      have iok := insE_ok (OK.out.ins j hlt)
      have hnc : 0 < G.nc := by have := iok.dst; omega
      obtain ⟨g, _, _, hD, hgW, hgb, _⟩ := HR.out.row hnc
      subst hD
      have HRES : Hid (∀ w', Ext wr w' → Calls Tryz.prog 60 #[insV (G.X j), .slice (some ⟨g, 0, none⟩) G.nc kD, .slice B m cB] w' fun e w'' => e = .returned (I (reC (G.X j) (runC G.X IN c j).1 IN)) ∧ Ext w' w'') := fun w' e =>
        result_any (by rw [HMP.out]; exact iok) (HR.out.ri.ext e) (HRb.out.ext (HE2.out.trans (HR.out.ext.trans e))) (runC_wd HWD.out j) HIN.out
      obtain ⟨dd, hdd⟩ : ∃ dd : Nat, (G.X j).dst = dd := ⟨(G.X j).dst.toNat, by have := iok.dst; omega⟩
      have hdn : dd < G.nc := by have := iok.dst; omega
      have hdn' : (dd : Int) < (G.nc : Int) := by omega
      have HST := Lib.hid (runC_step G.X IN c j)
      generalize reC (G.X j) (runC G.X IN c j).1 IN = E at *
      have gl := HR.out.box.lt
      have c0 := HR.out.c0
      rw [hdd] at x1
      have HDD := Lib.hid hdd
      clear hc iok hdd
      have HV : Hid (insV (G.X j) = .agg #[I (G.X j).op, I dd, I (G.X j).a, I (G.X j).b, I (G.X j).sa, I (G.X j).sb, I (G.X j).im]) := by show insV _ = _; unfold insV; rw [HDD.out]
      rw [HV.out] at HRES
      clear HV
      go_upto_region 12 with (go_at_call 60; (with_reducible refine (HRES.out _ (Ext.alloc _ _)).mono ?_); rintro e w1 ⟨rfl, hb1⟩)
      have HY := Lib.hid ((Ext.alloc wr (.cells #[I (G.X j).op, I dd, I (G.X j).a, I (G.X j).b, I (G.X j).sa, I (G.X j).sb, I (G.X j).im] 83)).trans hb1)
      have y1 : w1.cell? ⟨wr.heap.size, 1, none⟩ = some (I dd) := (hb1.old.1 _ _ (by simp)).trans (by go_simp)
      clear x0 x1 x2 x3 x4 x5 x6 c0 hb1
      have HR1 := Lib.hid (HR.out.step HY.out)
      clear HRES
      generalize runC G.X IN c j = RC at *
      by_cases l1 : E < -2147483648
      · have hs : sat E = -2147483648 := by unfold sat kcl; rw [if_pos l1]
        have hne : ((-2147483648 : Int) != E) = true := by simp; omega
        have hse : (!(sat E == E)) = true := by rw [hs]; exact hne
        have HST2 := Lib.hid (show runC G.X IN c (j + 1) = _ from HST.out)
        rw [hse, hs, HDD.out, Int.toNat_natCast] at HST2
        have HP := Lib.hid (HR1.out.put dd hdn (-2147483648))
        obtain ⟨q1, q2, q3⟩ := HR1.out.at_ hdn
        have p0 := HR1.out.c0
        have p2 := HR1.out.c2
        clear hs hse
        go_upto_region 14 with fail
        obtain ⟨w5, hw5⟩ : ∃ w5, w5 = w1.setCell ⟨g, dd, none⟩ (I (-2147483648)) := ⟨_, rfl⟩
        rw [← hw5] at HP ⊢
        clear hw5 q1 q2 q3 p0 p2 y1
        have p2 := HP.out.c2
        have p3 := HP.out.box.frozen 2
        have HFL := Lib.hid fun b => HP.out.flag b
        clear HR1 HR
        cases hov : RC.2
        all_goals
          rw [hov] at p2
          go_wp2_with fail
          (first | exact ⟨⟨_, _, _, _, ⟨j + 1, (by omega), (by go_num), (by rw [HST2.out, hov]; exact HFL.out _)⟩, rfl, rfl, rfl, rfl⟩, by simp [intOf]; omega⟩ | (rw [← ha]; go_roundw; (case rel => exact ⟨j + 1, (by omega), (by go_num), (by rw [HST2.out, hov]; exact HFL.out _)⟩); (case measure => simp [intOf]; omega)))
      · by_cases l2 : 2147483647 < E
        · have hs : sat E = 2147483647 := by unfold sat kcl; rw [if_neg l1, if_pos l2]
          have hne : ((2147483647 : Int) != E) = true := by simp; omega
          have hse : (!(sat E == E)) = true := by rw [hs]; exact hne
          have HST2 := Lib.hid (show runC G.X IN c (j + 1) = _ from HST.out)
          rw [hse, hs, HDD.out, Int.toNat_natCast] at HST2
          have HP := Lib.hid (HR1.out.put dd hdn (2147483647))
          obtain ⟨q1, q2, q3⟩ := HR1.out.at_ hdn
          have p0 := HR1.out.c0
          have p2 := HR1.out.c2
          clear hs hse
          go_upto_region 14 with fail
          obtain ⟨w5, hw5⟩ : ∃ w5, w5 = w1.setCell ⟨g, dd, none⟩ (I (2147483647)) := ⟨_, rfl⟩
          rw [← hw5] at HP ⊢
          clear hw5 q1 q2 q3 p0 p2 y1
          have p2 := HP.out.c2
          have p3 := HP.out.box.frozen 2
          have HFL := Lib.hid fun b => HP.out.flag b
          clear HR1 HR
          cases hov : RC.2
          all_goals
            rw [hov] at p2
            go_wp2_with fail
            (first | exact ⟨⟨_, _, _, _, ⟨j + 1, (by omega), (by go_num), (by rw [HST2.out, hov]; exact HFL.out _)⟩, rfl, rfl, rfl, rfl⟩, by simp [intOf]; omega⟩ | (rw [← ha]; go_roundw; (case rel => exact ⟨j + 1, (by omega), (by go_num), (by rw [HST2.out, hov]; exact HFL.out _)⟩); (case measure => simp [intOf]; omega)))
        · have hs : sat E = E := kcl_id (by omega) (by omega)
          have hne : (E != E) = false := by simp
          have hse : (!(sat E == E)) = false := by rw [hs]; exact hne
          have HST2 := Lib.hid (show runC G.X IN c (j + 1) = _ from HST.out)
          rw [hse, hs, HDD.out, Int.toNat_natCast] at HST2
          have HP := Lib.hid (HR1.out.put dd hdn (E))
          obtain ⟨q1, q2, q3⟩ := HR1.out.at_ hdn
          have p0 := HR1.out.c0
          have p2 := HR1.out.c2
          clear hs hse
          go_upto_region 14 with fail
          obtain ⟨w5, hw5⟩ : ∃ w5, w5 = w1.setCell ⟨g, dd, none⟩ (I (E)) := ⟨_, rfl⟩
          rw [← hw5] at HP ⊢
          clear hw5 q1 q2 q3 p0 p2 y1
          have p2 := HP.out.c2
          have p3 := HP.out.box.frozen 2
          have HFL := Lib.hid fun b => HP.out.flag b
          clear HR1 HR
          cases hov : RC.2
          all_goals
            rw [hov] at p2
            go_wp2_with fail
            (first | exact ⟨⟨_, _, _, _, ⟨j + 1, (by omega), (by go_num), (by rw [HST2.out, hov]; exact HFL.out _)⟩, rfl, rfl, rfl, rfl⟩, by simp [intOf]; omega⟩ | (rw [← ha]; go_roundw; (case rel => exact ⟨j + 1, (by omega), (by go_num), (by rw [HST2.out, hov]; exact HFL.out _)⟩); (case measure => simp [intOf]; omega)))
    · obtain rfl : j = G.ni := by omega
      obtain ⟨RC, hRC⟩ : ∃ RC, runC G.X IN c G.ni = RC := ⟨_, rfl⟩
      rw [hRC] at HR
      have HRC := Lib.hid hRC
      clear hRC
      obtain ⟨wb, hwb⟩ : ∃ wb, wb = wr := ⟨_, rfl⟩
      subst hwb
      have HBB := Lib.hid (HB.out.ext (HW.out.trans HR.out.ext))
      have HG1 := Lib.hid HR.out.box.lt
      have HG2 : Hid (0 < G.nc → ∀ b o, D = some ⟨b, o, none⟩ → b < wb.heap.size) := fun h0 b o hD => by
        obtain ⟨g, N, f, e1, _, _, _, e5, _⟩ := HR.out.row h0
        rw [hD] at e1; cases e1; exact e5.lt
      have HWB : Hid (W.heap.size ≤ wb.heap.size) := HR.out.ext.size
      obtain ⟨c0, c1, c2, c3⟩ := HBB.out
      go_wp2_with fail
      clear c0 c1 c2 c3
      go_loopw [67] (fun s wr => ∃ (j : Nat) (Bo : Option Addr) (l : Nat), j ≤ G.no ∧ s = I j ∧ Hid (RuS W wr gb D kD G.nc RC.1 Bo j l RC.2 ∧ OwI wr wb.heap.size Bo l (fun i => RC.1 (G.O i).toNat) j ∧ wb.heap.size ≤ wr.heap.size)) (fun s _ => G.no - (intOf s).toNat)
      case atStart => exact ⟨0, none, 0, Nat.zero_le _, rfl, HR.out, OwI.nil _ _ _, Nat.le_refl _⟩
      case round =>
        obtain ⟨j, Bo, l, hj, rfl, HQ⟩ := hrel
        by_cases hlt : j < G.no
        · have hlt' : (j : Int) < (G.no : Int) := by omega
          obtain ⟨b, o, ha, hba, hc⟩ := (HOo.out.ext (HE2.out.trans HQ.out.1.ext)) (by omega)
          have xo := hc j hlt
          obtain ⟨q, hq⟩ : ∃ q : Nat, G.O j = q := ⟨(G.O j).toNat, by have := ixB_iff.1 (OK.out.out j hlt); omega⟩
          have hqn : q < G.nc := by have := ixB_iff.1 (OK.out.out j hlt); omega
          have hqn' : (q : Int) < (G.nc : Int) := by omega
          have HVQ : Hid (RC.1 (G.O j).toNat = RC.1 q) := by show _ = _; rw [hq, Int.toNat_natCast]
          rw [hq] at xo
          obtain ⟨g, _, _, hD, _, hgb, _⟩ := HQ.out.1.row (by omega)
          subst hD
          obtain ⟨q1, q2, q3⟩ := HQ.out.1.at_ hqn
          have p0 := HQ.out.1.c0
          have p1 := HQ.out.1.c1
          have gl := HQ.out.1.box.lt
          have HPF := Lib.hid (HQ.out.1.box.frozen 1)
          clear hc hq
          go_upto_region 19 with fail
          have wsz := HQ.out.2.2
          clear xo
          go_region_law (refine appI_step rfl _ _ rfl wb.heap.size Bo l (fun i => RC.1 (G.O i).toNat) j rfl (HQ.out.2.1.ext (by (with_reducible (repeat (first | exact Ext.refl _ | assumption | (refine Ext.toSet ?_ (by omega)) | refine Ext.toAlloc ?_ | refine Ext.toDrew ?_ | refine Ext.toDrewN ?_ | refine Ext.trans ?_ (by assumption)))); (first | done | fail "no"))) _ _ rfl (by show _ = some (I (RC.1 (G.O j).toNat)); rw [HVQ.out]; go_simp) (by omega) (by simp; omega) ?_; intro g9 cap w9 hown hgrow hat hltg; have ST := Lib.hid ((HQ.out.1.step (show Ext wr _ from (by (with_reducible (repeat (first | exact Ext.refl _ | assumption | (refine Ext.toSet ?_ (by omega)) | refine Ext.toAlloc ?_ | refine Ext.toDrew ?_ | refine Ext.toDrewN ?_ | refine Ext.trans ?_ (by assumption)))); (first | done | fail "no")))).grown hgrow HG1.out HG2.out (fun r hr => (HQ.out.2.1.lt r hr).1) HWB.out); have OWN := Lib.hid hown; have f1 := ST.out.c1; have f2 := ST.out.box.frozen 1; have SZ : Hid (wb.heap.size ≤ w9.heap.size) := Nat.le_trans (Nat.le_trans HQ.out.2.2 (show Ext wr _ from (by (with_reducible (repeat (first | exact Ext.refl _ | assumption | (refine Ext.toSet ?_ (by omega)) | refine Ext.toAlloc ?_ | refine Ext.toDrew ?_ | refine Ext.toDrewN ?_ | refine Ext.trans ?_ (by assumption)))); (first | done | fail "no"))).size) hgrow.size; clear hown hgrow hat hltg)
          all_goals
            go_wp2_with fail
            (first | exact ⟨⟨_, _, ⟨j + 1, some ⟨g9, 0, none⟩, cap, (by omega), (by go_num), ST.out.outs _ _ _, OWN.out.off HG1.out 1 _, (by simpa using SZ.out)⟩, rfl, rfl⟩, by simp [intOf]; omega⟩ | exact ⟨⟨_, ⟨j + 1, some ⟨g9, 0, none⟩, cap, (by omega), (by go_num), ST.out.outs _ _ _, OWN.out.off HG1.out 1 _, (by simpa using SZ.out)⟩, rfl⟩, by simp [intOf]; omega⟩ | exact ⟨⟨j + 1, some ⟨g9, 0, none⟩, cap, (by omega), (by go_num), ST.out.outs _ _ _, OWN.out.off HG1.out 1 _, (by simpa using SZ.out)⟩, by simp [intOf]; omega⟩ | ((try rw [← ha]); go_roundw; (case rel => exact ⟨j + 1, some ⟨g9, 0, none⟩, cap, (by omega), (by go_num), ST.out.outs _ _ _, OWN.out.off HG1.out 1 _, (by simpa using SZ.out)⟩); (case measure => simp [intOf]; omega)))
        · obtain rfl : j = G.no := by omega
          have hr := HF.out.ext (HW.out.trans HQ.out.1.ext)
          have f0 := hr.frozen
          have r0 : wr.cell? ⟨w.heap.size + 1, 0, none⟩ = some (.slice none 0 0) := hr.cell (by omega)
          have r1 : wr.cell? ⟨w.heap.size + 1, 1, none⟩ = some (.slice none 0 0) := hr.cell (by omega)
          have r2 : wr.cell? ⟨w.heap.size + 1, 2, none⟩ = some (.bool false) := hr.cell (by omega)
          have HQQ := Lib.hid (ret_box hr (.slice D G.nc kD) (.slice Bo G.no l) (.bool RC.2))
          have p0 := HQ.out.1.c0
          have p1 := HQ.out.1.c1
          have p2 := HQ.out.1.c2
          have HL : Hid (w.heap.size ≤ w.heap.size + 1) := Nat.le_succ _
          have HX := Lib.hid (HE2.out.trans HQ.out.1.ext)
          have HN1 : Hid (0 < G.nc → ∀ b o, D = some ⟨b, o, none⟩ → b ≠ w.heap.size + 1) := fun h0 b o hD => by
            obtain ⟨g, N, f, e1, e2, _⟩ := HQ.out.1.row h0
            rw [hD] at e1; cases e1
            have h1 := HW.out.size
            have h2 := HZ.out
            omega
          have HN2 : Hid (0 < G.no → ∀ b o, Bo = some ⟨b, o, none⟩ → b ≠ w.heap.size + 1) := fun _ b o hB => by
            have h1 := (HQ.out.2.1.blk b o hB).1
            have h2 := HW.out.size
            have h3 := HZ.out
            have h4 := HWB.out
            omega
          have R1 := Lib.hid (((HQ.out.1.ri.setOther (a := ⟨w.heap.size + 1, 0, none⟩) HN1.out (.slice D G.nc kD)).setOther (a := ⟨w.heap.size + 1, 1, none⟩) HN1.out (.slice Bo G.no l)).setOther (a := ⟨w.heap.size + 1, 2, none⟩) HN1.out (.bool RC.2))
          have R2 := Lib.hid (((HQ.out.2.1.ri.setOther (a := ⟨w.heap.size + 1, 0, none⟩) HN2.out (.slice D G.nc kD)).setOther (a := ⟨w.heap.size + 1, 1, none⟩) HN2.out (.slice Bo G.no l)).setOther (a := ⟨w.heap.size + 1, 2, none⟩) HN2.out (.bool RC.2))
          have HNB := Lib.hid HQ.out.2.1.nz
          have HBW : Hid (∀ b o, Bo = some ⟨b, o, none⟩ → w.heap.size ≤ b) := fun b o hB => Nat.le_trans (Nat.le_trans HE2.out.size HWB.out) (HQ.out.2.1.blk b o hB).1
          have hnc := OK.out.nc
          have HLM : Hid (G.nc ≤ maxLen) := by show _ ≤ _; unfold maxLen; omega
          clear hr
          go_wp2_with fail
          exact bodyPost_ret (v := .tuple #[.agg #[.slice D G.nc kD, .slice Bo G.no l, .bool RC.2], .nilIface]) (by simp [results, Tryz.results20, go_sem, HQQ.out.1, HQQ.out.2.1, HQQ.out.2.2]) rfl ⟨D, kD, Bo, l, by rw [HRC.out], by rw [HRC.out]; exact R1.out, by rw [HRC.out]; exact R2.out, HNZ.out, HNB.out, HDW.out, HBW.out, HLM.out, ((HX.out.toSet HL.out).toSet HL.out).toSet HL.out⟩
end Go.Proofs.YtkocmdpfknoiaaaGreatDoor
